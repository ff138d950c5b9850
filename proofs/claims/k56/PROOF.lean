import PyProof.Rows.All
import Wide.All
import OpenK.AllK
import Wide.FinOn
import HandS.ForMost
import HandS.Wide
import HandS.WideBits
import KE.KStateDown
import HandS.WordsExc
import HandS.Defaults
import HandS.Head0
import HandS.Head1
import HandS.Head2
import HandS.Head3
import HandS.HeadEnd
import HandS.HeadHook1
import HandS.HeadHook2
import HandS.More
import PyProof.ListStr
import HandS.Codes
import HandS.Keys
import KE.KDictPairs
import KE.SortData
import HandS.Set
import HandS.SetFor
import HandS.TupSets
import HandS.Strs
import HandS.Conv
import HandS.Walk
import HandS.IsInst
import HandS.Deep
import HandS.OwnEq
import HandS.DictComp
import PyProof.ZipIter
import PyProof.CallType
import PyProof.Walk
import PyProof.WalkLemmas
import PyProof.RangeIter
import PyProof.RulesTry
import PyProof.CollectWalk
import HandS.Style
import HandS.Zip
import HandS.TupAny
import HandS.SortInts
import HandS.WordsDict
import KE.KMathG
import HandS.Gcd
import HandS.Flow
import HandS.ListItems
import HandS.Dict
import HandS.Small
import KE.KDictList
import KE.KDictKeyed
import KE.KDictWalk
import KE.KDictDisplayH
import PyProof.DictValues
import HandS.List
import HandS.Iter
import KE.KTupSum
import PySem.Challenge.RW_evenfriends_k56_whole_even_families_and
set_option Elab.async false
set_option linter.all false
section
set_option maxRecDepth 100000
set_option maxHeartbeats 4000000
namespace Wd
open PySem L2
def top (i : Nat) : Stmt := PySem.Challenge.pw_evenfriends_k56_whole_even_families_and.main.body.getD i (.Pass ⟨0, 0, 0, 0⟩)
abbrev cl_FriendError : Stmt := top 1
abbrev cl_InvalidCount : Stmt := top 2
-- InvalidCount.__init__: ['self', 'value']
abbrev sp_is_count : Stmt := top 4
theorem cp_is_count : FnScope ["value"] ["value"] (defScope sp_is_count) := ⟨rfl, rfl, rfl, by decide +kernel, rfl, by decide +kernel, by decide +kernel⟩
abbrev sp_check_many : Stmt := top 6
theorem cp_check_many : FnScope ["many"] ["many"] (defScope sp_check_many) := ⟨rfl, rfl, rfl, by decide +kernel, rfl, by decide +kernel, by decide +kernel⟩
abbrev sp_untied_number : Stmt := top 8
theorem cp_untied_number : FnScope ["size", "found", "half"] ["size"] (defScope sp_untied_number) := ⟨rfl, rfl, rfl, by decide +kernel, rfl, by decide +kernel, by decide +kernel⟩
abbrev sp_even_spaces : Stmt := top 9
theorem cp_even_spaces : FnScope ["half", "size", "above", "below", "at"] ["half", "size"] (defScope sp_even_spaces) := ⟨rfl, rfl, rfl, by decide +kernel, rfl, by decide +kernel, by decide +kernel⟩
abbrev sp_family_number : Stmt := top 10
theorem cp_family_number : FnScope ["many", "size", "half", "with_all"] ["many", "size"] (defScope sp_family_number) := ⟨rfl, rfl, rfl, by decide +kernel, rfl, by decide +kernel, by decide +kernel⟩
abbrev sp_check_size : Stmt := top 12
theorem cp_check_size : FnScope ["size"] ["size"] (defScope sp_check_size) := ⟨rfl, rfl, rfl, by decide +kernel, rfl, by decide +kernel, by decide +kernel⟩
abbrev sp_even_families : Stmt := top 14
theorem cp_even_families : FnScope ["many", "size"] ["many", "size"] (defScope sp_even_families) := ⟨rfl, rfl, rfl, by decide +kernel, rfl, by decide +kernel, by decide +kernel⟩
abbrev sp_untied_companies : Stmt := top 15
theorem cp_untied_companies : FnScope ["size"] ["size"] (defScope sp_untied_companies) := ⟨rfl, rfl, rfl, by decide +kernel, rfl, by decide +kernel, by decide +kernel⟩
abbrev s_purse : Stmt := top 17
theorem c_purse : FnScope ["_law_script", "_law_at", "_law_seed"] ["_law_script", "_law_at"] (defScope s_purse) := ⟨rfl, rfl, rfl, by decide +kernel, rfl, by decide +kernel, by decide +kernel⟩
abbrev s_mixed : Stmt := top 18
theorem c_mixed : FnScope ["_law_seed", "_law_turn", "_law_at", "_law_mixed_here"] ["_law_seed", "_law_turn", "_law_at"] (defScope s_mixed) := ⟨rfl, rfl, rfl, by decide +kernel, rfl, by decide +kernel, by decide +kernel⟩
abbrev s_draw : Stmt := top 19
theorem c_draw : FnScope ["_law_purse_here", "_law_many", "_law_drawn", "_law_found", "_law_piece"] ["_law_purse_here", "_law_many"] (defScope s_draw) := ⟨rfl, rfl, rfl, by decide +kernel, rfl, by decide +kernel, by decide +kernel⟩
abbrev s_purses : Stmt := top 20
theorem c_purses : FnScope ["_law_script", "_law_few", "_law_at"] ["_law_script", "_law_few"] (defScope s_purses) := ⟨rfl, rfl, rfl, by decide +kernel, rfl, by decide +kernel, by decide +kernel⟩
abbrev s_exact : Stmt := top 21
theorem c_exact : FnScope ["_law_mine", "_law_theirs", "_law_alike", "_law_a", "_law_b", "_law_key"] ["_law_mine", "_law_theirs"] (defScope s_exact) := ⟨rfl, rfl, rfl, by decide +kernel, rfl, by decide +kernel, by decide +kernel⟩
abbrev s_pairs : Stmt := top 22
theorem c_pairs : FnScope ["_law_crowd", "_law_found", "_law_at", "_law_late"] ["_law_crowd"] (defScope s_pairs) := ⟨rfl, rfl, rfl, by decide +kernel, rfl, by decide +kernel, by decide +kernel⟩
abbrev s_power : Stmt := top 23
theorem c_power : FnScope ["_law_number", "_law_found", "_law_turn"] ["_law_number"] (defScope s_power) := ⟨rfl, rfl, rfl, by decide +kernel, rfl, by decide +kernel, by decide +kernel⟩
abbrev s_untied_to : Stmt := top 24
theorem c_untied_to : FnScope ["_law_most", "_law_at", "_law_powers", "_law_table", "_law_found", "_law_many", "_law_last"] ["_law_most"] (defScope s_untied_to) := ⟨rfl, rfl, rfl, by decide +kernel, rfl, by decide +kernel, by decide +kernel⟩
abbrev s_families : Stmt := top 25
theorem c_families : FnScope ["_law_many", "_law_size", "_law_ways", "_law_orders", "_law_at", "_law_below"] ["_law_many", "_law_size"] (defScope s_families) := ⟨rfl, rfl, rfl, by decide +kernel, rfl, by decide +kernel, by decide +kernel⟩
abbrev s_lists : Stmt := top 26
theorem c_lists : FnScope ["_law_many", "_law_found", "_law_turn", "_law_row"] ["_law_many"] (defScope s_lists) := ⟨rfl, rfl, rfl, by decide +kernel, rfl, by decide +kernel, by decide +kernel⟩
abbrev s_differ : Stmt := top 27
theorem c_differ : FnScope ["_law_first", "_law_second", "_law_one", "_law_late"] ["_law_first", "_law_second"] (defScope s_differ) := ⟨rfl, rfl, rfl, by decide +kernel, rfl, by decide +kernel, by decide +kernel⟩
abbrev s_share : Stmt := top 28
theorem c_share : FnScope ["_law_first", "_law_second", "_law_one", "_law_late"] ["_law_first", "_law_second"] (defScope s_share) := ⟨rfl, rfl, rfl, by decide +kernel, rfl, by decide +kernel, by decide +kernel⟩
abbrev s_counted_families : Stmt := top 29
theorem c_counted_families : FnScope ["_law_many", "_law_row", "_law_even", "_law_layer", "_law_numbers", "_law_found", "_law_family", "_law_late", "_law_more"] ["_law_many"] (defScope s_counted_families) := ⟨rfl, rfl, rfl, by decide +kernel, rfl, by decide +kernel, by decide +kernel⟩
abbrev s_counted_untied : Stmt := top 30
theorem c_counted_untied : FnScope ["_law_size", "_law_pairs_here", "_law_found", "_law_flags", "_law_pair", "_law_flag", "_law_row", "_law_lists_here", "_law_person", "_law_friends", "_law_at", "_law_mine"] ["_law_size"] (defScope s_counted_untied) := ⟨rfl, rfl, rfl, by decide +kernel, rfl, by decide +kernel, by decide +kernel⟩
abbrev s_law : Stmt := top 31
theorem c_law : FnScope ["_law_script", "_law_purse_here", "_law_many", "_law_numbers", "_law_size", "_law_untied", "_law_turn", "_law_told"] ["_law_script"] (defScope s_law) := ⟨rfl, rfl, rfl, by decide +kernel, rfl, by decide +kernel, by decide +kernel⟩
end Wd
end
section
set_option maxRecDepth 100000
set_option maxHeartbeats 0
namespace Wd
open PySem PySem.Spec PyProof.Rows L2
def d0 : He.DefD := ⟨("is_count", none), "is_count", "is_count", defArgs sp_is_count, defBody sp_is_count, defScope sp_is_count, [], []⟩
def d1 : He.DefD := ⟨("check_many", none), "check_many", "check_many", defArgs sp_check_many, defBody sp_check_many, defScope sp_check_many, [], []⟩
def d2 : He.DefD := ⟨("untied_number", none), "untied_number", "untied_number", defArgs sp_untied_number, defBody sp_untied_number, defScope sp_untied_number, [], []⟩
def d3 : He.DefD := ⟨("even_spaces", none), "even_spaces", "even_spaces", defArgs sp_even_spaces, defBody sp_even_spaces, defScope sp_even_spaces, [], []⟩
def d4 : He.DefD := ⟨("family_number", none), "family_number", "family_number", defArgs sp_family_number, defBody sp_family_number, defScope sp_family_number, [], []⟩
def d5 : He.DefD := ⟨("check_size", none), "check_size", "check_size", defArgs sp_check_size, defBody sp_check_size, defScope sp_check_size, [], []⟩
def d6 : He.DefD := ⟨("even_families", none), "even_families", "even_families", defArgs sp_even_families, defBody sp_even_families, defScope sp_even_families, [], []⟩
def d7 : He.DefD := ⟨("untied_companies", none), "untied_companies", "untied_companies", defArgs sp_untied_companies, defBody sp_untied_companies, defScope sp_untied_companies, [], []⟩
def d8 : He.DefD := ⟨("_law_purse", none), "_law_purse", "_law_purse", defArgs s_purse, defBody s_purse, defScope s_purse, [], []⟩
def d9 : He.DefD := ⟨("_law_mixed", none), "_law_mixed", "_law_mixed", defArgs s_mixed, defBody s_mixed, defScope s_mixed, [], []⟩
def d10 : He.DefD := ⟨("_law_draw", none), "_law_draw", "_law_draw", defArgs s_draw, defBody s_draw, defScope s_draw, [], []⟩
def d11 : He.DefD := ⟨("_law_purses", none), "_law_purses", "_law_purses", defArgs s_purses, defBody s_purses, defScope s_purses, [], []⟩
def d12 : He.DefD := ⟨("_law_exact", none), "_law_exact", "_law_exact", defArgs s_exact, defBody s_exact, defScope s_exact, [], []⟩
def d13 : He.DefD := ⟨("_law_pairs", none), "_law_pairs", "_law_pairs", defArgs s_pairs, defBody s_pairs, defScope s_pairs, [], []⟩
def d14 : He.DefD := ⟨("_law_power", none), "_law_power", "_law_power", defArgs s_power, defBody s_power, defScope s_power, [], []⟩
def d15 : He.DefD := ⟨("_law_untied_to", none), "_law_untied_to", "_law_untied_to", defArgs s_untied_to, defBody s_untied_to, defScope s_untied_to, [], []⟩
def d16 : He.DefD := ⟨("_law_families", none), "_law_families", "_law_families", defArgs s_families, defBody s_families, defScope s_families, [], []⟩
def d17 : He.DefD := ⟨("_law_lists", none), "_law_lists", "_law_lists", defArgs s_lists, defBody s_lists, defScope s_lists, [], []⟩
def d18 : He.DefD := ⟨("_law_differ", none), "_law_differ", "_law_differ", defArgs s_differ, defBody s_differ, defScope s_differ, [], []⟩
def d19 : He.DefD := ⟨("_law_share", none), "_law_share", "_law_share", defArgs s_share, defBody s_share, defScope s_share, [], []⟩
def d20 : He.DefD := ⟨("_law_counted_families", none), "_law_counted_families", "_law_counted_families", defArgs s_counted_families, defBody s_counted_families, defScope s_counted_families, [], []⟩
def d21 : He.DefD := ⟨("_law_counted_untied", none), "_law_counted_untied", "_law_counted_untied", defArgs s_counted_untied, defBody s_counted_untied, defScope s_counted_untied, [], []⟩
def d22 : He.DefD := ⟨("law", none), "law", "law", defArgs s_law, defBody s_law, defScope s_law, [], []⟩
def fn0 : List He.DefD := [d0, d1, d2, d3, d4, d5, d6, d7, d8, d9, d10, d11, d12, d13, d14, d15, d16, d17, d18, d19]
def fn1 : List He.DefD := [d20, d21, d22]
def fnA : List He.DefD := fn0 ++ fn1
def fa0 : List He.Fa := [.glo "is_count", .glo "check_many", .glo "untied_number", .glo "even_spaces", .glo "family_number", .glo "check_size", .glo "even_families", .glo "untied_companies", .glo "_law_purse", .glo "_law_mixed", .glo "_law_draw", .glo "_law_purses", .glo "_law_exact", .glo "_law_pairs", .glo "_law_power", .glo "_law_untied_to", .glo "_law_families", .glo "_law_lists", .glo "_law_differ", .glo "_law_share"]
def fa1 : List He.Fa := [.glo "_law_counted_families", .glo "_law_counted_untied", .glo "law", .free "sum", .free "max", .free "min", .free "int", .free "range", .free "len", .free "sorted", .free "list", .free "dict", .free "set", .free "all", .free "zip", .free "isinstance", .free "str", .free "tuple", .free "bool", .free "any"]
def faA : List He.Fa := fa0 ++ fa1
def nm0 : List PySem.Str := ["FriendError", "InvalidCount", "is_count", "check_many", "untied_number", "even_spaces", "family_number", "check_size", "even_families", "untied_companies", "_law_purse", "_law_mixed", "_law_draw", "_law_purses", "_law_exact", "_law_pairs", "_law_power", "_law_untied_to", "_law_families", "_law_lists"]
def nm1 : List PySem.Str := ["_law_differ", "_law_share", "_law_counted_families", "_law_counted_untied"]
def nmA : List PySem.Str := nm0 ++ nm1
def lawAt : Nat := 31
/-- the tuple of kinds, as it stands at the top -/
def tupB (K : PySem.W.Frag) : Bool := match List.lookup (He.ga K "KINDS") K with
  | some o => (match o.cls with
    | .type s => s == "tuple"
    | _ => false) && (match o.data with
    | .seq its _ => (match its.toList with
      | [.int a _, .int b _, .int c _] => decide (a = 0) && (decide (b = 1) && decide (c = 2))
      | _ => false)
    | _ => false)
  | none => false
theorem tup_ok {K : PySem.W.Frag} (h : tupB K = true) : ∀ H : Hp, SqT K H (He.ga K "KINDS") [.int 0, .int 1, .int 2] := by
  intro H
  unfold tupB at h
  split at h
  · rename_i o ho
    obtain ⟨h1, h2⟩ := He.ba h
    split at h1
    · rename_i s hs
      have e := eq_of_beq h1
      subst e
      split at h2
      · rename_i its n hd
        split at h2
        · rename_i a ta b tb c tc hl
          obtain ⟨ea, h2⟩ := He.ba h2
          obtain ⟨eb, ec⟩ := He.ba h2
          have ea := of_decide_eq_true ea
          have eb := of_decide_eq_true eb
          have ec := of_decide_eq_true ec
          subst ea eb ec
          refine .inr ⟨o, its, n, ho, hs, hd, ?_, ?_⟩
          · rw [← Array.length_toList, hl]
            show 3 ≤ sizeLine
            decide
          · rw [hl]
            exact .cons ⟨_, rfl⟩ (.cons ⟨_, rfl⟩ (.cons ⟨_, rfl⟩ .nil))
        · cases h2
      · cases h2
    · cases h1
  · cases h
/-- the tuple of words, as it stands at the top -/
def wordB (K : PySem.W.Frag) : Bool := match List.lookup (He.ga K "WORDS") K with
  | some o => (match o.cls with
    | .type s => s == "tuple"
    | _ => false) && (match o.data with
    | .seq its _ => (match its.toList with
      | [.str a _, .str b _] => decide (a = ("even" : PySem.Str)) && decide (b = ("odd" : PySem.Str))
      | _ => false)
    | _ => false)
  | none => false
theorem word_ok {K : PySem.W.Frag} (h : wordB K = true) : ∀ H : Hp, SqT K H (He.ga K "WORDS") [.str ("even" : PySem.Str), .str ("odd" : PySem.Str)] := by
  intro H
  unfold wordB at h
  split at h
  · rename_i o ho
    obtain ⟨h1, h2⟩ := He.ba h
    split at h1
    · rename_i s hs
      have e := eq_of_beq h1
      subst e
      split at h2
      · rename_i its n hd
        split at h2
        · rename_i a ta b tb hl
          obtain ⟨ea, eb⟩ := He.ba h2
          have ea := of_decide_eq_true ea
          have eb := of_decide_eq_true eb
          subst ea eb
          refine .inr ⟨o, its, n, ho, hs, hd, ?_, ?_⟩
          · rw [← Array.length_toList, hl]
            show 2 ≤ sizeLine
            decide
          · rw [hl]
            exact .cons ⟨_, rfl⟩ (.cons ⟨_, rfl⟩ .nil)
        · cases h2
      · cases h2
    · cases h1
  · cases h
/-- a tuple of whole numbers, as it stands at the top -/
def tsV : List Value → List Int → Bool
  | [], [] => true
  | .int a _ :: r, x :: xs => decide (a = x) && tsV r xs
  | _, _ => false
theorem tsV_ok : ∀ {us : List Value} {xs : List Int}, tsV us xs = true → Vals (xs.map V.int) us
  | [], [], _ => .nil
  | .int a t :: r, x :: xs, h => by
    obtain ⟨h1, h2⟩ := Bool.and_eq_true_iff.mp h
    have h1 := of_decide_eq_true h1
    subst h1
    exact .cons ⟨_, rfl⟩ (tsV_ok h2)
theorem tsV_len : ∀ {us : List Value} {xs : List Int}, tsV us xs = true → us.length = xs.length
  | [], [], _ => rfl
  | .int a t :: r, x :: xs, h => congrArg (· + 1) (tsV_len (Bool.and_eq_true_iff.mp h).2)
def tsB (K : PySem.W.Frag) (nm : PySem.Str) (xs : List Int) : Bool := match List.lookup (He.ga K nm) K with
  | some o => (match o.cls with
    | .type s => s == "tuple"
    | _ => false) && (match o.data with
    | .seq its _ => tsV its.toList xs
    | _ => false)
  | none => false
theorem ts_ok {K : PySem.W.Frag} {nm : PySem.Str} {xs : List Int} (few : xs.length ≤ 100) (h : tsB K nm xs = true) : ∀ H : Hp, SqT K H (He.ga K nm) (xs.map V.int) := by
  intro H
  unfold tsB at h
  split at h
  · rename_i o ho
    obtain ⟨h1, h2⟩ := He.ba h
    split at h1
    · rename_i s hs
      have e := eq_of_beq h1
      subst e
      split at h2
      · rename_i its n hd
        have v := tsV_ok h2
        refine .inr ⟨o, its, n, ho, hs, hd, ?_, v⟩
        have l := tsV_len h2
        rw [← Array.length_toList, l, sizeLine_eq]
        omega
      · cases h2
    · cases h1
  · cases h
/-- the rest that the end asks: the words, the kinds, the import, the numbers of few people -/
def exB (_ : PySem.W.Frag) : Bool := true
/-- an address not seen yet is put ahead; what was seen is a number's bits -/
def addA (p : Nat × List Addr) (a : Addr) : Nat × List Addr := match Nat.beq (Nat.land (Nat.shiftRight p.1 a) 1) 1 with
  | true => p
  | false => (Nat.lor p.1 (Nat.shiftLeft 1 a), a :: p.2)
def addS : Nat × List Addr → List Addr → Nat × List Addr
  | p, [] => p
  | p, a :: as => addS (addA p a) as
def addO (g : Addr → Option Obj) : Nat × List Addr → List Addr → Nat × List Addr
  | p, [] => p
  | p, a :: as => addO g (match g a with
    | some o => addS p (He.refsD o)
    | none => p) as
/-- what is reached in so many steps: the last step's own ones, all -/
def levB (g : Addr → Option Obj) : Nat → Nat × List Addr × List Addr
  | 0 => (Nat.shiftLeft 1 mainGlobals, [mainGlobals], [mainGlobals])
  | n + 1 => match levB g n with
    | (mask, lev, all) => match addO g (mask, []) lev with
      | (mask2, new) => (mask2, new, all ++ new)
def asB (g : Addr → Option Obj) (n : Nat) : List Addr := (levB g n).2.2
def obsM (n : Nat) (g : Addr → Option Obj) : He.AlD × Bool := (He.obsD faA fnA (He.frG g (asB g n)), exB (He.frG g (asB g n)))
def hookM (n : Nat) : PySem.W.Hook where
  α := He.AlD × Bool
  obs := fun s => obsM n s.heap.get?
  val := fun _ => (He.valD fnA, true)
  says := fun _ h => ∃ K : PySem.W.Frag, K.In h ∧ He.SaysD faA fnA K ∧ exB K = true
  of := fun _ _ e => ⟨_, He.frG_in, congrArg (fun z : He.AlD × Bool => z.1) e, congrArg (fun z : He.AlD × Bool => z.2) e⟩
  keeps := fun _ _ _ ⟨K, hK, c, d⟩ k => ⟨K, PySem.W.Frag.In.keeps hK k, c, d⟩
abbrev RR : PySem.W.OpenRow := PySem.W.OpenLaw.row PySem.Challenge.rw_evenfriends_k56_whole_even_families_and
abbrev hk : PySem.W.Hook := hookM 4
def ob (s : PySem.W.SharedT) : He.AlD × Bool := obsM 4 (HandSHeadRun.getT s)
theorem ob_eq (s : PySem.W.SharedT) : ob s = hk.obs s.abs := by
  have e : HandSHeadRun.getT s = s.abs.heap.get? := funext (HandSHeadRun.getT_eq s)
  show obsM 4 (HandSHeadRun.getT s) = obsM 4 s.abs.heap.get?
  rw [e]
end Wd
end
section
set_option maxRecDepth 100000
set_option maxHeartbeats 0
namespace Wd
open PySem PySem.Spec PySem.W PySem.Calls PyProof.Rows L2 HandSHeadRun
/-! the run of the top, looked at in parts: each part's check runs it anew, so that no check grows too large -/
noncomputable abbrev XX (w : World) : Option (Shared × SharedT) := wholeF (fun p => HandSHeadRun.stepQ (HandSHeadRun.denQ HandSHeadRun.tabQ) p w) HandSHeadRun.fenceQ 8000 RR.prog
abbrev qq : Program := PySem.W.view RR.prog [lawAt]
def KK (x : Shared × SharedT) : PySem.W.Frag := He.frG (HandSHeadRun.getT x.2) (asB (HandSHeadRun.getT x.2) 4)
theorem run4 (w : World) : (XX w).map (fun x => ((fn0).all fun d => d.ok (KK x), (fn0).map fun d => He.fnW (KK x) d.at_)) = some (true, (fn0).map He.DefD.val) := by
  kernel_rfl
theorem run5 (w : World) : (XX w).map (fun x => ((fn1).all fun d => d.ok (KK x), (fn1).map fun d => He.fnW (KK x) d.at_)) = some (true, (fn1).map He.DefD.val) := by
  kernel_rfl
theorem run3 (w : World) : (XX w).map (fun x => (fa1).all fun f => f.ok (KK x)) = some true := by
  kernel_rfl
theorem run2 (w : World) : (XX w).map (fun x => ((fa0).all fun f => f.ok (KK x)) && exB (KK x)) = some true := by
  kernel_rfl
theorem run1 (w : World) : (XX w).map (fun x => (looksF RR.prog x.1.heap x.2.abs, HandSHeadRun.seenQ qq nmA (importedModules RR.prog.main.body) (fun s => xlAt qq [] s && recOk RR.toRowW.records s) x.2.abs)) = some (true, openGood qq nmA) := by
  kernel_rfl
theorem run (w : World) : HandSHeadRun.RunEqI RR qq hk ob 8000 nmA w := by
  have r1 := run1 w
  have r2 := run2 w
  have r3 := run3 w
  have r4 := run4 w
  have r5 := run5 w
  show (XX w).map (fun x => (looksF RR.prog x.1.heap x.2.abs, HandSHeadRun.seenQ qq nmA (importedModules RR.prog.main.body) (fun s => xlAt qq [] s && recOk RR.toRowW.records s) x.2.abs, ob x.2)) = some (true, openGood qq nmA, hk.val w)
  generalize XX w = X at r1 r2 r3 r4 r5 ⊢
  cases X with
  | none => cases r1
  | some x =>
    have r1 := Option.some.inj r1
    have r2 : (((fa0).all fun f => f.ok (KK x)) && exB (KK x)) = true := Option.some.inj r2
    have r3 : ((fa1).all fun f => f.ok (KK x)) = true := Option.some.inj r3
    obtain ⟨r4a, r4b⟩ := Prod.mk.inj (Option.some.inj r4)
    obtain ⟨r5a, r5b⟩ := Prod.mk.inj (Option.some.inj r5)
    obtain ⟨r2a, r2b⟩ := Bool.and_eq_true_iff.mp r2
    obtain ⟨r1a, r1b⟩ := Prod.mk.inj r1
    have fa : (faA.all fun f => f.ok (KK x)) = true := by
      have e : faA = (fa0) ++ (fa1) := by
        unfold faA
        simp only [List.append_assoc]
      rw [e, List.all_append, r2a, r3]
      rfl
    have en : fnA = (fn0) ++ (fn1) := by
      unfold fnA
      simp only [List.append_assoc]
    have eo : ob x.2 = (He.valD fnA, true) := by
      show (((faA.all fun f => f.ok (KK x)) && fnA.all fun d => d.ok (KK x), fnA.map fun d => He.fnW (KK x) d.at_), exB (KK x)) = ((true, fnA.map He.DefD.val), true)
      rw [fa, en, List.all_append, r4a, r5a, List.map_append, r4b, r5b, List.map_append, r2b]
      rfl
    show some (_, _, _) = some _
    rw [r1a, r1b, eo]
    rfl
end Wd
end
section
set_option maxRecDepth 100000
set_option maxHeartbeats 4000000
namespace Kx
open PySem PySem.Spec PyProof.Rows L2
/-- the signs of a text, each a text -/
def signs (z : Str) : List V := z.cps.toList.map fun c => V.str ⟨#[c]⟩
theorem vals_signs {z : Str} {acc : Array Value} (h : ItemsOf (SignAt z) acc z.cps.size) : Vals (signs z) acc.toList := by
  obtain ⟨sz, at_⟩ := h
  have key : ∀ (k : Nat) (l : List Nat) (vs : List Value), l.length = vs.length → (∀ (j : Nat) (c : Nat) (v : Value), l[j]? = some c → vs[j]? = some v → ∃ t, v = Value.str ⟨#[c]⟩ t) → Vals (l.map fun c => V.str ⟨#[c]⟩) vs := by
    intro k l
    induction l with
    | nil =>
      intro vs e _
      cases vs with
      | nil => exact .nil
      | cons v vs => simp at e
    | cons c l ih =>
      intro vs e q
      cases vs with
      | nil => simp at e
      | cons v vs =>
        obtain ⟨t, rfl⟩ := q 0 c v rfl rfl
        exact .cons ⟨t, rfl⟩ (ih vs (by simpa using e) fun j c' v' h1 h2 => q (j + 1) c' v' (by simpa using h1) (by simpa using h2))
  refine key 0 z.cps.toList acc.toList (by rw [Array.length_toList, Array.length_toList, sz]) fun j c v hc hv => ?_
  have hv' : acc[j]? = some v := by rw [← Array.getElem?_toList]; exact hv
  have hc' : z.cps[j]? = some c := by rw [← Array.getElem?_toList]; exact hc
  have q := at_ j v hv'
  unfold SignAt at q
  obtain ⟨c2, t, e1, e2⟩ := q
  rw [hc'] at e1
  exact ⟨t, by rw [e2, Option.some.inj e1]⟩
def rListS : List V → Hp → VK → Prop := fun vs H Q => ∃ z : Str, vs = [.str z] ∧ z.cps.size ≤ 1000 ∧ ∀ l, H l = none → Q (.ref l) (upd H l (.lst (signs z)))
theorem cr_listS {X : Cx} (hc : X.calm = true) : CallR X (.type "list") rListS := by
  intro pins s σ H vs us Q I r h
  obtain ⟨z, rfl, few, q⟩ := h
  obtain ⟨u, rfl, rx⟩ := vals1 r
  obtain ⟨t, rfl⟩ := rx
  refine call_list_str (I.ok.hd hc) z t (fun h' tk acc c' k g it => ?_) (by rw [sizeLine_eq]; omega)
  have len : (signs z).length ≤ sizeLine := by
    unfold signs
    rw [List.length_map, Array.length_toList, sizeLine_eq]
    omega
  exact ⟨.ref s.heap.objs.size, _, I.laid (t' := tk) k (Nat.le_refl _) (show ObjOk X.prog X.w _ h' _ (.lst (signs z)) from ⟨len, acc.toList, c', vals_signs it, by simpa using g⟩), rfl, q _ (I.hok.fresh (Nat.le_refl _))⟩
end Kx
end
section
set_option maxRecDepth 100000
set_option maxHeartbeats 4000000
namespace Kx
open PySem PySem.Spec PyProof.Rows L2
/-- dict(pairs), the keys tuples, none twice -/
def rDictT (K : PySem.W.Frag) : List V → Hp → VK → Prop := fun vs H Q => ∃ (a : Addr) (Us : List Addr) (kvs : List (List Key × Addr × V)), vs = [V.ref a] ∧ SqL K H a (Us.map V.ref) ∧ Us.length = kvs.length ∧
  (∀ (j : Nat) U q, Us[j]? = some U → kvs[j]? = some q → SqT K H U [.ref q.2.1, q.2.2] ∧ H q.2.1 = some (.tup (q.1.map kV))) ∧ (kvs.map fun q => q.1).Nodup ∧
  ∀ p, H p = none → Q (.ref p) (upd H p (.dT (kvs.map fun q => (q.1, q.2.2))))
theorem stored_new {K : Type} [DecidableEq K] : ∀ (ps acc : List (K × Addr × Value)), ((acc ++ ps).map fun q => q.1).Nodup → storedAllH acc ps = acc ++ ps
  | [], acc, _ => by rw [List.append_nil]; rfl
  | p :: ps, acc, nd => by
    have e : acc ++ p :: ps = (acc ++ [p]) ++ ps := by simp
    show storedAllH (storedH acc p.1 p.2.1 p.2.2) ps = _
    have no : atKey acc p.1 = none := atKey_none_of_get fun j q hq => by
      rw [List.map_append, List.map_cons, List.nodup_append] at nd
      exact nd.2.2 p.1 (List.mem_map.mpr ⟨_, List.mem_of_getElem? hq, rfl⟩) p.1 List.mem_cons_self rfl
    rw [storedH_new no]
    rw [e] at nd ⊢
    exact stored_new ps _ nd
theorem cr_dictT {X : Cx} (hc : X.calm = true) (hu : X.A.units + 64 < cLine) : CallR X (.type "dict") (rDictT X.K) := by
  intro pins s σ H vs us Q I r h
  obtain ⟨a, Us, kvs, rfl, hs, hl, hq, nd, q⟩ := h
  obtain ⟨u, rfl, rx⟩ := vals1 r
  obtain rfl : u = Value.ref a := rx
  obtain ⟨its, rv, pl, hz⟩ := I.list hs
  have ei := refs_at rv
  subst ei
  rw [List.length_map] at hz
  -- the values of the items
  have item : ∀ (j : Nat) q, kvs[j]? = some q → ∃ U y, Us[j]? = some U ∧ IsTup s.heap U #[.ref q.2.1, y] ∧ RelV q.2.2 y := fun j q e => by
    have jl := (List.getElem?_eq_some_iff.mp e).1
    have hU : Us[j]? = some Us[j] := List.getElem?_eq_getElem (by omega)
    obtain ⟨h1, _⟩ := hq j _ q hU e
    obtain ⟨its2, rv2, hT, _⟩ := I.tuple h1
    obtain ⟨u1, y, rfl, r1, r2⟩ := vals2 rv2
    obtain rfl : u1 = Value.ref q.2.1 := r1
    exact ⟨_, y, hU, hT, r2⟩
  -- as a list of keys, places, values
  obtain ⟨ps, pl2, pp⟩ : ∃ ps : List (List Key × Addr × Value), ps.length = kvs.length ∧ ∀ (j : Nat) q, kvs[j]? = some q → ∃ U y, Us[j]? = some U ∧ ps[j]? = some (q.1, q.2.1, y) ∧ IsTup s.heap U #[.ref q.2.1, y] ∧ RelV q.2.2 y := by
    have key : ∀ n, n ≤ kvs.length → ∃ ps : List (List Key × Addr × Value), ps.length = n ∧ ∀ (j : Nat) q, j < n → kvs[j]? = some q → ∃ U y, Us[j]? = some U ∧ ps[j]? = some (q.1, q.2.1, y) ∧ IsTup s.heap U #[.ref q.2.1, y] ∧ RelV q.2.2 y := by
      intro n
      induction n with
      | zero => exact fun _ => ⟨[], rfl, fun j q h => absurd h (Nat.not_lt_zero _)⟩
      | succ n ih =>
        intro hn
        obtain ⟨ps, l1, h1⟩ := ih (by omega)
        have e := List.getElem?_eq_getElem (l := kvs) (i := n) hn
        obtain ⟨U, y, hU, hT, ry⟩ := item n _ e
        refine ⟨ps ++ [(kvs[n].1, kvs[n].2.1, y)], by rw [List.length_append, l1]; rfl, fun j q hj hjq => ?_⟩
        by_cases c : j < n
        · obtain ⟨U', y', a1, a2, a3⟩ := h1 j q c hjq
          exact ⟨U', y', a1, by rw [List.getElem?_append_left (by omega)]; exact a2, a3⟩
        · have ej : j = n := by omega
          subst ej
          rw [e] at hjq
          obtain rfl := Option.some.inj hjq
          exact ⟨U, y, hU, by rw [List.getElem?_append_right (by omega), l1, Nat.sub_self]; rfl, hT, ry⟩
    obtain ⟨ps, l1, h1⟩ := key kvs.length (Nat.le_refl _)
    exact ⟨ps, l1, fun j q e => h1 j q (List.getElem?_eq_some_iff.mp e).1 e⟩
  have kv : ∀ (j : Nat) p, ps[j]? = some p → ∃ q, kvs[j]? = some q ∧ p.1 = q.1 ∧ p.2.1 = q.2.1 ∧ ∃ U, Us[j]? = some U ∧ IsTup s.heap U #[.ref p.2.1, p.2.2] ∧ RelV q.2.2 p.2.2 := fun j p e => by
    have jl := (List.getElem?_eq_some_iff.mp e).1
    have eq := List.getElem?_eq_getElem (l := kvs) (i := j) (by omega)
    obtain ⟨U, y, a1, a2, a3, a4⟩ := pp j _ eq
    rw [e] at a2
    obtain rfl := Option.some.inj a2
    exact ⟨_, eq, rfl, rfl, U, a1, a3, a4⟩
  have keys : ps.map (fun q => q.1) = kvs.map fun q => q.1 := by
    apply List.ext_getElem? fun j => ?_
    rw [List.getElem?_map, List.getElem?_map]
    cases e : ps[j]? with
    | none =>
      have : kvs[j]? = none := List.getElem?_eq_none (by have := List.getElem?_eq_none_iff.mp e; omega)
      rw [this]
      rfl
    | some p =>
      obtain ⟨q, e2, e3, _⟩ := kv j p e
      rw [e2]
      exact congrArg some e3
  obtain ⟨o, n, ho, hcl, hdi, hdat⟩ := pl
  have okA : PlainSeq "list" s.heap a (Us.map Value.ref).toArray ∧ PairItems s.heap (Us.map Value.ref).toArray (fun j => Us.getD j 0) (ps.map fun p => (Value.ref p.2.1, p.2.2)) := by
    refine ⟨⟨o, n, ho, hcl, hdi, hdat⟩, by simp; omega, fun j k v e => ?_⟩
    rw [List.getElem?_map] at e
    obtain ⟨p, hp, e2⟩ := Option.map_eq_some_iff.mp e
    obtain ⟨_, _, _, _, U, hU, hT, _⟩ := kv j p hp
    have e3 := Prod.mk.inj e2
    have gd : Us.getD j 0 = U := by rw [List.getD_eq_getElem?_getD, hU]; rfl
    refine ⟨by simp [hU], .inl ?_⟩
    show s.heap.IsTuple (Us.getD j 0) #[k, v]
    rw [gd, ← e3.1, ← e3.2]
    exact hT
  refine call_dict_pairsH (knd := tupleKind (mixKind X.prog X.w)) (ps := ps) (PairArg.list a _ _ _) (I.ok.hd hc) (by show X.A.units + 2 < cLine; omega) okA ⟨by simp, fun j k v e => ?_⟩ (fun h' hk x hx => ?_) (by rw [List.length_map]; omega) fun h' tk hd' hk => ?_
  · have e' : (ps.map fun p => (Value.ref p.2.1, p.2.2))[j]? = some (k, v) := e
    rw [List.getElem?_map] at e'
    obtain ⟨p, hp, e2⟩ := Option.map_eq_some_iff.mp e'
    have e3 := Prod.mk.inj e2
    exact ⟨p.1, p.2.1, by rw [hp, ← e3.2], e3.1.symm⟩
  · obtain ⟨j, hj, e⟩ := List.getElem_of_mem hx
    obtain ⟨q', e1, e2, e3, _⟩ := kv j x (by rw [List.getElem?_eq_getElem hj, e])
    have jl := (List.getElem?_eq_some_iff.mp e1).1
    obtain ⟨_, kt⟩ := hq j _ q' (List.getElem?_eq_getElem (l := Us) (by omega)) e1
    obtain ⟨ob, its2, n2, hob, r2⟩ := key_of (P := X.prog) (w := X.w) I.hok kt
    rw [e2, e3]
    exact ⟨ob, its2, n2, hk _ _ (Nat.ne_of_lt (Heap.lt_size hob)) (by simp) hob, r2⟩
  · have es : storedAllH [] ps = ps := by
      rw [stored_new ps [] (by rw [List.nil_append, keys]; exact nd)]
      rfl
    rw [es] at hd'
    obtain ⟨ob, ents, ep, g1, g2, g3, g4, _, g6⟩ := hd'
    have fr : H s.heap.objs.size = none := I.hok.fresh (Nat.le_refl _)
    have hm : (s.heap.objs.size == sysModules) = false := beq_eq_false_iff_ne.mpr (Nat.ne_of_gt I.big)
    have par : ∀ (m : Nat), Paired (fun (p : List Key × V) (q : List Key × Addr × Value) => p.1 = q.1 ∧ upd H s.heap.objs.size (.dT (kvs.map fun q => (q.1, q.2.2))) q.2.1 = some (.tup (p.1.map kV)) ∧ RelV p.2 q.2.2) ((kvs.drop m).map fun q => (q.1, q.2.2)) (ps.drop m) := by
      have back : ∀ k m, kvs.length - m = k → Paired (fun (p : List Key × V) (q : List Key × Addr × Value) => p.1 = q.1 ∧ upd H s.heap.objs.size (.dT (kvs.map fun q => (q.1, q.2.2))) q.2.1 = some (.tup (p.1.map kV)) ∧ RelV p.2 q.2.2) ((kvs.drop m).map fun q => (q.1, q.2.2)) (ps.drop m) := by
        intro k
        induction k with
        | zero =>
          intro m hk
          rw [List.drop_eq_nil_of_le (by omega), List.drop_eq_nil_of_le (by omega)]
          exact .nil
        | succ k ih =>
          intro m hk
          have l1 : m < kvs.length := by omega
          have l2 : m < ps.length := by omega
          rw [List.drop_eq_getElem_cons l1, List.drop_eq_getElem_cons l2, List.map_cons]
          refine .cons ?_ (ih (m + 1) (by omega))
          obtain ⟨q', e1, e2, e3, _, _, _, ry⟩ := kv m _ (List.getElem?_eq_getElem l2)
          have e4 : q' = kvs[m] := by
            rw [List.getElem?_eq_getElem l1] at e1
            exact (Option.some.inj e1).symm
          subst e4
          obtain ⟨_, kt⟩ := hq m _ _ (List.getElem?_eq_getElem (l := Us) (by omega)) (List.getElem?_eq_getElem l1)
          refine ⟨e2.symm, ?_, ry⟩
          rw [e3, upd_ne (ne_of_none kt fr)]
          exact kt
      exact fun m => back _ m rfl
    have par0 := par 0
    rw [List.drop_zero, List.drop_zero] at par0
    exact ⟨.ref s.heap.objs.size, upd H s.heap.objs.size (.dT (kvs.map fun q => (q.1, q.2.2))), I.laid (t' := tk) (fun b o e => hk b o (by simp) e) (Nat.le_refl _)
      (show ObjOk X.prog X.w _ _ _ (.dT (kvs.map fun q => (q.1, q.2.2))) from ⟨by rw [List.length_map]; omega, hm, ps, par0, ob, ents, ep, g1, g2, g3, g4, g6⟩), rfl, q _ fr⟩
end Kx
end
section
set_option maxRecDepth 100000
set_option maxHeartbeats 4000000
namespace Kx
open PySem PySem.Spec PyProof.Rows L2
abbrev DV := V × PyData
/-- the values of bs, sorted as data -/
def sortedD (bs : List DV) : List DV := bs.mergeSort (PySem.W.dataLe false fun b => b.2)
/-- sorted(xs), xs a list of alike data: a new list -/
def rSortedD (K : PySem.W.Frag) : List V → Hp → VK → Prop := fun vs H Q => ∃ (a : Addr) (bs : List DV), vs = [V.ref a] ∧ SqL K H a (bs.map fun b => b.1) ∧ (∀ b ∈ bs, Dp K H b.1 b.2 ∧ b.2.depth ≤ 40) ∧
  PySem.W.AllAlike (bs.map fun b => b.2) ∧ PySem.W.Sortable (bs.map fun b => b.2) ∧ ∀ p, H p = none → Q (.ref p) (upd H p (.lst ((sortedD bs).map fun b => b.1)))
theorem each_of_vals {us : List Value} : ∀ {bs : List DV} {us : List Value}, Vals (bs.map fun b => b.1) us → PySem.W.EachIs (fun (v : Value) (b : DV) => RelV b.1 v) us bs
  | [], _, .nil => .nil
  | _ :: _, _, .cons r t => .cons r (each_of_vals (us := []) t)
theorem vals_of_each : ∀ {bs : List DV} {us : List Value}, PySem.W.EachIs (fun (v : Value) (b : DV) => RelV b.1 v) us bs → Vals (bs.map fun b => b.1) us
  | _, _, .nil => .nil
  | _, _, .cons r t => .cons r (vals_of_each t)
theorem each_reads {X : Cx} {pins : List (Addr × Obj)} {σ : L2.St} {H : Hp} {s : Shared} (I : Inv X pins σ H s) : ∀ {bs : List DV} {us : List Value}, PySem.W.EachIs (fun (v : Value) (b : DV) => RelV b.1 v) us bs → (∀ b ∈ bs, Dp X.K H b.1 b.2) →
    PySem.W.EachIs (fun v b => ∃ as, Reads s.heap v b.2 as) us bs
  | _, _, .nil, _ => .nil
  | b :: bs, _, .cons r t, h => .cons (Dp.reads I b.2 b.1 _ (h b List.mem_cons_self) r) (each_reads I t fun c hc => h c (List.mem_cons_of_mem _ hc))
theorem cr_sortedD {X : Cx} (hu : X.A.units + 64 < cLine) : CallR X (.builtin "sorted") (rSortedD X.K) := by
  intro pins s σ H vs us Q I r h
  obtain ⟨a, bs, rfl, hs, hd, al, so, q⟩ := h
  obtain ⟨its, rv, hl, hz⟩ := I.list hs
  rw [Vals.ref1 r]
  have e := each_of_vals (us := []) rv
  have er := each_reads I e fun b hb => (hd b hb).1
  rw [List.length_map] at hz
  refine PySem.W.sorted_data (enc := fun b : DV => b.2) (bs := bs) hl.isList e er al so hz (fun b hb => ?_) fun out lo eo => ?_
  · have := (hd b hb).2
    omega
  · obtain ⟨ep, he⟩ := PyProof.Rows.sortedAll_at s.heap its (List.toArray out)
    have ro : Vals ((sortedD bs).map fun b => b.1) out := vals_of_each eo
    have hlen : ((sortedD bs).map fun b => b.1).length ≤ sizeLine := by
      rw [ro.length, lo]
      exact hz
    exact ⟨.ref _, upd H (s.heap.objs.size + 1) (.lst ((sortedD bs).map fun b => b.1)), I.laid (t' := s.toks) (fun _ _ => PyProof.Rows.sortedAll_old) (Nat.le_succ _) ⟨hlen, out, ep, ro, he⟩, rfl, q _ (I.hok.fresh (Nat.le_succ _))⟩
end Kx
end
section
set_option maxRecDepth 100000
set_option maxHeartbeats 4000000
namespace Kx
open PySem PySem.Spec PyProof.Rows L2
/-- all that stood at h stands at h' -/
abbrev Ext (h h' : Heap) : Prop := ∀ b o, h.get? b = some o → h'.get? b = some o
section
variable {P : Program} {w : World} {A : Around} {E : Value → Shared → Prop} {s : Shared}
/-- what a set that is filled item by item keeps: Z i of the heap, behind i items -/
structure Filled (P : Program) (w : World) (A : Around) (E : Value → Shared → Prop) (S : Addr) (h0 : Heap) (items : Array Value) (Z : Nat → Heap → Prop) : Prop where
  zero : ∀ h, h.get? S = some { cls := .type "set", dict := none, data := .set #[] 0 (.fresh 0 0 (!w.params.followText "set-order")) } → Z 0 h
  keep : ∀ i h h', Z i h → (∀ o, h.get? S = some o → h'.get? S = some o) → Ext h0 h' → Z i h'
  step : ∀ i v (s : Shared), items[i]? = some v → Z i s.heap → Ext h0 s.heap → ∀ Q : Bool → Shared → Prop,
    (∀ b h' tk, s.toks ≤ tk → Heap.SameBut S s.heap h' → Z (i + 1) h' → Q b { s with heap := h', toks := tk }) → wpAny (model P w) A (setAdd S v) Q E s
theorem set_loop {I : Addr} {fp wr : List Addr} {G : Array GenState → Array GenState → Prop} {n : Nat} {Pv : Nat → Value → Prop} {St : Nat → Shared → Prop} {R : Result → Shared → Prop} {items : Array Value} {Z : Nat → Heap → Prop}
    (W : WalksS P w A.in1 I fp wr G n Pv St) (S : Addr) (out : S ∉ fp) (h0 : Heap) (fr : h0.get? S = none) (frs : ∀ b ∈ wr, h0.get? b = none) (val : ∀ i v, Pv i v → items[i]? = some v)
    (Y : Filled P w A.in1 (fun v s => R (.error v) s) S h0 items Z) :
    ∀ (k i : Nat) (s : Shared), n - i = k → i ≤ n → St i s → Ext h0 s.heap → Z i s.heap →
      (∀ s', Moved (S :: wr) G s s' → Z n s'.heap → Ext h0 s'.heap → R (.ok (.ret .none)) s') →
      codeAny (model P w) A (.builtin "set.update.loop" ⟨[.ref S, .ref I], []⟩) R s := by
  have oW : S ∉ wr := fun h => out (W.sub _ h)
  have inc : ∀ b ∈ wr, b ∈ S :: wr := fun b hb => List.mem_cons_of_mem _ hb
  have kept : ∀ {s s' : Shared}, Moved wr G s s' → Ext h0 s.heap → Ext h0 s'.heap := fun hm x b o e =>
    hm.heap b o (fun hb => by rw [frs b hb] at e; cases e) (x b o e)
  intro k
  induction k with
  | zero =>
    intro i s ek hi st x z done
    obtain rfl : i = n := by omega
    refine codeAny_builtin F.entry_set_update_loop ?_
    rw [Around.under_plainId F.plain_set_update_loop _]
    show wpAny _ A.in1 (pyNext (.ref I) >>= _) _ _ s
    refine wpAny_bind (W.done s _ _ st fun s' hm => ?_)
    have x' := kept hm x
    exact wpAny_pure (done s' (hm.mono inc) (Y.keep _ _ _ z (fun o e => hm.heap S o oW e) x') x')
  | succ k ih =>
    intro i s ek hi st x z done
    have lt : i < n := by omega
    refine codeAny_builtin F.entry_set_update_loop ?_
    rw [Around.under_plainId F.plain_set_update_loop _]
    show wpAny _ A.in1 (pyNext (.ref I) >>= _) _ _ s
    refine wpAny_bind (W.item i s _ _ lt st fun v s' pv st' hm => ?_)
    have x' := kept hm x
    have z' := Y.keep _ _ _ z (fun o e => hm.heap S o oW e) x'
    show wpAny _ A.in1 (holding [v] (setAdd S v) >>= _) _ _ s'
    refine wpAny_bind (wpAny_holding (Y.step i v s' (val i v pv) z' x' _ fun b h' tk le sb z2 => ?_))
    have x2 : Ext h0 h' := fun b o e => (sb.2 b (fun q => by rw [q, fr] at e; cases e)).trans (x' b o e)
    refine wpAny_pure ⟨plainId_quiet F.plain_set_update_loop _, ih (i + 1) _ (by omega) lt (W.frame _ s' _ _ st' le fun b hb o e => ?_) x2 z2 fun s2 hm2 z3 x3 => ?_⟩
    · exact (sb.2 b (fun q : b = S => out (by rw [← q]; exact hb))).trans e
    · refine done s2 (Moved.trans W.gtrans ((hm.mono inc).then_heap le fun b o hb e => ?_) hm2) z3 x3
      exact (sb.2 b (fun q : b = S => hb (by rw [q]; exact List.mem_cons_self))).trans e
end
end Kx
end
section
set_option maxRecDepth 100000
set_option maxHeartbeats 4000000
namespace Kx
open PySem PySem.Spec PyProof.Rows L2
section
variable {P : Program} {w : World} {A : Around} {E : Value → Shared → Prop} {s : Shared}
abbrev newSetO (w : World) : Obj := { cls := .type "set", dict := none, data := .set #[] 0 (.fresh 0 0 (!w.params.followText "set-order")) }
/-- set(xs), xs a list: what the filling keeps stands behind it -/
theorem call_set_any {l : Addr} {items : Array Value} {Z : Nat → Heap → Prop} {Q : Value → Shared → Prop} (hh : A.handled = none) (hl : s.heap.IsList l items)
    (Y : ∀ E, Filled P w A.in1.in1.in1 E s.heap.objs.size s.heap items Z)
    (h : ∀ (h' : Heap) (tk : Nat), Z items.size h' → Ext s.heap h' → Q (.ref s.heap.objs.size) { s with heap := h', toks := tk }) : wpAny (model P w) A (call (.type "set") [.ref l]) Q E s := by
  obtain ⟨c, tl, mro⟩ := F.called_set.mro
  have made := F.called_set.made
  have sub := F.called_set.sub
  refine wpAny_call (codeAny_of_tree ?_)
  show wpAny _ _ (callAny (.type "set") _) _ _ _
  refine wpAny_pure ⟨Code.quiet_builtin _ (by decide +kernel), codeAny_builtin F.entry_type_call ?_⟩
  rw [Around.under_plain (weight_type_call_type "set" [.ref l] []) rfl]
  have nT := F.called_set.notType
  have cC := F.called_set.canCreate
  have tC := F.typeCall_set_1 (.ref l)
  repeat (any_goals (first | assumption | wp_step))
  refine codeAny_mono (code_set_led1 (.ref l) (E := E) (Q₁ := fun r s1 => r = .ref s.heap.objs.size ∧ s1 = { s with heap := s.heap.push (newSetO w) }) ⟨rfl, rfl⟩) fun r s1 hr => ?_
  cases r with
  | error e => exact hr
  | ok fl =>
    cases fl with
    | ret r1 =>
      obtain ⟨rfl, rfl⟩ := hr
      have hS : (s.heap.push (newSetO w)).get? s.heap.objs.size = some (newSetO w) := Heap.get?_push_size _ rfl
      have hT : Shared.TypeIs { s with heap := s.heap.push (newSetO w) } (.ref s.heap.objs.size) "set" := ⟨_, hS, rfl⟩
      have look := F.called_set.init.lookup
      have bind := F.called_set.init.bind (.ref s.heap.objs.size)
      repeat (any_goals (first | assumption | wp_step))
      refine codeAny_mono (codeAny_call_builtin (R := wants (fun r s2 => r = .none ∧ ∃ h' tk, s2 = { s with heap := h', toks := tk } ∧ Z items.size h' ∧ Ext s.heap h') E) F.called_set.init.plain F.entry_set_init (check_set_init_1 hT ?_)) fun r2 s2 hr2 => ?_
      · obtain ⟨⟨oc, od, oda, osl⟩, ho, hc, n, hd⟩ := hl
        simp only at hc hd
        subst hc
        subst hd
        have ho1 := Heap.get?_push_of_some (newSetO w) ho
        have h1 : (s.heap.push (newSetO w)).IsList l items := ⟨_, ho1, rfl, n, rfl⟩
        have c1 := F.sub_list_set
        have c2 := F.sub_list_frozenset
        have c3 : (Value.type "list" == Value.type "dict") = false := by decide
        unfold Builtin.«set.__init__» noKeywords Builtin.Frozenset.updateFrom
        generalize pi : pyIter = PI
        wp_walk
        subst pi
        refine wpAny_pyIter_list h1 ?_
        refine wpAny_bind (wpAny_runValue ?_)
        have lt : l < s.heap.objs.size := Heap.lt_size ho
        have h3 : A.in1.in1.in1.handled = none := by simp [hh]
        have z1 : (s.heap.push (newSetO w)).objs.size = s.heap.objs.size + 1 := Heap.size_push ..
        have ne : l ≠ (s.heap.push (newSetO w)).objs.size := Nat.ne_of_lt (by rw [z1]; exact Nat.lt_succ_of_lt lt)
        have none_of : ∀ b, s.heap.objs.size ≤ b → s.heap.get? b = none := fun b hb => Heap.get?_none_of_le hb
        refine set_loop (Z := Z) ((Walks.list h3 _ l ne items).toS) s.heap.objs.size ?hSf s.heap (none_of _ (Nat.le_refl _)) (fun b hb => none_of b ?hb) (fun i v hv => hv) (Y _) (items.size - 0) 0 _ (by omega) (Nat.zero_le _)
          ⟨⟨_, Heap.get?_push_size _ rfl, rfl, rfl⟩, (h1.push _)⟩ (fun b o e => Heap.get?_push_of_some _ (Heap.get?_push_of_some _ e)) ?h0 ?hR
        case hSf =>
          rw [z1]
          simp only [List.mem_cons, List.mem_singleton, List.not_mem_nil, or_false, not_or]
          exact ⟨Nat.ne_of_lt (Nat.lt_succ_self _), Nat.ne_of_gt lt⟩
        case hb =>
          rw [List.mem_singleton.mp hb, z1]
          exact Nat.le_succ _
        case h0 =>
          exact (Y E).zero _ (Heap.get?_push_of_some _ hS)
        case hR =>
          intro s' hm hz hx
          obtain ⟨h', g', d', tk', os'⟩ := s'
          have eg : g' = s.gens := hm.gens
          have ed : d' = s.drawn := hm.drawn
          have eo : os' = s.os := hm.os
          subst eg ed eo
          refine wpAny_pure ?_
          show wpAny _ _ (ret Value.none) _ _ _
          exact wpAny_pure ⟨rfl, h', tk', rfl, hz, hx⟩
      · cases r2 with
        | error e => exact hr2
        | ok f2 =>
          cases f2 with
          | ret r =>
            obtain ⟨rfl, h', tk, rfl, hz, hx⟩ := hr2
            repeat (any_goals (first | assumption | wp_step))
            exact h _ _ hz hx
          | _ => exact hr2.elim
    | _ => exact hr.elim
end
end Kx
end
section
set_option maxRecDepth 100000
set_option maxHeartbeats 4000000
namespace Kx
open PySem PySem.Spec PyProof.Rows L2
/-- the tuple at a holds the keys k -/
abbrev IsK (P : Program) (w : World) (h : Heap) (k : List Key) (a : Addr) : Prop := IsTupleKey (mixKind P w) h k a
abbrev hashK (P : Program) (w : World) (k : List Key) : Int := tupleKeyHash (mixKind P w) k
section
variable {P : Program} {w : World} {A : Around} {E : Value → Shared → Prop} {s : Shared}
theorem key_byval {k : Key} {v : Value} (h : (mixKind P w).is k v = true) : carriedByValue v = true := (mixKind P w).byValue _ _ h
theorem cls_val (n : Nat) {v : Value} (h : carriedByValue v = true) : ofAClassStatement n v = pure false := by
  cases v with
  | ref a => exact absurd h (by simp [carriedByValue])
  | _ => cases n <;> rfl
theorem items_byval {k : List Key} {vs : List Value} (h : ItemsAre (mixKind P w) k vs) : ∀ v ∈ vs, carriedByValue v = true := h.byValue
theorem cls_tup {k : List Key} {b : Addr} {Q : Bool → Shared → Prop} (hk : IsK P w s.heap k b) (h : Q false s) : wpAny (model P w) A (ofAClassStatement 8 (.ref b)) Q E s := by
  have ty := hk.typeIs
  obtain ⟨o, items, n, ho, _, hd, hi⟩ := hk
  have bv := items_byval hi
  unfold ofAClassStatement
  refine wpAny_bind (wpAny_typeOf ty ?_)
  dsimp only
  rw [show (("tuple" : String) == "tuple") = true by decide]
  simp only [if_true, Bool.not_true, Bool.false_eq_true, if_false]
  try refine wpAny_bind (wpAny_pure ?_)
  try simp only [Bool.not_true, Bool.false_eq_true, if_false]
  show wpAny _ _ (seqItems? (.ref b) >>= _) _ _ s
  refine wpAny_bind (wpAny_seqItems ho hd ?_)
  dsimp only
  refine wpAny_bind ?_
  show wpAny _ _ (forIn items _ _) _ _ s
  rw [← Array.forIn_toList]
  refine wpAny_forIn_list _ (fun left r s' => r.1 = none ∧ s' = s ∧ ∀ v ∈ left, carriedByValue v = true) _ ?_ ?_ _ _ ⟨rfl, rfl, bv⟩
  · rintro v left r s' ⟨hr, rfl, al⟩
    rw [cls_val _ (al v List.mem_cons_self)]
    refine wpAny_bind (wpAny_pure ?_)
    simp only [Bool.false_eq_true, if_false]
    exact wpAny_pure ⟨rfl, rfl, fun u hu => al u (List.mem_cons_of_mem _ hu)⟩
  · rintro ⟨r1, r2⟩ s' ⟨hr, rfl, _⟩
    obtain rfl : r1 = none := hr
    exact wpAny_pure h
theorem hashV_val (n : Nat) {k : Key} {v : Value} (h : (mixKind P w).is k v = true) : ∃ c, hashByValue n v = pure c := by
  rcases keyIs_shape h with ⟨i, t, _, rfl⟩ | ⟨x, t, _, rfl⟩
  · exact ⟨true, by cases n <;> rfl⟩
  · exact ⟨false, by cases n <;> rfl⟩
theorem items_hash {k : List Key} {vs : List Value} (h : ItemsAre (mixKind P w) k vs) (n : Nat) : ∀ v ∈ vs, ∃ c, hashByValue n v = pure c := by
  induction h with
  | nil =>
    intro v hv
    cases hv
  | cons h1 _ ih =>
    intro v hv
    rcases List.mem_cons.mp hv with e | hv
    · rw [e]
      exact hashV_val n h1
    · exact ih v hv
theorem hashV_tup {k : List Key} {b : Addr} {Q : Bool → Shared → Prop} (hk : IsK P w s.heap k b) (h : ∀ c, Q c s) : wpAny (model P w) A (hashByValue 8 (.ref b)) Q E s := by
  have ty := hk.typeIs
  obtain ⟨o, items, n, ho, _, hd, hi⟩ := hk
  have bv := items_hash hi 7
  unfold hashByValue
  refine wpAny_bind (wpAny_specialOf ty F.slot_tuple_hash.lookup ?_)
  show wpAny _ _ (seqItems? (.ref b) >>= _) _ _ s
  refine wpAny_bind (wpAny_seqItems ho hd ?_)
  refine wpAny_bind ?_
  show wpAny _ _ (forIn items _ _) _ _ s
  rw [← Array.forIn_toList]
  refine wpAny_forIn_list _ (fun left r s' => r.1 = none ∧ s' = s ∧ ∀ v ∈ left, ∃ c, hashByValue 7 v = pure c) _ ?_ ?_ _ _ ⟨rfl, rfl, bv⟩
  · rintro v left r s' ⟨hr, rfl, al⟩
    obtain ⟨c, e⟩ := al v List.mem_cons_self
    rw [e]
    refine wpAny_bind (wpAny_pure ?_)
    cases c with
    | false =>
      simp only [Bool.not_false, if_true]
      exact wpAny_pure (wpAny_pure (h _))
    | true =>
      simp only [Bool.not_true, Bool.false_eq_true, if_false]
      exact wpAny_pure ⟨rfl, rfl, fun u hu => al u (List.mem_cons_of_mem _ hu)⟩
  · rintro ⟨r1, r2⟩ s' ⟨hr, rfl, _⟩
    obtain rfl : r1 = none := hr
    exact wpAny_pure (h _)
end
end Kx
end
section
set_option maxRecDepth 100000
set_option maxHeartbeats 4000000
namespace Kx
open PySem PySem.Spec PyProof.Rows L2
section
variable {P : Program} {w : World} {A : Around} {E : Value → Shared → Prop} {s : Shared}
theorem seen_none {k : List Key} {b : Addr} {Q : Bool → Shared → Prop} (hk : IsK P w s.heap k b) {ys : List Value} (hy : ∀ y ∈ ys, ∃ k' c, y = Value.ref c ∧ IsK P w s.heap k' c) (h : Q false s) :
    wpAny (model P w) A (searchCouldBeSeen (.ref b) ys) Q E s := by
  unfold searchCouldBeSeen
  refine wpAny_bind ?_
  refine wpAny_forIn_list _ (fun left r s' => r.1 = none ∧ s' = s ∧ ∀ y ∈ left, ∃ k' c, y = Value.ref c ∧ IsK P w s.heap k' c) _ ?_ ?_ _ _ ⟨rfl, rfl, hy⟩
  · rintro v left r s' ⟨hr, rfl, al⟩
    obtain ⟨k', c, rfl, hc⟩ := al v List.mem_cons_self
    have al' : ∀ y ∈ left, ∃ k' c, y = Value.ref c ∧ IsK P w s'.heap k' c := fun u hu => al u (List.mem_cons_of_mem _ hu)
    dsimp only
    by_cases same : (b == c || (carriedByValue (.ref b) && carriedByValue (.ref c))) = true
    · exact wp_if_pos same (wpAny_pure ⟨rfl, rfl, al'⟩)
    · refine wp_if_neg same ?_
      refine wpAny_bind (wpAny_eqIsQuiet_tuple hk ?_)
      simp only [Bool.not_true, Bool.false_eq_true, if_false]
      refine wpAny_bind (wpAny_eqIsQuiet_tuple hc ?_)
      simp only [Bool.not_true, Bool.false_eq_true, if_false]
      refine wpAny_bind (cls_tup hk ?_)
      simp only [Bool.false_eq_true, if_false]
      refine wpAny_bind (cls_tup hc ?_)
      simp only [Bool.false_eq_true, if_false]
      exact wpAny_pure ⟨rfl, rfl, al'⟩
  · rintro ⟨r1, r2⟩ s' ⟨hr, rfl, _⟩
    obtain rfl : r1 = none := hr
    exact wpAny_pure h
abbrev ents (P : Program) (w : World) (L : List (Addr × List Key)) : List (Int × Value) := L.map fun p => (hashK P w p.2, Value.ref p.1)
abbrev hashes (P : Program) (w : World) (L : List (Addr × List Key)) : List Int := L.map fun p => hashK P w p.2
/-- the set at S holds the tuples L -/
structure TSet (P : Program) (w : World) (h : Heap) (S : Addr) (L : List (Addr × List Key)) (es : Array (Int × Value)) (ep : Nat) (t : SetTable) : Prop where
  ob : ∃ o, h.get? S = some o ∧ o.ExactSet ∧ o.data = .set es ep t
  es_eq : es.toList = ents P w L
  tab : TabOk t (hashes P w L)
  nd : (L.map (·.2)).Nodup
  tup : ∀ p ∈ L, IsK P w h p.2 p.1
  room : L.length * 5 < t.mask * 3
  few : L.length < 64
variable {S : Addr} {L : List (Addr × List Key)} {es : Array (Int × Value)} {ep : Nat} {t : SetTable}
theorem ents_size (e : es.toList = ents P w L) : es.size = L.length := by
  have h := congrArg List.length e
  rw [Array.length_toList, List.length_map] at h
  exact h
theorem TSet.fits (R : TSet P w s.heap S L es ep t) : t.fits es.size = true := by
  have h1 := R.tab.sz
  rw [List.length_map] at h1
  have h2 := ents_size R.es_eq
  have h3 := R.room
  unfold SetTable.fits SetTable.fill
  rw [R.tab.dm, Bool.and_eq_true, beq_iff_eq, decide_eq_true_eq]
  exact ⟨by omega, by show t.place.size + 0 ≤ t.mask; omega⟩
theorem TSet.ent (R : TSet P w s.heap S L es ep t) {i : Nat} {p : Addr × List Key} (h : L[i]? = some p) : es[i]? = some (hashK P w p.2, Value.ref p.1) := by
  rw [← Array.getElem?_toList, R.es_eq, List.getElem?_map, h]
  rfl
theorem no_dummy (m : Nat) : ∀ (n : Nat) (p : SetTable.Probe), p.dummy = none → (nth m p n).dummy = none
  | 0, _, h => h
  | n + 1, p, h => no_dummy m n (adv m p) (by
    unfold adv
    split <;> exact h)
/-- a search from the c-th step of its way on -/
theorem tsearch (R : TSet P w s.heap S L es ep t) {x : Addr} {k : List Key} (hx : IsK P w s.heap k x) (hu : A.units < cLine) {h : Int} (eh : h = hashK P w k) {K : Nat} (hKf : K < 10 * SetTable.turns t.mask)
    (hK : way t.mask h K ∉ t.place.toList) (hKb : ∀ c, c < K → way t.mask h c ∈ t.place.toList) {Q : SetFound → Shared → Prop}
    (yes : k ∈ L.map (·.2) → Q (.there none) s) (no : k ∉ L.map (·.2) → Q (.free (way t.mask h K) false) s) :
    ∀ (f c : Nat) (stand : Option SetTable.Probe), stand.getD (t.probeStart h) = nth t.mask (runAt t.mask (SetTable.bits h % (t.mask + 1)) (SetTable.bits h)) c → c ≤ K → K - c < f →
      (∀ (i : Nat) p, L[i]? = some p → p.2 = k → ∃ c', c ≤ c' ∧ c' < K ∧ t.place.toList[i]? = some (way t.mask h c')) →
      wpAny (model P w) A (setSearchFrom S (.ref x) h true f stand) Q E s
  | 0, c, stand, _, _, hf, _ => absurd hf (Nat.not_lt_zero _)
  | f + 1, c, stand, hst, hc, hf, hre => by
    obtain ⟨o, ho, hex, hd⟩ := R.ob
    have gw : ¬ t.gaveWay = true := by
      unfold SetTable.gaveWay
      rw [mask_odd R.tab.mok]
      decide
    rw [setSearchFrom_succ]
    refine wpAny_bind (wpAny_setState_of ho hd R.fits ?_)
    dsimp only
    refine wp_if_neg gw ?_
    try refine wpAny_bind (wpAny_pure ?_)
    obtain ⟨r0, er0⟩ : ∃ r0, r0 = runAt t.mask (SetTable.bits h % (t.mask + 1)) (SetTable.bits h) := ⟨_, rfl⟩
    have wy : ∀ q, (nth t.mask r0 q).j = way t.mask h q := fun q => by rw [er0]
    have e1 : ∀ q, (nth t.mask (nth t.mask r0 c) q).j = way t.mask h (c + q) := fun q => by rw [← nth_add, wy]
    rw [← er0] at hst
    have spec := go_spec t R.tab.ris R.tab.dm (fun i => (es[i]?.map (·.1)).getD 0) h (10 * SetTable.turns t.mask) (K - c) (nth t.mask r0 c) (no_dummy _ _ _ (by rw [er0]; rfl)) (by omega)
      (fun q hq => by rw [e1]; exact hKb _ (by omega)) (by rw [e1, show c + (K - c) = K by omega]; exact hK)
    have hat : ∀ (i : Nat) p, L[i]? = some p → (es[i]?.map (·.1)).getD 0 = hashK P w p.2 := fun i p hp => by
      rw [R.ent hp]
      rfl
    have later : ∀ q : Nat, (∀ k' i' : Nat, k' < q → t.place.toList[i']? = some (nth t.mask (nth t.mask r0 c) k').j → (es[i']?.map (·.1)).getD 0 ≠ h) → ∀ (i : Nat) p, L[i]? = some p → p.2 = k → ∀ c', c ≤ c' → t.place.toList[i]? = some (way t.mask h c') → c + q ≤ c' :=
      fun q hno i p hp hk c' lo hi => by
        rcases Nat.lt_or_ge c' (c + q) with z | z
        · exfalso
          refine hno (c' - c) i (by omega) (by rw [e1, show c + (c' - c) = c' by omega]; exact hi) ?_
          rw [hat i p hp, hk, eh]
        · exact z
    rcases spec with ⟨q, i, hq, hi, hh, hno, hpr⟩ | ⟨hno, hpr⟩
    · have pr : t.probe (fun i => (es[i]?.map (·.1)).getD 0) h (stand.getD (t.probeStart h)) = some (.candidate (way t.mask h (c + q)) i (nth t.mask r0 (c + (q + 1)))) := by
        rw [hst, ← e1, nth_add]
        exact hpr
      rw [pr]
      dsimp only
      rw [e1] at hi
      have il : i < L.length := by
        have h1 : i < t.place.toList.length := (List.getElem?_eq_some_iff.mp hi).1
        have h2 := R.tab.sz
        rw [List.length_map] at h2
        rw [Array.length_toList] at h1
        omega
      have hp : L[i]? = some L[i] := List.getElem?_eq_getElem il
      generalize L[i] = p at hp
      have pm : p ∈ L := List.mem_of_getElem? hp
      have rest : wpAny (model P w) A (searchRest S (.ref x) h true f es t (way t.mask h (c + q)) i (nth t.mask r0 (c + (q + 1)))) Q E s := by
        unfold searchRest
        rw [R.ent hp]
        dsimp only
        refine wpAny_bind (wpAny_holding (wpAny_eqBool_tuple hu (R.tup p pm) hx ?_))
        refine wpAny_bind (wpAny_setState_of ho hd R.fits ?_)
        dsimp only
        by_cases ek : p.2 = k
        · exact wp_if_pos (by simp [ek]) (wpAny_pure (yes (List.mem_map.mpr ⟨p, pm, ek⟩)))
        · refine wp_if_neg (by simp [ek]) ?_
          try refine wpAny_bind (wpAny_pure ?_)
          rw [sameMem]
          dsimp only
          have sl : t.slot (way t.mask h (c + q)) = .live i := slot_live R.tab.ris hi
          simp only [if_true, sl, R.ent hp]
          refine wpAny_bind (wpAny_isSame_ref_self (wpAny_bind (wpAny_pure ?_)))
          simp only [if_true]
          refine wp_if_neg (by simp [ek]) ?_
          refine tsearch R hx hu eh hKf hK hKb yes no f (c + (q + 1)) _ (by rw [← er0]; rfl) (by omega) (by omega) fun i0 p0 h0 k0 => ?_
          obtain ⟨c', a1, a2, a3⟩ := hre i0 p0 h0 k0
          refine ⟨c', ?_, a2, a3⟩
          have ge := later q hno i0 p0 h0 k0 c' a1 a3
          rcases Nat.lt_or_ge (c + q) c' with y | y
          · omega
          · exfalso
            rw [show c' = c + q by omega] at a3
            have s0 := slot_live R.tab.ris a3
            rw [sl] at s0
            injection s0 with s0
            rw [← s0, hp] at h0
            exact ek ((congrArg Prod.snd (Option.some.inj h0)).trans k0)
      by_cases hl : t.led = true
      · refine wp_if_neg (by simp [hl]) ?_
        try refine wpAny_bind (wpAny_pure ?_)
        exact rest
      · refine wp_if_pos (by simp [hl]) ?_
        refine wpAny_bind (seen_none hx (fun y hy => ?_) ?_)
        · obtain ⟨e, he, ee⟩ := List.mem_map.mp hy
          have he1 : e ∈ es ∧ e.1 = h := by simpa using he
          have he2 : e ∈ es.toList := by simpa using he1.1
          rw [R.es_eq] at he2
          obtain ⟨p2, hp2, e2⟩ := List.mem_map.mp he2
          exact ⟨p2.2, p2.1, by rw [← ee, ← e2], R.tup p2 hp2⟩
        · refine wp_if_neg (by decide) ?_
          try refine wpAny_bind (wpAny_pure ?_)
          exact rest
    · have pr : t.probe (fun i => (es[i]?.map (·.1)).getD 0) h (stand.getD (t.probeStart h)) = some (.empty (way t.mask h K) none) := by
        rw [hst, show way t.mask h K = (nth t.mask (nth t.mask r0 c) (K - c)).j by rw [e1, show c + (K - c) = K by omega]]
        exact hpr
      rw [pr]
      dsimp only
      refine wpAny_pure (no fun hm => ?_)
      obtain ⟨p0, h0, k0⟩ := List.mem_map.mp hm
      obtain ⟨i0, hi0, e0⟩ := List.getElem_of_mem h0
      have h00 : L[i0]? = some p0 := by rw [List.getElem?_eq_getElem hi0, e0]
      obtain ⟨c', a1, a2, a3⟩ := hre i0 p0 h00 k0
      have ge := later (K - c) hno i0 p0 h00 k0 c' a1 a3
      omega
/-- .. as adding asks it -/
theorem tsearch_at (R : TSet P w s.heap S L es ep t) {x : Addr} {k : List Key} (hx : IsK P w s.heap k x) (hu : A.units < cLine) {h : Int} (eh : h = hashK P w k) {Q : SetFound → Shared → Prop}
    (yes : k ∈ L.map (·.2) → Q (.there none) s)
    (no : ∀ K, k ∉ L.map (·.2) → way t.mask h K ∉ t.place.toList → (∀ c, c < K → way t.mask h c ∈ t.place.toList) → Q (.free (way t.mask h K) false) s) :
    wpAny (model P w) A (setSearch S (.ref x) h true) Q E s := by
  have room := R.room
  obtain ⟨K, hKf, hK, hKb⟩ := R.tab.first (by rw [List.length_map]; omega) h
  have turns : 10 * SetTable.turns t.mask ≤ 1420 := by
    unfold SetTable.turns
    rcases R.tab.mok with e | e | e <;> omega
  unfold setSearch
  refine tsearch R hx hu eh hKf hK hKb yes (fun hn => no K hn hK hKb) 100000 0 none rfl (Nat.zero_le _) (by omega) fun i p hp hk => ?_
  have hi : (hashes P w L)[i]? = some h := by
    rw [List.getElem?_map, hp, eh, ← hk]
    rfl
  have il : i < t.place.toList.length := by
    have h1 : i < L.length := (List.getElem?_eq_some_iff.mp hp).1
    have h2 := R.tab.sz
    rw [List.length_map] at h2
    rw [Array.length_toList]
    omega
  have hj := List.getElem?_eq_getElem il
  obtain ⟨c, hc, e⟩ := R.tab.before hK hi hj
  exact ⟨c, Nat.zero_le _, hc, by rw [hj, e]⟩
end
end Kx
end
section
set_option maxRecDepth 100000
set_option maxHeartbeats 4000000
namespace Kx
open PySem PySem.Spec PyProof.Rows L2
section
variable {P : Program} {w : World} {A : Around} {E : Value → Shared → Prop} {s : Shared}
theorem isK_but {h h' : Heap} {k : List Key} {a b : Addr} {o : Obj} {es : Array (Int × Value)} {ep : Nat} {t : SetTable} (hb : IsK P w h k b) (ho : h.get? a = some o) (hd : o.data = .set es ep t) (hs : Heap.SameBut a h h') : IsK P w h' k b := by
  obtain ⟨o', items, n, ho', hc, hd', hi⟩ := hb
  refine ⟨o', items, n, (hs.2 b ?_).trans ho', hc, hd', hi⟩
  rintro rfl
  obtain rfl : o' = o := Option.some.inj (ho'.symm.trans ho)
  rw [hd] at hd'
  exact nomatch hd'
theorem isK_ext {h h' : Heap} {k : List Key} {b : Addr} (x : IsK P w h k b) (hk : Ext h h') : IsK P w h' k b := by
  obtain ⟨o, items, n, ho, r⟩ := x
  exact ⟨o, items, n, hk b o ho, r⟩
theorem fm_some {α : Type} {L : List α} : ∀ n, n ≤ L.length → (List.range n).filterMap (fun i => L[i]?) = L.take n
  | 0, _ => rfl
  | n + 1, hn => by
    have lt : n < L.length := hn
    rw [List.range_succ, List.filterMap_append, fm_some n (Nat.le_of_lt lt), List.take_succ, List.getElem?_eq_getElem lt, List.filterMap_cons_some (List.getElem?_eq_getElem lt)]
    rfl
theorem ents_order (L : List (Addr × List Key)) (es : Array (Int × Value)) (order : Array Nat) (hr : es.toList = ents P w L) (hp : order.toList.Perm (List.range L.length)) :
    ∃ L2, (order.filterMap (es[·]?)).toList = ents P w L2 ∧ L2.Perm L ∧ hashes P w L2 = order.toList.map fun i => (es.map (·.1)).getD i 0 := by
  have sz := ents_size hr
  have at_ : ∀ i (h : i < L.length), es[i]? = some (hashK P w (L[i]).2, Value.ref (L[i]).1) := fun i h => by
    rw [← Array.getElem?_toList, hr, List.getElem?_map, List.getElem?_eq_getElem h]
    rfl
  have key : ∀ l : List Nat, (∀ i ∈ l, i < L.length) → l.filterMap (fun i => es[i]?) = ents P w (l.filterMap fun i => L[i]?) ∧ hashes P w (l.filterMap fun i => L[i]?) = l.map fun i => (es.map (·.1)).getD i 0 := by
    intro l
    induction l with
    | nil => exact fun _ => ⟨rfl, rfl⟩
    | cons i l ih =>
      intro hl
      have hi := hl i List.mem_cons_self
      obtain ⟨e1, e3⟩ := ih fun j hj => hl j (List.mem_cons_of_mem _ hj)
      have e5 : (es.map (·.1))[i]? = some (hashK P w (L[i]).2) := by
        rw [Array.getElem?_map, at_ i hi]
        rfl
      constructor
      · rw [List.filterMap_cons_some (at_ i hi), e1, List.filterMap_cons_some (List.getElem?_eq_getElem hi)]
        rfl
      · rw [List.filterMap_cons_some (List.getElem?_eq_getElem hi), List.map_cons]
        show hashK P w (L[i]).2 :: hashes P w _ = _
        rw [e3]
        simp [Array.getD_eq_getD_getElem?, e5]
  obtain ⟨e1, e3⟩ := key order.toList fun i hi => List.mem_range.mp (hp.mem_iff.mp hi)
  refine ⟨_, by first | (rw [Array.toList_filterMap]; exact e1) | simpa using e1, ?_, e3⟩
  have h1 := hp.filterMap fun i => L[i]?
  rw [fm_some L.length (Nat.le_refl _), List.take_length] at h1
  exact h1
variable {S : Addr} {L : List (Addr × List Key)} {es : Array (Int × Value)} {ep : Nat} {t : SetTable}
/-- the table laid anew -/
theorem trelay {o : Obj} (ho : s.heap.get? S = some o) (hex : o.ExactSet) (hd : o.data = .set es ep t) (hr : es.toList = ents P w L) (hsz : t.place.size = es.size) (hdm : t.dummies = #[]) (hfl : es.size ≤ t.mask)
    (nd : (L.map (·.2)).Nodup) (tup : ∀ p ∈ L, IsK P w s.heap p.2 p.1) (few : L.length < 64) {wanted M : Nat} (hw : SetTable.sizeAbove wanted - 1 = M) (hM : MaskOk M) (hw2 : SetTable.sizeAbove wanted ≤ 128) (hn : L.length * 5 < M * 3)
    {Q : Unit → Shared → Prop} (hQ : ∀ h' L' es' ep' t', Heap.SameBut S s.heap h' → TSet P w h' S L' es' ep' t' → L'.Perm L → Q () { s with heap := h' }) : wpAny (model P w) A (setRelay S wanted) Q E s := by
  have sl := ents_size hr
  have fits : t.fits es.size = true := by
    unfold SetTable.fits SetTable.fill
    rw [hdm, Bool.and_eq_true, beq_iff_eq, decide_eq_true_eq]
    exact ⟨hsz, by show t.place.size + 0 ≤ t.mask; omega⟩
  obtain ⟨t', order, e, hp, T, em, _, _, _⟩ := relaid_ok t (hs := es.map (·.1)) (wanted := wanted) hw hM (by rw [Array.size_map, sl]; omega)
  rw [Array.size_map, sl] at hp
  obtain ⟨L2, r1, r2, r3⟩ := ents_order L es order hr hp
  rw [← r3] at T
  have s2 : (order.filterMap (es[·]?)).size = es.size := by rw [ents_size r1, r2.length_eq, sl]
  rw [setRelay_eq]
  refine wpAny_bind (wpAny_setState_of ho hd fits ?_)
  dsimp only
  refine wp_if_neg (by rw [sizeLine_eq]; omega) ?_
  try refine wpAny_bind (wpAny_pure ?_)
  rw [e]
  dsimp only
  refine wpAny_bind ?_
  refine wp_if_neg (by rw [s2]; simp) ?_
  try refine wpAny_bind (wpAny_pure ?_)
  refine wpAny_pure ?_
  dsimp only
  refine wpAny_storeSet_of ho hd ?_ (by rw [s2, sl, sizeLine_eq]; omega)
  have sb : Heap.SameBut S s.heap (s.heap.update S (Obj.putSet (order.filterMap (es[·]?)) t')) := Heap.SameBut.update ..
  exact hQ _ L2 _ (ep + 1) t' sb ⟨⟨_, store_at ho hd, ⟨hex.1, hex.2.1, hex.2.2⟩, rfl⟩, r1, T, (r2.map (·.2)).nodup_iff.mpr nd, fun p hp => isK_but (tup p (r2.mem_iff.mp hp)) ho hd sb,
    by rw [r2.length_eq, em]; exact hn, by rw [r2.length_eq]; exact few⟩ r2
theorem hashes_put (L : List (Addr × List Key)) (p : Nat) (x : Addr) (k : List Key) : hashes P w (L.take p ++ (x, k) :: L.drop p) = (hashes P w L).take p ++ hashK P w k :: (hashes P w L).drop p := by
  unfold hashes
  rw [List.map_append, List.map_cons, List.map_take, List.map_drop]
theorem ents_put (L : List (Addr × List Key)) (p : Nat) (x : Addr) (k : List Key) : ents P w (L.take p ++ (x, k) :: L.drop p) = (ents P w L).take p ++ (hashK P w k, Value.ref x) :: (ents P w L).drop p := by
  unfold ents
  rw [List.map_append, List.map_cons, List.map_take, List.map_drop]
theorem tabOk_plain {t : SetTable} {hs : List Int} (T : TabOk t hs) (b : Bool) : TabOk { t with plain := b } hs := ⟨T.ris, T.dm, T.sz, T.mok, T.bd, T.reach⟩
/-- one tuple added -/
theorem tadd (R : TSet P w s.heap S L es ep t) {x : Addr} {k : List Key} (hx : IsK P w s.heap k x) (hu : A.units < cLine) (few : L.length + 1 < 64) {h : Int} (eh : h = hashK P w k) {Q : Bool → Shared → Prop}
    (hQ : ∀ b h' L' es' ep' t', Heap.SameBut S s.heap h' → TSet P w h' S L' es' ep' t' → (k ∈ L.map (·.2) → L' = L) → (k ∉ L.map (·.2) → L'.Perm ((x, k) :: L)) → Q b { s with heap := h' }) :
    wpAny (model P w) A (setAddHashed S (.ref x) h) Q E s := by
  obtain ⟨o, ho, hex, hd⟩ := R.ob
  have sl := ents_size R.es_eq
  have room := R.room
  unfold setAddHashed
  refine wpAny_holding ?_
  rw [show (100000 : Nat) = 99999 + 1 from rfl, setAddHashedIn_succ]
  refine wpAny_bind (wpAny_setState_of ho hd R.fits ?_)
  dsimp only
  refine wp_if_neg (by simp [byScan, Value.scannable]) ?_
  try refine wpAny_bind (wpAny_pure ?_)
  refine wpAny_bind (tsearch_at R hx hu eh (fun hm => ?_) fun K hm hK hb => ?_)
  · dsimp only
    exact wpAny_pure (hQ false s.heap L es ep t (Heap.SameBut.refl S s.heap) R (fun _ => rfl) fun z => absurd hm z)
  · dsimp only
    refine wpAny_bind (wpAny_setState_of ho hd R.fits ?_)
    dsimp only
    obtain ⟨q1, q2, q3, q4, _, _, _, _, q9⟩ := R.tab.put hK hb
    generalize ept : t.put (way t.mask h K) = pt at q1 q3 q4 q9 ⊢
    obtain ⟨t1, p⟩ := pt
    dsimp only at q1 q3 q4 q9 ⊢
    subst q1
    have eb : (SetTable.insertAt es (SetTable.below t.place (way t.mask h K)) (h, Value.ref x)).toList = ents P w (L.take (SetTable.below t.place (way t.mask h K)) ++ (x, k) :: L.drop (SetTable.below t.place (way t.mask h K))) := by
      rw [SetTable.toList_insertAt, ents_put, R.es_eq, eh]
    rw [eh] at q3
    rw [← eh] at q3
    generalize SetTable.below t.place (way t.mask h K) = p at q2 q3 eb ⊢
    have pm := put_perm L p (x, k)
    have len : (L.take p ++ (x, k) :: L.drop p).length = L.length + 1 := pm.length_eq
    have hh : hashes P w (L.take p ++ (x, k) :: L.drop p) = (hashes P w L).take p ++ h :: (hashes P w L).drop p := by rw [hashes_put, eh]
    rw [← hh] at q3
    have nd1 : ((L.take p ++ (x, k) :: L.drop p).map (·.2)).Nodup := by
      refine (pm.map (·.2)).nodup_iff.mpr ?_
      rw [List.map_cons]
      exact List.nodup_cons.mpr ⟨hm, R.nd⟩
    generalize SetTable.insertAt es p (h, Value.ref x) = es1 at eb ⊢
    generalize L.take p ++ (x, k) :: L.drop p = L1 at pm len q3 nd1 eb
    have z1 : es1.size = L.length + 1 := by rw [ents_size eb, len]
    have cont : ∀ t2 : SetTable, TabOk t2 (hashes P w L1) → t2.mask = t.mask → t2.fill = (hashes P w L).length + 1 →
        wpAny (model P w) A (do
          storeSet S es1 t2
          if !false && t2.tooFull then setRelay S (SetTable.grown (es.size + 1))
          return true) Q E s := fun t2 T2 m2 f2 => by
      refine wpAny_bind (wpAny_storeSet_of ho hd ?_ (by rw [z1, sizeLine_eq]; omega))
      have sb : Heap.SameBut S s.heap (s.heap.update S (Obj.putSet es1 t2)) := Heap.SameBut.update ..
      have ho1 := store_at (es' := es1) (t' := t2) ho hd
      generalize s.heap.update S (Obj.putSet es1 t2) = h1 at sb ho1 ⊢
      have tup1 : ∀ p ∈ L1, IsK P w h1 p.2 p.1 := fun p hp => by
        rcases List.mem_cons.mp (pm.mem_iff.mp hp) with e | hp
        · rw [e]
          exact isK_but hx ho hd sb
        · exact isK_but (R.tup p hp) ho hd sb
      by_cases full : t2.tooFull = true
      · have big : (L.length + 1) * 5 ≥ t2.mask * 3 := by
          have u := full
          unfold SetTable.tooFull at u
          rw [decide_eq_true_eq, f2, List.length_map] at u
          exact u
        have two : (t.mask = 7 ∧ L.length = 4) ∨ (t.mask = 31 ∧ L.length = 18) := by
          rcases R.tab.mok with e | e | e
          · rw [m2, e] at big
            rw [e] at room
            exact .inl ⟨e, by omega⟩
          · rw [m2, e] at big
            rw [e] at room
            exact .inr ⟨e, by omega⟩
          · exfalso
            rw [m2, e] at big
            omega
        have s1 : t2.place.size = es1.size := by
          have u := T2.sz
          rw [List.length_map, len] at u
          rw [u, z1]
        have go : ∀ M, SetTable.sizeAbove (SetTable.grown (L.length + 1)) - 1 = M → MaskOk M → SetTable.sizeAbove (SetTable.grown (L.length + 1)) ≤ 128 → (L.length + 1) * 5 < M * 3 →
            wpAny (model P w) A (setRelay S (SetTable.grown (L.length + 1))) (fun _ s' => wpAny (model P w) A (pure true) Q E s') E { s with heap := h1 } := fun M y1 y2 y3 y4 => by
          refine trelay (s := { s with heap := h1 }) ho1 ⟨hex.1, hex.2.1, hex.2.2⟩ rfl eb s1 T2.dm (by rw [z1, m2]; rcases two with ⟨e, e2⟩ | ⟨e, e2⟩ <;> omega) nd1 tup1 (by rw [len]; exact few) y1 y2 y3 (by rw [len]; exact y4) ?_
          intro h2 L2 es2 ep2 t2 sb2 R2 pm2
          exact wpAny_pure (hQ true h2 L2 es2 ep2 t2 (sb.trans sb2) R2 (fun z => absurd z hm) fun _ => pm2.trans pm)
        rw [sl]
        first
          | (refine wpAny_bind ?_; refine wp_if_pos (by simp [full]) ?_)
          | (refine wp_if_pos (by simp [full]) ?_; refine wpAny_bind ?_)
        rcases two with ⟨_, e2⟩ | ⟨_, e2⟩
        · exact go 31 (by rw [e2, size_20]) (.inr (.inl rfl)) (by rw [e2, size_20]; decide) (by omega)
        · exact go 127 (by rw [e2, size_76]) (.inr (.inr rfl)) (by rw [e2, size_76]; decide) (by omega)
      · first
          | refine wp_if_neg (by simp [full]) ?_
          | (refine wpAny_bind ?_; refine wp_if_neg (by simp [full]) ?_; refine wpAny_pure ?_)
        refine wpAny_pure (hQ true h1 L1 es1 (ep + 1) t2 sb ⟨⟨_, ho1, ⟨hex.1, hex.2.1, hex.2.2⟩, rfl⟩, eb, T2, nd1, tup1, ?_, by rw [len]; exact few⟩ (fun z => absurd z hm) fun _ => pm)
        have u := full
        unfold SetTable.tooFull at u
        rw [decide_eq_true_eq, f2, List.length_map] at u
        rw [len]
        omega
    by_cases pl : t1.plain = true
    · first
        | (refine wpAny_bind ?_; refine wp_if_pos pl ?_; refine hashV_tup hx fun c => ?_)
        | refine wp_if_pos pl (wpAny_bind (hashV_tup hx fun c => ?_))
      cases c with
      | true =>
        simp only [if_true]
        exact cont t1 q3 q4 q9
      | false =>
        simp only [Bool.false_eq_true, if_false]
        exact cont { t1 with plain := false } (tabOk_plain q3 false) q4 q9
    · first
        | (refine wpAny_bind ?_; refine wp_if_neg pl ?_; refine wpAny_pure ?_)
        | refine wp_if_neg pl (wpAny_bind (wpAny_pure ?_))
      simp only [if_true]
      exact cont t1 q3 q4 q9
end
end Kx
end
section
set_option maxRecDepth 100000
set_option maxHeartbeats 4000000
namespace Kx
open PySem PySem.Spec PyProof.Rows L2
/-! ### how many of the first i are unlike -/
section
variable {α : Type} [DecidableEq α]
def cntTo (xs : List α) : Nat → Nat
  | 0 => 0
  | i + 1 => match xs[i]? with
    | some x => if x ∈ xs.take i then cntTo xs i else cntTo xs i + 1
    | none => cntTo xs i
theorem cnt_le (xs : List α) : ∀ i, cntTo xs i ≤ i
  | 0 => Nat.le_refl _
  | i + 1 => by
    have h := cnt_le xs i
    unfold cntTo
    split
    · split <;> omega
    · omega
theorem cnt_step {xs : List α} {i : Nat} {x : α} (h : xs[i]? = some x) : cntTo xs (i + 1) = if x ∈ xs.take i then cntTo xs i else cntTo xs i + 1 := by
  conv => lhs; unfold cntTo
  rw [h]
theorem cnt_nodup {xs : List α} (n : xs.Nodup) : ∀ i, i ≤ xs.length → cntTo xs i = i
  | 0, _ => rfl
  | i + 1, hi => by
    have lt : i < xs.length := hi
    rw [cnt_step (List.getElem?_eq_getElem lt), cnt_nodup n i (Nat.le_of_lt lt), if_neg]
    intro hm
    obtain ⟨j, hj, e⟩ := List.getElem_of_mem hm
    rw [List.getElem_take] at e
    rw [List.length_take] at hj
    exact absurd e (List.pairwise_iff_getElem.mp n j i (by omega) lt (by omega))
theorem nodup_cnt {xs : List α} : ∀ i, i ≤ xs.length → cntTo xs i = i → (xs.take i).Nodup
  | 0, _, _ => by simp
  | i + 1, hi, e => by
    have lt : i < xs.length := hi
    have le := cnt_le xs i
    rw [cnt_step (List.getElem?_eq_getElem lt)] at e
    by_cases c : xs[i] ∈ xs.take i
    · rw [if_pos c] at e
      omega
    · rw [if_neg c] at e
      have ih := nodup_cnt i (Nat.le_of_lt lt) (by omega)
      rw [take_next (List.getElem?_eq_getElem lt), List.nodup_append]
      exact ⟨ih, by simp, fun a ha b hb => by
        rw [List.mem_singleton.mp hb]
        rintro rfl
        exact c ha⟩
/-- just lists without doubles have as many unlike things as things -/
theorem cnt_iff (xs : List α) : cntTo xs xs.length = xs.length ↔ xs.Nodup :=
  ⟨fun h => by
    have n := nodup_cnt xs.length (Nat.le_refl _) h
    rwa [List.take_length] at n, fun n => cnt_nodup n _ (Nat.le_refl _)⟩
end
section
variable {P : Program} {w : World} {A : Around} {E : Value → Shared → Prop} {s : Shared}
theorem fill_texts {S : Addr} {h0 : Heap} {us : List Value} {xs : List Str} (hs : StrsAre us xs) (few : xs.length < 4000) :
    Filled P w A E S h0 us.toArray (fun i h => i ≤ xs.length → h.SetOf (strKind P w) S (fun k => decide (k ∈ xs.take i)) (cntTo xs i)) where
  zero := fun h e _ => SetOf_congr ((setObjOf_fresh (knd := strKind P w) _).setOf e (by unfold scanBound; omega)) (fun _ => rfl) rfl
  keep := fun i h h' z k _ hi => by
    obtain ⟨o, es, ep, t, ho, r⟩ := z hi
    exact ⟨o, es, ep, t, k o ho, r⟩
  step := fun i v s hv z x Q hQ => by
    have hv' : us[i]? = some v := by simpa using hv
    have len := StrsAre.len_eq hs
    have il : i < xs.length := by
      have := (List.getElem?_eq_some_iff.mp hv').1
      omega
    have hx := List.getElem?_eq_getElem il
    obtain ⟨t, e⟩ := SS.strs_at hs i v hv'
    have ex : xs.getD i Str.empty = xs[i] := by simp [il]
    rw [ex] at e
    subst e
    have le := cnt_le xs i
    unfold setAdd
    refine wpAny_holding ?_
    refine wpAny_bind ((strKind P w).pyHash (k := xs[i]) (strKind_is _ _ _ _) ?_)
    refine wpAny_setAddHashed_of (knd := strKind P w) (s := { s with toks := s.toks + 1 }) (strKind_is _ _ _ _) rfl (z (Nat.le_of_lt il)) (by unfold scanBound; omega) fun h' sb z2 => ?_
    refine hQ _ h' (s.toks + 1) (Nat.le_succ _) sb fun _ => SetOf_congr z2 (fun k => ?_) ?_
    · show (decide (k ∈ xs.take i) || decide (k = xs[i])) = decide (k ∈ xs.take (i + 1))
      rw [take_next hx, ← Bool.decide_or]
      exact decide_eq_decide.mpr (by rw [List.mem_append, List.mem_singleton])
    · rw [cnt_step hx]
      by_cases c : xs[i] ∈ xs.take i <;> simp [c]
/-- what the set has got of the first i tuples -/
def GotK (P : Program) (w : World) (S : Addr) (ks : List (Addr × List Key)) (i : Nat) (h : Heap) : Prop :=
  ∃ L es ep t, TSet P w h S L es ep t ∧ (∀ p ∈ L, p ∈ ks.take i) ∧ (∀ p ∈ ks.take i, p.2 ∈ L.map (·.2)) ∧ L.length = cntTo (ks.map (·.2)) i
theorem fill_tups {S : Addr} {h0 : Heap} {ks : List (Addr × List Key)} {us : List Value} (hu : A.units < cLine) (hs : us = ks.map fun p => Value.ref p.1) (hk : ∀ p ∈ ks, IsK P w h0 p.2 p.1) (few : ks.length < 64) :
    Filled P w A E S h0 us.toArray (fun i h => i ≤ ks.length → GotK P w S ks i h) where
  zero := fun h e _ => ⟨[], #[], 0, _, ⟨⟨_, e, ⟨rfl, rfl, rfl⟩, rfl⟩, rfl, ⟨List.Pairwise.nil, rfl, rfl, .inl rfl, fun x hx => (by cases hx), fun i h j hi => (by simp at hi)⟩, List.nodup_nil, fun p hp => (by cases hp),
    (by show 0 * 5 < 7 * 3; decide), (by show 0 < 64; decide)⟩, fun p hp => (by cases hp), fun p hp => (by simp at hp), rfl⟩
  keep := fun i h h' z k x hi => by
    obtain ⟨L, es, ep, t, R, g1, g2, g3⟩ := z hi
    obtain ⟨o, ho, r⟩ := R.ob
    exact ⟨L, es, ep, t, ⟨⟨o, k o ho, r⟩, R.es_eq, R.tab, R.nd, fun p hp => isK_ext (hk p (List.mem_of_mem_take (g1 p hp))) x, R.room, R.few⟩, g1, g2, g3⟩
  step := fun i v s hv z x Q hQ => by
    subst hs
    have hv' : (ks.map fun p => Value.ref p.1)[i]? = some v := by simpa using hv
    rw [List.getElem?_map] at hv'
    obtain ⟨p, hp, rfl⟩ := Option.map_eq_some_iff.mp hv'
    have il : i < ks.length := (List.getElem?_eq_some_iff.mp hp).1
    obtain ⟨L, es, ep, t, R, g1, g2, g3⟩ := z (Nat.le_of_lt il)
    have le := cnt_le (ks.map (·.2)) i
    have hx : IsK P w s.heap p.2 p.1 := isK_ext (hk p (List.mem_of_getElem? hp)) x
    have hp2 : (ks.map (·.2))[i]? = some p.2 := by rw [List.getElem?_map, hp]; rfl
    have same : p.2 ∈ L.map (·.2) ↔ p.2 ∈ (ks.map (·.2)).take i := by
      rw [← List.map_take]
      constructor
      · intro h
        obtain ⟨q, hq, e⟩ := List.mem_map.mp h
        exact List.mem_map.mpr ⟨q, g1 q hq, e⟩
      · intro h
        obtain ⟨q, hq, e⟩ := List.mem_map.mp h
        rw [← e]
        exact g2 q hq
    unfold setAdd
    refine wpAny_holding ?_
    refine wpAny_bind (wpAny_pyHash_tuple hu hx ?_)
    refine tadd (s := { s with toks := s.toks + (p.2.length + 1) }) ⟨R.ob, R.es_eq, R.tab, R.nd, R.tup, R.room, R.few⟩ hx hu (by omega) rfl fun b h' L' es' ep' t' sb R' c1 c2 => ?_
    refine hQ b h' _ (Nat.le_add_right _ _) sb fun _ => ⟨L', es', ep', t', R', ?_, ?_, ?_⟩
    · intro q hq
      rw [take_next hp]
      rcases Classical.em (p.2 ∈ L.map (·.2)) with c | c
      · rw [c1 c] at hq
        exact List.mem_append_left _ (g1 q hq)
      · rcases List.mem_cons.mp ((c2 c).mem_iff.mp hq) with e | hq
        · rw [e]
          exact List.mem_append_right _ (List.mem_singleton.mpr rfl)
        · exact List.mem_append_left _ (g1 q hq)
    · intro q hq
      rw [take_next hp] at hq
      rcases Classical.em (p.2 ∈ L.map (·.2)) with c | c
      · rw [c1 c]
        rcases List.mem_append.mp hq with hq | hq
        · exact g2 q hq
        · rw [List.mem_singleton.mp hq]
          exact c
      · rw [((c2 c).map (·.2)).mem_iff, List.map_cons]
        rcases List.mem_append.mp hq with hq | hq
        · exact List.mem_cons_of_mem _ (g2 q hq)
        · rw [List.mem_singleton.mp hq]
          exact List.mem_cons_self
    · rw [cnt_step hp2]
      rcases Classical.em (p.2 ∈ L.map (·.2)) with c | c
      · rw [c1 c, if_pos (same.mp c), g3]
      · rw [(c2 c).length_eq, List.length_cons, if_neg (fun z => c (same.mpr z)), g3]
end
end Kx
end
section
set_option maxRecDepth 100000
set_option maxHeartbeats 4000000
namespace Kx
open PySem PySem.Spec PyProof.Rows L2
/-- x is a list of texts, or of tuples of keys, n of them unlike -/
def Unlike (K : PySem.W.Frag) (H : Hp) (x : V) (n : Nat) : Prop :=
  (∃ (l : Addr) (xs : List Str), x = .ref l ∧ SqL K H l (xs.map V.str) ∧ xs.length < 4000 ∧ n = cntTo xs xs.length) ∨
  (∃ (l : Addr) (ks : List (Addr × List Key)), x = .ref l ∧ SqL K H l (ks.map fun p => V.ref p.1) ∧ (∀ p ∈ ks, SqT K H p.1 (p.2.map kV)) ∧ ks.length < 64 ∧ n = cntTo (ks.map (·.2)) ks.length)
/-- len(set(xs)) -/
def tLenU (K : PySem.W.Frag) (ta : TE) : TE := fun σ H Q => ta σ H fun x H1 => ∃ n : Nat, Unlike K H1 x n ∧ Q (.int n) H1
section
variable {X : Cx} {pins : List (Addr × Obj)} {σ : L2.St} {H : Hp} {s : Shared}
theorem isK_of (I : Inv X pins σ H s) {t : Addr} {ks : List Key} (h : SqT X.K H t (ks.map kV)) : IsK X.prog X.w s.heap ks t := by
  obtain ⟨its, rv, hT, _⟩ := I.tuple h
  obtain ⟨o, ho, hc, n, hd⟩ := hT
  exact ⟨o, its.toArray, n, ho, hc, hd, by simpa using items_are rv⟩
theorem vals_refs : ∀ {ks : List (Addr × List Key)} {us : List Value}, Vals (ks.map fun p => V.ref p.1) us → us = ks.map fun p => Value.ref p.1
  | [], _, .nil => rfl
  | p :: ks, _, .cons r t => by
    rw [vals_refs t]
    have r' : _ = Value.ref p.1 := r
    rw [r']
    rfl
theorem pe_lenU {a : Expr} {ta : TE} {p p2 q pos : Pos} (hc : X.calm = true) (hu : X.A.units + 64 < cLine) (hg : Gl X "len") (hm : X.mg "len" = none) (hg2 : Gl X "set") (hm2 : X.mg "set" = none) (ha : PE X a ta)
    (na : starEach [a] X.env = (false, eval a X.env) :: starEach [] X.env := by rfl) : PE X (.Call (.Name "len" p) [.Call (.Name "set" p2) [a] [] q] [] pos) (tLenU X.K ta) := by
  refine ⟨fun pins s σ H Q I h => ?_⟩
  refine Call_ (ld_blt I hg hm PySem.boot_len ?_)
  refine PyProof.Rows.callWith_builtin1 (PyProof.Rows.args_cons ?_ rfl) rfl rfl
  refine Call_ (ld_blt I hg2 hm2 PyProof.Rows.boot_set ?_)
  refine PyProof.Rows.callWith_type1 (PyProof.Rows.args_cons (thn (ha.run pins s σ H _ I h) fun v s1 ⟨x, H1, I1, r1, n, un, q1⟩ => PyProof.Rows.args_nil ?_) na) na rfl
  have hz : s1.heap.get? s1.heap.objs.size = none := Heap.get?_none_of_le (Nat.le_refl _)
  rcases un with ⟨l, xs, rfl, hq, few, rfl⟩ | ⟨l, ks, rfl, hq, hk, few, rfl⟩
  · cases r1
    obtain ⟨its, r, pl, _⟩ := I1.list hq
    have sa := strsAre_of r
    have len : its.toArray.size = xs.length := by rw [List.size_toArray, ← r.length, List.length_map]
    refine call_set_any (I1.ok.hd hc) pl.isList (fun E => fill_texts sa few) fun h' tk hZ x => ?_
    rw [len] at hZ
    obtain ⟨o, es, ep, t, ho, hex, hd, _, _, _, hf, hn⟩ := hZ (Nat.le_refl _)
    have le := cnt_le xs xs.length
    have I2 : Inv X pins σ H1 { s1 with heap := h', toks := tk } := I1.kept fun b o e => x b o e
    exact PyProof.Rows.args_nil (call_len_set ho hex hd hf (by rw [hn]; omega) ⟨.int _, H1, I2.tok _, ⟨_, by rw [hn]⟩, q1⟩)
  · cases r1
    obtain ⟨its, r, pl, _⟩ := I1.list hq
    have su := vals_refs r
    have len : its.toArray.size = ks.length := by rw [List.size_toArray, su, List.length_map]
    refine call_set_any (I1.ok.hd hc) pl.isList (fun E => fill_tups (by show X.A.units + 3 < cLine; omega) su (fun p hp => isK_of I1 (hk p hp)) few) fun h' tk hZ x => ?_
    rw [len] at hZ
    obtain ⟨L, es, ep, t, R, g1, g2, g3⟩ := hZ (Nat.le_refl _)
    obtain ⟨o, ho, hex, hd⟩ := R.ob
    have sl := ents_size R.es_eq
    have le := cnt_le (ks.map (·.2)) ks.length
    have I2 : Inv X pins σ H1 { s1 with heap := h', toks := tk } := I1.kept fun b o e => x b o e
    have fits : t.fits es.size = true := TSet.fits (s := { s1 with heap := h' }) R
    exact PyProof.Rows.args_nil (call_len_set ho hex hd fits (by rw [sl, g3]; omega) ⟨.int _, H1, I2.tok _, ⟨_, by rw [sl, g3]⟩, q1⟩)
end
end Kx
end
section
set_option maxRecDepth 100000
set_option maxHeartbeats 4000000
namespace Kc
open PySem PySem.Spec PyProof.Rows PySem.Builtin
abbrev TC : String := "itertools.combinations"
theorem mro_c : mroOf (.type TC) = pure [.type TC, .type "object"] := by
  rw [mroOf_type]
  kernel_rfl
theorem new_c : typeLookup (.type TC) "__new__" = pure (some (.builtin "itertools.combinations.__new__")) := by
  rw [typeLookup_type, builtinLookup_eq_fast]
  kernel_rfl
theorem slotI_c : Slot TC "__init__" "object.__init__" :=
  .of (owner := "object") (n := "__init__") (by rw [typeLookup_type, builtinLookup_eq_fast]; kernel_rfl) (by decide +kernel) (by decide +kernel) (by decide +kernel)
    (by first | exact .inl (by decide +kernel) | exact .inr (by decide +kernel)) (by rw [isSubtype_type]; kernel_rfl)
theorem sub_c : isSubtype (.type TC) (.type TC) = pure true := by
  rw [isSubtype_type]
  kernel_rfl
theorem called_c : TypeCalled TC "itertools.combinations.__new__" "object.__init__" :=
  ⟨by decide +kernel, by decide +kernel, ⟨_, _, mro_c⟩, madeBy_type mro_c new_c (by decide +kernel), by decide +kernel, sub_c, slotI_c⟩
theorem typeCall_c (a b : Value) : checkTypeCall TC ⟨[a, b], []⟩ = pure () := by kernel_rfl
theorem newCall_c (a b : Value) : checkBuiltinCall "itertools.combinations.__new__" ⟨[.type TC, a, b], []⟩ = pure () := by kernel_rfl
theorem entryN_c : entryFor table "itertools.combinations.__new__" = some Builtin.«itertools.combinations.__new__» := entryFor_of_tree (by kernel_rfl)
theorem slotIt_c : Slot TC "__iter__" "itertools.combinations.__iter__" :=
  .of (owner := TC) (n := "__iter__") (by rw [typeLookup_type, builtinLookup_eq_fast]; kernel_rfl) (by decide +kernel) (by decide +kernel) (by decide +kernel)
    (by first | exact .inl (by decide +kernel) | exact .inr (by decide +kernel)) sub_c
theorem slotNx_c : Slot TC "__next__" "itertools.combinations.__next__" :=
  .of (owner := TC) (n := "__next__") (by rw [typeLookup_type, builtinLookup_eq_fast]; kernel_rfl) (by decide +kernel) (by decide +kernel) (by decide +kernel)
    (by first | exact .inl (by decide +kernel) | exact .inr (by decide +kernel)) sub_c
theorem entryIt_c : entryFor table "itertools.combinations.__iter__" = some Builtin.«dict_keyiterator.__iter__» :=
  entryFor_alias (id' := "dict_keyiterator.__iter__") (by kernel_rfl) (by first | rfl | decide +kernel | (unfold String.splitOn; simp +decide [String.splitOnAux])) (by decide +kernel) (by kernel_rfl)
theorem entryNx_c : entryFor table "itertools.combinations.__next__" = some Builtin.«itertools.combinations.__next__» := entryFor_of_tree (by kernel_rfl)
def nameC : List Char := ['s', 'n', 'o', 'i', 't', 'a', 'n', 'i', 'b', 'm', 'o', 'c', '.', 's', 'l', 'o', 'o', 't', 'r', 'e', 't', 'i']
theorem owner_c : Manifest.owners.lookup (String.ofList nameC.reverse) = some Manifest.sig_itertools_combinations := by kernel_rfl
theorem argsIt_c (a : Value) : argsOk "itertools.combinations.__iter__" ⟨[a], []⟩ := by
  unfold argsOk
  rw [signature?_of (id := "itertools.combinations.__iter__") (n := ['_', '_', 'r', 'e', 't', 'i', '_', '_']) (o := nameC) (by kernel_rfl) owner_c]
  kernel_rfl
theorem argsNx_c (a : Value) : argsOk "itertools.combinations.__next__" ⟨[a], []⟩ := by
  unfold argsOk
  rw [signature?_of (id := "itertools.combinations.__next__") (n := ['_', '_', 't', 'x', 'e', 'n', '_', '_']) (o := nameC) (by kernel_rfl) owner_c]
  kernel_rfl
theorem noDict_c : typeHasDict (.type TC) = false := by decide +kernel
theorem noLen_c : typeLookup (.type TC) "__len__" = pure none := by
  rw [typeLookup_type, builtinLookup_eq_fast]
  kernel_rfl
theorem noHint_c : typeLookup (.type TC) "__length_hint__" = pure none := by
  rw [typeLookup_type, builtinLookup_eq_fast]
  kernel_rfl
theorem isType_c : isType (.type TC) = pure true := by first | rfl | kernel_rfl
end Kc
end
section
set_option maxRecDepth 100000
set_option maxHeartbeats 4000000
namespace Kc
open PySem PySem.Spec PyProof.Rows PySem.Builtin PySem.Builtin.Itertools
/-- the step of the model, in our own words -/
def nextC (n : Nat) (ix : List Nat) : Option (List Nat) :=
  match (List.range ix.length).reverse.find? fun i => ix.getD i 0 != i + n - ix.length with
  | none => none
  | some i => some (ix.take i ++ (List.range (ix.length - i)).map (ix.getD i 0 + 1 + ·))
def pickC (pool : Value) (ix : List Nat) : Sem Value := do
  let items ← itPoolItems pool
  newTuple (ix.map fun i => items.getD i .none)
def outC (self pool : Value) (ix : List Nat) : Sem PySem.Fin := do
  let result ← pickC pool ix
  let before ← field self 2
  setField self 2 result
  letGo [before] [result]
  ret result
theorem next_eq (self : Value) : Builtin.«itertools.combinations.__next__» ⟨[self], []⟩ = (do
    let (self, _) ← slotArgs "__next__" 0 ⟨[self], []⟩
    let pool ← field self 0
    let ix ← itNumbersFrom self 3
    match ← itIntField self 1 with
    | 0 => setField self 1 (rawInt 1); outC self pool ix
    | 1 =>
      match nextC (← itPoolItems pool).size ix with
      | some next => itSetNumbersFrom self 3 next; outC self pool next
      | none => setField self 1 (rawInt 2); itStop
    | _ => rule "itertools.combinations.ended"; itStop) := rfl
end Kc
end
section
set_option maxRecDepth 100000
set_option maxHeartbeats 4000000
namespace Kc
open PySem PySem.Spec PyProof.Rows PySem.Builtin PySem.Builtin.Itertools
def flds (pool : Addr) (st : Int) (res : Value) (ix : List Nat) : Array Value := ([.ref pool, rawInt st, res] ++ ix.map fun (i : Nat) => rawInt i).toArray
abbrev combO (pool : Addr) (st : Int) (res : Value) (ix : List Nat) : Obj := { cls := .type TC, dict := none, data := .fields (flds pool st res ix), slots := #[] }
section
variable {pool : Addr} {st : Int} {res : Value} {ix : List Nat}
theorem f0 : (flds pool st res ix)[0]? = some (.ref pool) := by simp [flds]
theorem f1 : (flds pool st res ix)[1]? = some (.int st 0) := by simp [flds, rawInt]
theorem f2 : (flds pool st res ix)[2]? = some res := by simp [flds]
theorem fsz : (flds pool st res ix).size = ix.length + 3 := by simp [flds]
theorem fset1 (v : Int) : (flds pool st res ix).setIfInBounds 1 (rawInt v) = flds pool v res ix := by simp [flds]
theorem fset2 (v : Value) : (flds pool st res ix).setIfInBounds 2 v = flds pool st v ix := by simp [flds]
theorem fnums : ((flds pool st res ix).toList.drop 3).map (fun | .int n _ => n.toNat | _ => 0) = ix := by
  have e : (flds pool st res ix).toList.drop 3 = ix.map fun (i : Nat) => rawInt i := by simp [flds]
  rw [e, List.map_map]
  conv => rhs; rw [← List.map_id ix]
  exact List.map_congr_left fun i _ => by simp [rawInt]
theorem fext (jx : List Nat) : (flds pool st res ix).extract 0 3 ++ (jx.map fun (i : Nat) => rawInt i).toArray = flds pool st res jx := by
  apply Array.toList_inj.mp
  simp [flds]
end
section
variable {prog : Program} {w : World} {A : Around} {E : Value → Shared → Prop} {s : Shared} {it pool : Addr} {st : Int} {res : Value} {ix : List Nat} {xs : Array Value}
/-- the pool -/
def Pool (h : Heap) (pool : Addr) (xs : Array Value) : Prop := ∃ o n, h.get? pool = some o ∧ o.data = .seq xs n
theorem upd_f {o' : Obj} (g : Array Value → Array Value) (hit : s.heap.get? it = some (combO pool st res ix)) (e : Obj.mapFields g (combO pool st res ix) = o') : (s.heap.update it (Obj.mapFields g)).get? it = some o' := by
  have h := Heap.get?_update_self (Obj.mapFields g) hit rfl
  rw [e] at h
  exact h
/-- a new tuple of the pool's items, held by the iterator -/
theorem out_item {Q : PySem.Fin → Shared → Prop} (hit : s.heap.get? it = some (combO pool st res ix)) (hp : Pool s.heap pool xs) (hn : ix.length ≤ 1000)
    (h : ∀ h', h'.get? s.heap.objs.size = some { cls := .type "tuple", data := .seq (ix.map fun i => xs.getD i .none).toArray } → h'.get? it = some (combO pool st (.ref s.heap.objs.size) ix) →
      (∀ b o, b ≠ it → s.heap.get? b = some o → h'.get? b = some o) → h'.objs.size = s.heap.objs.size + 1 → Q (.done (.ret (.ref s.heap.objs.size))) { s with heap := h' }) : wpAny (model prog w) A (outC (.ref it) (.ref pool) ix) Q E s := by
  obtain ⟨o, n, ho, hd⟩ := hp
  have lt : it < s.heap.objs.size := Heap.lt_size hit
  unfold outC pickC itPoolItems
  refine wpAny_bind (wpAny_bind (wpAny_bind (wpAny_seqItems ho hd (wpAny_pure ?_))))
  refine wpAny_newTuple ?_ (by rw [List.length_map, sizeLine_eq]; omega)
  generalize hT : s.heap.push { cls := .type "tuple", data := .seq (ix.map fun i => xs.getD i .none).toArray } = h1
  have g1 : h1.get? it = some (combO pool st res ix) := by
    rw [← hT]
    exact Heap.get?_push_of_some _ hit
  have g2 : h1.get? s.heap.objs.size = some { cls := .type "tuple", data := .seq (ix.map fun i => xs.getD i .none).toArray } := by
    rw [← hT]
    exact Heap.get?_push_size _ rfl
  refine wpAny_bind (wpAny_field g1 rfl f2 ?_)
  refine wpAny_bind (wpAny_setField g1 rfl (by rw [fsz]; omega) ?_)
  refine wpAny_bind (wpAny_letGo ?_)
  have ne : s.heap.objs.size ≠ it := Nat.ne_of_gt lt
  refine wpAny_pure (h _ ?_ ?_ (fun b o nb e => ?_) ?_)
  · rw [Heap.get?_update_ne _ _ _ _ ne]
    exact g2
  · exact upd_f (s := { s with heap := h1 }) _ g1 (by simp [Obj.mapFields, fset2])
  · rw [Heap.get?_update_ne _ _ _ _ nb, ← hT]
    exact Heap.get?_push_of_some _ e
  · rw [Heap.size_update, ← hT, size_push']
end
end Kc
end
section
set_option maxRecDepth 100000
set_option maxHeartbeats 4000000
namespace Kc
open PySem PySem.Spec PyProof.Rows PySem.Builtin PySem.Builtin.Itertools
/-- what stands ahead of a turn: fresh with the first places, or behind places whose next are told -/
def Ahead (n : Nat) (st : Int) (ix : List Nat) (nx : Option (List Nat)) : Prop := (st = 0 ∧ nx = some ix) ∨ (st = 1 ∧ nx = nextC n ix) ∨ (st = 2 ∧ nx = none)
section
variable {prog : Program} {w : World} {A : Around} {E : Value → Shared → Prop} {s : Shared} {it pool : Addr} {st : Int} {res : Value} {ix jx : List Nat} {xs : Array Value}
theorem pool_but {h h' : Heap} (hp : Pool h pool xs) (k : ∀ b o, b ≠ it → h.get? b = some o → h'.get? b = some o) (ne : pool ≠ it) : Pool h' pool xs := by
  obtain ⟨o, n, ho, hd⟩ := hp
  exact ⟨o, n, k _ _ ne ho, hd⟩
theorem wp_nums {Q : List Nat → Shared → Prop} (hit : s.heap.get? it = some (combO pool st res ix)) (h : Q ix s) : wpAny (model prog w) A (itNumbersFrom (.ref it) 3) Q E s := by
  unfold itNumbersFrom
  refine wpAny_bind (wpAny_load hit ?_)
  have e := congrArg (fun l => Q l s) (fnums (pool := pool) (st := st) (res := res) (ix := ix))
  exact wpAny_pure (e.mpr h)
theorem wp_setnums {Q : Unit → Shared → Prop} (hit : s.heap.get? it = some (combO pool st res ix)) (hn : jx.length ≤ 1000)
    (h : ∀ h', h'.get? it = some (combO pool st res jx) → (∀ b o, b ≠ it → s.heap.get? b = some o → h'.get? b = some o) → h'.objs.size = s.heap.objs.size → Q () { s with heap := h' }) : wpAny (model prog w) A (itSetNumbersFrom (.ref it) 3 jx) Q E s := by
  unfold itSetNumbersFrom
  refine wpAny_updateFields hit rfl (h _ (upd_f _ hit (by simp [Obj.mapFields, fext])) (fun b o nb e => ?_) (by rw [Heap.size_update])) ?_
  · rw [Heap.get?_update_ne _ _ _ _ nb]
    exact e
  · rw [fext, fsz, sizeLine_eq]
    omega
theorem wp_setst {Q : Unit → Shared → Prop} (v : Int) (hit : s.heap.get? it = some (combO pool st res ix))
    (h : ∀ h', h'.get? it = some (combO pool v res ix) → (∀ b o, b ≠ it → s.heap.get? b = some o → h'.get? b = some o) → h'.objs.size = s.heap.objs.size → Q () { s with heap := h' }) : wpAny (model prog w) A (setField (.ref it) 1 (rawInt v)) Q E s := by
  refine wpAny_setField hit rfl (by rw [fsz]; omega) (h _ (upd_f _ hit (by simp [Obj.mapFields, fset1])) (fun b o nb e => ?_) (by rw [Heap.size_update]))
  rw [Heap.get?_update_ne _ _ _ _ nb]
  exact e
/-- the next item -/
theorem comb_item {n : Nat} {Q : Option Value → Shared → Prop} (hit : s.heap.get? it = some (combO pool st res ix)) (hp : Pool s.heap pool xs) (ne : pool ≠ it) (hn : xs.size = n) (ah : Ahead n st ix (some jx)) (hj : jx.length ≤ 1000)
    (h : ∀ h', h'.get? s.heap.objs.size = some { cls := .type "tuple", data := .seq (jx.map fun i => xs.getD i .none).toArray } → h'.get? it = some (combO pool 1 (.ref s.heap.objs.size) jx) →
      (∀ b o, b ≠ it → s.heap.get? b = some o → h'.get? b = some o) → h'.objs.size = s.heap.objs.size + 1 → Q (some (.ref s.heap.objs.size)) { s with heap := h' }) : wpAny (model prog w) A (pyNext (.ref it)) Q E s := by
  have hT : s.TypeIs (.ref it) TC := ⟨_, hit, rfl⟩
  unfold pyNext
  refine wpAny_bind (wpAny_attempt (wpAny_callSpecial?_slot (name := Str.ofString "__next__") hT slotNx_c (wpAny_call_entry slotNx_c hT entryNx_c ?_ (argsNx_c _))))
  rw [next_eq]
  unfold slotArgs
  refine wpAny_bind (wpAny_pure ?_)
  refine wpAny_bind (wpAny_field hit rfl f0 ?_)
  refine wpAny_bind (wp_nums hit ?_)
  unfold itIntField
  refine wpAny_bind (wpAny_bind (wpAny_field hit rfl f1 (wpAny_pure ?_)))
  rcases ah with ⟨rfl, e⟩ | ⟨rfl, e⟩ | ⟨_, e⟩
  · obtain rfl : jx = ix := Option.some.inj e
    show wpAny _ _ (do setField (.ref it) 1 (rawInt 1); outC (.ref it) (.ref pool) jx) _ _ s
    refine wpAny_bind (wp_setst 1 hit fun h1 g1 k1 z1 => ?_)
    refine out_item (s := { s with heap := h1 }) g1 (pool_but hp k1 ne) hj fun h' a b c d => ⟨_, rfl, wpAny_pure ?_⟩
    dsimp only at a b c d
    rw [z1] at a b d ⊢
    exact h h' a b (fun b o nb e => c b o nb (k1 b o nb e)) d
  · obtain ⟨o, m, ho, hd⟩ := id hp
    show wpAny _ _ (do
      match nextC (← itPoolItems (.ref pool)).size ix with
      | some next => itSetNumbersFrom (.ref it) 3 next; outC (.ref it) (.ref pool) next
      | none => setField (.ref it) 1 (rawInt 2); itStop) _ _ s
    unfold itPoolItems
    refine wpAny_bind (wpAny_bind (wpAny_seqItems ho hd (wpAny_pure ?_)))
    rw [hn, ← e]
    dsimp only
    refine wpAny_bind (wp_setnums hit hj fun h1 g1 k1 z1 => ?_)
    refine out_item (s := { s with heap := h1 }) g1 (pool_but hp k1 ne) hj fun h' a b c d => ⟨_, rfl, wpAny_pure ?_⟩
    dsimp only at a b c d
    rw [z1] at a b d ⊢
    exact h h' a b (fun b o nb e => c b o nb (k1 b o nb e)) d
  · cases e
theorem wp_stop {Q : Option Value → Shared → Prop} {α : Type} {Q2 : α → Shared → Prop} (hh : A.handled = none) (h : ∀ h' e, (∃ o, h'.get? e = some o ∧ o.cls = .type "StopIteration") → (∀ b o, s.heap.get? b = some o → h'.get? b = some o) → E (.ref e) { s with heap := h' }) :
    wpAny (model prog w) A (itStop : Sem α) Q2 E s := by
  unfold itStop
  refine wpAny_bind ?_
  simp only [newExc, newTuple]
  refine wpAny_bind (wpAny_newObj_type ?_ (by size_fits))
  refine wpAny_bind (m := firstArgMember _ _) (wpAny_of_eq (a := Value.none) (by first | rfl | (simp only [firstArgMember]; rfl)) ?_)
  refine wpAny_newObj_type ?_ (by size_fits)
  simp only [raiseNew]
  refine wpAny_bind (wpAny_handled ?_)
  rw [hh]
  refine wpAny_bind (wpAny_pure (wpAny_throw ?_))
  exact h _ _ ⟨_, Heap.get?_push_size _ rfl, rfl⟩ fun b o e => Heap.get?_push_of_some _ (Heap.get?_push_of_some _ e)
/-- the end -/
theorem comb_end {n : Nat} {Q : Option Value → Shared → Prop} (hh : A.handled = none) (hit : s.heap.get? it = some (combO pool st res ix)) (hp : Pool s.heap pool xs) (hn : xs.size = n) (ah : Ahead n st ix none)
    (h : ∀ h', (∀ b o, b ≠ it → s.heap.get? b = some o → h'.get? b = some o) → Q none { s with heap := h' }) : wpAny (model prog w) A (pyNext (.ref it)) Q E s := by
  have hT : s.TypeIs (.ref it) TC := ⟨_, hit, rfl⟩
  unfold pyNext
  refine wpAny_bind (wpAny_attempt (wpAny_callSpecial?_slot (name := Str.ofString "__next__") hT slotNx_c (wpAny_call_entry slotNx_c hT entryNx_c ?_ (argsNx_c _))))
  rw [next_eq]
  unfold slotArgs
  refine wpAny_bind (wpAny_pure ?_)
  refine wpAny_bind (wpAny_field hit rfl f0 ?_)
  refine wpAny_bind (wp_nums hit ?_)
  unfold itIntField
  refine wpAny_bind (wpAny_bind (wpAny_field hit rfl f1 (wpAny_pure ?_)))
  have fin : ∀ (h' : Heap) (e : Addr), (∃ o, h'.get? e = some o ∧ o.cls = .type "StopIteration") → (∀ b o, b ≠ it → s.heap.get? b = some o → h'.get? b = some o) →
      wpAny (model prog w) A (do if ← isInstance (.ref e) (.type "StopIteration") then pure none else throw (.ref e)) Q E { s with heap := h' } := fun h' e ⟨o, ho, hc⟩ k => by
    refine wpAny_bind (wpAny_isInstance (T := "StopIteration") (b := true) ⟨o, ho, hc⟩ isSubtype_stop ?_)
    exact wpAny_pure (h h' k)
  rcases ah with ⟨rfl, e⟩ | ⟨rfl, e⟩ | ⟨rfl, e⟩
  · cases e
  · obtain ⟨o, m, ho, hd⟩ := id hp
    show wpAny _ _ (do
      match nextC (← itPoolItems (.ref pool)).size ix with
      | some next => itSetNumbersFrom (.ref it) 3 next; outC (.ref it) (.ref pool) next
      | none => setField (.ref it) 1 (rawInt 2); itStop) _ _ s
    unfold itPoolItems
    refine wpAny_bind (wpAny_bind (wpAny_seqItems ho hd (wpAny_pure ?_)))
    rw [hn, ← e]
    dsimp only
    refine wpAny_bind (wp_setst 2 hit fun h1 g1 k1 z1 => ?_)
    refine wp_stop (Q := Q) (s := { s with heap := h1 }) (by first | exact hh | simp [hh]) fun h' x hx k => ?_
    exact fin h' x hx fun b o nb e => k b o (k1 b o nb e)
  · show wpAny _ _ (do rule "itertools.combinations.ended"; itStop) _ _ s
    refine wpAny_bind (wpAny_rule ?_)
    refine wp_stop (Q := Q) (by first | exact hh | simp [hh]) fun h' x hx k => ?_
    exact fin h' x hx fun b o nb e => k b o e
theorem comb_self {Q : Value → Shared → Prop} (hit : s.heap.get? it = some (combO pool st res ix)) (h : Q (.ref it) s) : wpAny (model prog w) A (pyIter (.ref it)) Q E s := by
  have hT : s.TypeIs (.ref it) TC := ⟨_, hit, rfl⟩
  refine wpAny_pyIter_slot hT slotIt_c (wpAny_call_entry slotIt_c hT entryIt_c ?_ (argsIt_c _))
  show wpAny _ _ (ret (.ref it)) _ _ s
  exact wpAny_pure ⟨_, rfl, TC, _, hT, slotNx_c.lookup, h⟩
end
end Kc
end
section
set_option maxRecDepth 100000
set_option maxHeartbeats 4000000
namespace Kc
open PySem PySem.Spec PyProof.Rows PySem.Builtin PySem.Builtin.Itertools
def poolC (short : String) (args : Args) : Sem (Value × Value × Nat × Nat) := do
  let (cls, rest) ← itClassAndRest short args
  let [some iterable, some rV] ← itBindNamed short ["iterable", "r"] 2 2 rest args.kw | unsupported "internal:itertools.combinations.__new__"
  let r ← itSsizeArg rV
  let items ← collect iterable
  if r < 0 then rule "itertools.combinations.negative-r"; raiseError "ValueError" "r must be non-negative"
  if itTooMany r then unsupported s!"itertools.{short}.__new__:memory"
  return (cls, ← newTuple items, items.length, r.toNat)
theorem new_eq (args : Args) : Builtin.«itertools.combinations.__new__» args = (do
    let (cls, pool, n, r) ← poolC "combinations" args
    ret (← itNewRecord cls ([pool, rawInt (if r > n then 2 else 0), .none] ++ (List.range r).map fun (i : Nat) => rawInt i))) := rfl
theorem bind_c (a b : Value) : itBindNamed "combinations" ["iterable", "r"] 2 2 [a, b] [] = pure [some a, some b] := by rfl
theorem ix_c (r : Int) (t : Tok) : asIndex (.int r t) = pure r := by first | rfl | kernel_rfl
section
variable {prog : Program} {w : World} {A : Around} {E : Value → Shared → Prop} {s : Shared}
theorem wp_new {l : Addr} {vs : List Value} {r : Nat} {t : Tok} {Q : PySem.Fin → Shared → Prop} (hl : s.heap.IsList l vs.toArray) (hv : vs.length ≤ 1000) (hr : r ≤ 100)
    (h : ∀ h', h'.get? (s.heap.objs.size + 2) = some (combO (s.heap.objs.size + 1) (if r > vs.length then 2 else 0) .none (List.range r)) → h'.get? (s.heap.objs.size + 1) = some { cls := .type "tuple", data := .seq vs.toArray } →
      (∀ b o, s.heap.get? b = some o → h'.get? b = some o) → Q (.done (.ret (.ref (s.heap.objs.size + 2)))) { s with heap := h' }) :
    wpAny (model prog w) A (Builtin.«itertools.combinations.__new__» ⟨[.type TC, .ref l, .int r t], []⟩) Q E s := by
  rw [new_eq]
  unfold poolC
  refine wpAny_bind (wpAny_bind ?_)
  unfold itClassAndRest
  dsimp only
  refine wpAny_bind (wpAny_of_eq isType_c ?_)
  simp only [Bool.not_true, Bool.false_eq_true, if_false]
  refine wpAny_bind (wpAny_of_eq sub_c ?_)
  simp only [Bool.not_true, Bool.false_eq_true, if_false]
  refine wpAny_pure ?_
  dsimp only
  rw [bind_c]
  refine wpAny_bind (wpAny_pure ?_)
  dsimp only
  unfold itSsizeArg
  rw [ix_c]
  refine wpAny_bind (wpAny_bind (wpAny_pure ?_))
  have c1 : (decide ((r : Int) < -(2 ^ 63 : Int)) || decide ((r : Int) ≥ 2 ^ 63)) = false := by
    rw [Bool.or_eq_false_iff]
    exact ⟨decide_eq_false (by omega), decide_eq_false (by omega)⟩
  rw [c1]
  simp only [Bool.false_eq_true, if_false]
  refine wpAny_pure ?_
  refine wpAny_bind (collect_list hl ?_ (by rw [sizeLine_eq]; omega))
  refine wpAny_ite_split (fun z => absurd z (by omega)) (fun _ => ?_)
  try refine wpAny_bind (wpAny_pure ?_)
  have c2 : itTooMany (r : Int) = false := decide_eq_false (by omega)
  refine wpAny_ite_split (fun z => absurd z (by rw [c2]; decide)) (fun _ => ?_)
  try refine wpAny_bind (wpAny_pure ?_)
  have hsz : ((s.heap.push (seqObj "list" #[] 0)).update s.heap.objs.size (Obj.mapSeq (· ++ vs.toArray))).objs.size = s.heap.objs.size + 1 := by
    rw [Heap.size_update, size_push']
  refine wpAny_bind (wpAny_newTuple ?_ (by rw [sizeLine_eq]; omega))
  refine wpAny_pure ?_
  dsimp only
  generalize hT : ((s.heap.push (seqObj "list" #[] 0)).update s.heap.objs.size (Obj.mapSeq (· ++ vs.toArray))).push { cls := .type "tuple", data := .seq vs.toArray } = h1
  have z1 : h1.objs.size = s.heap.objs.size + 2 := by rw [← hT, size_push', hsz]
  have g1 : h1.get? (s.heap.objs.size + 1) = some { cls := .type "tuple", data := .seq vs.toArray } := by
    rw [← hT, ← hsz]
    exact Heap.get?_push_size _ rfl
  have k1 : ∀ b o, s.heap.get? b = some o → h1.get? b = some o := fun b o e => by
    have lt : b < s.heap.objs.size := Heap.lt_size e
    rw [← hT]
    refine Heap.get?_push_of_some _ ?_
    rw [Heap.get?_update_ne _ _ _ _ (Nat.ne_of_lt lt)]
    exact Heap.get?_push_of_some _ e
  unfold itNewRecord
  rw [noDict_c]
  simp only [Bool.not_false, if_true]
  rw [hsz]
  refine wpAny_bind ?_
  refine wpAny_newObj_type ?_ ?_
  · refine wpAny_pure ?_
    rw [z1]
    refine h _ ?_ (Heap.get?_push_of_some _ g1) fun b o e => Heap.get?_push_of_some _ (k1 b o e)
    rw [← z1]
    exact Heap.get?_push_size _ rfl
  · show (flds _ _ _ _).size ≤ _
    rw [fsz, List.length_range, sizeLine_eq]
    omega
def specC (l : Addr) (vs : List Value) (r : Nat) : PySem.Spec := fun _ R s => s.heap.IsList l vs.toArray ∧ vs.length ≤ 1000 ∧ r ≤ 100 ∧
  ∀ h' : Heap, h'.get? (s.heap.objs.size + 2) = some (combO (s.heap.objs.size + 1) (if r > vs.length then 2 else 0) .none (List.range r)) → h'.get? (s.heap.objs.size + 1) = some { cls := .type "tuple", data := .seq vs.toArray } →
    (∀ b o, s.heap.get? b = some o → h'.get? b = some o) → R (.ok (.ret (.ref (s.heap.objs.size + 2)))) { s with heap := h' }
theorem meets_c (l : Addr) (vs : List Value) (r : Nat) (t : Tok) : Meets (Builtin.«itertools.combinations.__new__» ⟨[.type TC, .ref l, .int r t], []⟩) (specC l vs r) :=
  .of_wp fun prog w A R s h => by
    obtain ⟨hl, hv, hr, q⟩ := h
    exact wp_new hl hv hr fun h' a b c => ⟨_, rfl, q h' a b c⟩
/-- combinations(xs, r) -/
theorem call_comb {l : Addr} {vs : List Value} {r : Nat} {t : Tok} {Q : Value → Shared → Prop} (hl : s.heap.IsList l vs.toArray) (hv : vs.length ≤ 1000) (hr : r ≤ 100)
    (h : ∀ h', h'.get? (s.heap.objs.size + 2) = some (combO (s.heap.objs.size + 1) (if r > vs.length then 2 else 0) .none (List.range r)) → h'.get? (s.heap.objs.size + 1) = some { cls := .type "tuple", data := .seq vs.toArray } →
      (∀ b o, s.heap.get? b = some o → h'.get? b = some o) → Q (.ref (s.heap.objs.size + 2)) { s with heap := h' }) : wpAny (model prog w) A (call (.type TC) [.ref l, .int r t]) Q E s := by
  refine callType_new called_c (by decide +kernel) (typeCall_c _ _) (newCall_c _ _) (fun obj => F.args_object_init_3 obj _ _) entryN_c (meets_c l vs r t) ?_
  exact ⟨hl, hv, hr, fun h' a b c => ⟨⟨_, a, rfl⟩, h h' a b c⟩⟩
end
end Kc
end
section
set_option maxRecDepth 100000
set_option maxHeartbeats 4000000
namespace Kc
open PySem PySem.Spec PyProof.Rows L2
/-! ### the places, in their order -/
def ixs2 (n : Nat) : List (List Nat) := (List.range n).flatMap fun i => ((List.range n).filter fun j => decide (i < j)).map fun j => [i, j]
def ixs3 (n : Nat) : List (List Nat) := (List.range n).flatMap fun i => ((List.range n).filter fun j => decide (i < j)).flatMap fun j => ((List.range n).filter fun k => decide (j < k)).map fun k => [i, j, k]
def ixsR (r n : Nat) : List (List Nat) := if r = 2 then ixs2 n else ixs3 n
/-- a list of places that the iterator goes through -/
structure Goes (n r : Nat) (L : List (List Nat)) : Prop where
  start : L[0]? = if r > n then none else some (List.range r)
  next : ∀ t a, L[t]? = some a → nextC n a = L[t + 1]?
  len : ∀ a ∈ L, a.length = r ∧ ∀ i ∈ a, i < n
def okGo (n r : Nat) (L : List (List Nat)) : Bool := (L[0]? == if r > n then none else some (List.range r)) && ((List.range L.length).all fun t => match L[t]? with
  | some a => (nextC n a == L[t + 1]?) && (a.length == r) && a.all fun i => decide (i < n)
  | none => true)
theorem goes_of {n r : Nat} {L : List (List Nat)} (h : okGo n r L = true) : Goes n r L := by
  unfold okGo at h
  rw [Bool.and_eq_true] at h
  obtain ⟨h1, h2⟩ := h
  have all : ∀ t a, L[t]? = some a → (nextC n a = L[t + 1]? ∧ a.length = r) ∧ ∀ i ∈ a, i < n := fun t a e => by
    have lt : t < L.length := (List.getElem?_eq_some_iff.mp e).1
    have q := List.all_eq_true.mp h2 t (List.mem_range.mpr lt)
    rw [e] at q
    simpa using q
  refine ⟨by simpa using h1, fun t a e => (all t a e).1.1, fun a ha => ?_⟩
  obtain ⟨t, ht, e⟩ := List.getElem_of_mem ha
  have q := all t a (by rw [List.getElem?_eq_getElem ht, e])
  exact ⟨q.1.2, q.2⟩
theorem all_go : ((List.range 13).all fun n => okGo n 2 (ixs2 n) && okGo n 3 (ixs3 n)) = true := by decide +kernel
theorem goes2 {n : Nat} (h : n ≤ 12) : Goes n 2 (ixs2 n) := by
  have q := List.all_eq_true.mp all_go n (List.mem_range.mpr (by omega))
  rw [Bool.and_eq_true] at q
  exact goes_of q.1
theorem goes3 {n : Nat} (h : n ≤ 12) : Goes n 3 (ixs3 n) := by
  have q := List.all_eq_true.mp all_go n (List.mem_range.mpr (by omega))
  rw [Bool.and_eq_true] at q
  exact goes_of q.2
/-! ### as a walk of the layer -/
/-- the values at some places -/
def atIx (xs : List V) (ix : List Nat) : List V := ix.map fun i => xs.getD i .non
/-- a new tuple a turn -/
def Itx (xs : List V) (L : List (List Nat)) : It :=
  ⟨fun t _ => t < L.length, fun t H v H' => ∃ T ix, v = .ref T ∧ H T = none ∧ L[t]? = some ix ∧ H' = upd H T (.tup (atIx xs ix)), fun t _ => L.length ≤ t⟩
theorem walk_comb {xs : List V} {L : List (List Nat)} : Walk (Itx xs L) L.length (fun _ => True) (fun t H v H' => ∃ T ix, v = .ref T ∧ H T = none ∧ L[t]? = some ix ∧ H' = upd H T (.tup (atIx xs ix))) :=
  ⟨fun _ _ hi _ => hi, fun _ _ => Nat.le_refl _, fun _ _ _ _ _ _ y => y⟩
def Stands (it pool : Addr) (its : List Value) (n : Nat) (L : List (List Nat)) (t : Nat) (h : Heap) : Prop :=
  (∃ st res ix, h.get? it = some (combO pool st res ix) ∧ Ahead n st ix (L[t]?)) ∧ h.get? pool = some { cls := .type "tuple", data := .seq its.toArray }
theorem vals_atIx {xs : List V} {its : List Value} (r : Vals xs its) : ∀ {ix : List Nat}, (∀ i ∈ ix, i < xs.length) → Vals (atIx xs ix) (ix.map fun i => its.toArray.getD i .none)
  | [], _ => .nil
  | i :: ix, h => by
    have lt := h i List.mem_cons_self
    obtain ⟨u, hu, ru⟩ := r.get (i := i) (x := xs[i]) (List.getElem?_eq_getElem lt)
    have e1 : xs.getD i .non = xs[i] := by simp [lt]
    have e2 : its.toArray.getD i .none = u := by
      rw [Array.getD_eq_getD_getElem?]
      have e3 : its.toArray[i]? = some u := by simpa using hu
      rw [e3]
      rfl
    refine .cons ?_ (vals_atIx r fun j hj => h j (List.mem_cons_of_mem _ hj))
    show RelV (xs.getD i .non) (its.toArray.getD i .none)
    rw [e1, e2]
    exact ru
theorem turn_comb {P : Program} {w : World} {K : PySem.W.Frag} {tg : Expr} {it pool : Addr} {xs : List V} {its : List Value} {r : Nat} {L : List (List Nat)} (rv : Vals xs its) (ne : pool ≠ it) (G : Goes xs.length r L) (hr : r ≤ 100) :
    Turn P w K tg (Itx xs L) [it, pool] it (Stands it pool its xs.length L) where
  mem := by simp
  obj := fun t h st c hc => by
    obtain ⟨⟨s, res, ix, hi, _⟩, hp⟩ := st
    have e' : c = it ∨ c = pool := by simpa using hc
    rcases e' with q | q
    · rw [q]
      exact ⟨_, hi, fun v z => nomatch z⟩
    · rw [q]
      exact ⟨_, hp, fun v z => nomatch z⟩
  keep := fun t h h' st k => by
    obtain ⟨⟨s, res, ix, hi, a⟩, hp⟩ := st
    exact ⟨⟨s, res, ix, k it (by simp) _ hi, a⟩, k pool (by simp) _ hp⟩
  item := by
    intro X hP hw hK hc t pins s σ H E I hf st hg
    subst hP hw hK
    obtain ⟨⟨st0, res, ix, hi, a⟩, hp⟩ := st
    have lt : t < L.length := hg
    have ej : L[t]? = some L[t] := List.getElem?_eq_getElem lt
    rw [ej] at a
    obtain ⟨len, bd⟩ := G.len _ (List.getElem_mem lt)
    generalize L[t] = jx at ej a len bd
    have hz : its.toArray.size = xs.length := by rw [List.size_toArray, ← rv.length]
    refine comb_item hi ⟨_, _, hp, rfl⟩ ne hz a (by omega) fun h' g1 g2 k z => ⟨_, rfl, ?_⟩
    refine go_of (s := { s with heap := h' }) g2 rfl rfl (by decide) ?_
    have new : ObjOk X.prog X.w (upd H s.heap.objs.size (.tup (atIx xs jx))) h' s.heap.objs.size (.tup (atIx xs jx)) := by
      refine ⟨?_, _, vals_atIx rv bd, ⟨_, g1, rfl, _, rfl⟩⟩
      show (atIx xs jx).length ≤ sizeLine
      unfold atIx
      rw [List.length_map, sizeLine_eq]
      omega
    have I1 : Inv X pins σ (upd H s.heap.objs.size (.tup (atIx xs jx))) { s with heap := h' } :=
      I.turnedNew (t' := s.toks) (ch := [it, pool]) (fun c o hb q => k c o (fun q' => hb (by simp [q'])) q) hf (Nat.le_refl _) new
    refine ⟨.ref s.heap.objs.size, _, I1, rfl, ⟨_, jx, rfl, I.hok.fresh (Nat.le_refl _), ej, rfl⟩, ⟨⟨1, _, jx, g2, .inr (.inl ⟨rfl, ?_⟩)⟩, k _ _ ne hp⟩, fun c hcm => ?_⟩
    · exact (G.next t jx ej).symm
    · have hcn := (hf c hcm).1
      have : c ≠ s.heap.objs.size := fun q => by
        have e' : c = it ∨ c = pool := by simpa using hcm
        rcases e' with y | y
        · rw [← y, q] at hi
          exact absurd (Heap.lt_size hi) (Nat.lt_irrefl _)
        · rw [← y, q] at hp
          exact absurd (Heap.lt_size hp) (Nat.lt_irrefl _)
      rw [upd_ne this]
      exact hcn
  done := by
    intro X hP hw hK hc t pins s σ H E I hf st hg
    subst hP hw hK
    obtain ⟨⟨st0, res, ix, hi, a⟩, hp⟩ := st
    have ge : L.length ≤ t := hg
    rw [List.getElem?_eq_none ge] at a
    have hz : its.toArray.size = xs.length := by rw [List.size_toArray, ← rv.length]
    refine comb_end (I.ok.hd hc) hi ⟨_, _, hp, rfl⟩ hz a fun h' k => ⟨rfl, ?_⟩
    obtain ⟨f0, f1, f2, f3, f4, f5⟩ := hf it (by simp)
    exact I.turned (t' := s.toks) k f0 f1 f3 f4 f5
  self := fun A t s Q E st h => by
    obtain ⟨⟨s0, res, ix, hi, _⟩, _⟩ := st
    exact comb_self hi h
end Kc
end
section
set_option maxRecDepth 100000
set_option maxHeartbeats 4000000
namespace Kc
open PySem PySem.Spec PyProof.Rows L2
/-- the tuples told so far -/
def Told (xs : List V) (L : List (List Nat)) (H0 H : Hp) (Ts : List Addr) : Prop := (∀ T ∈ Ts, H0 T = none) ∧ Ts.Nodup ∧ ∀ (j : Nat) T, Ts[j]? = some T → ∃ ix, L[j]? = some ix ∧ H T = some (.tup (atIx xs ix))
section
variable {X : Cx} {pins : List (Addr × Obj)} {σ : L2.St} {A1 : Around}
theorem comb_loop {it pool q : Addr} {xs : List V} {its : List Value} {r : Nat} {L : List (List Nat)} {H0 : Hp} {Rs : Result → Shared → Prop} (hh : A1.handled = none) (rv : Vals xs its) (ne : pool ≠ it) (nq : q ≠ it) (np : q ≠ pool) (G : Goes xs.length r L) (hr : r ≤ 100) (hL : L.length ≤ 4000) (n0 : H0 q = none)
    (done : ∀ Ts H s, Inv X pins σ H s → H q = some (.lst (Ts.map V.ref)) → Ts.length = L.length → Told xs L H0 H Ts → (∀ b o, H0 b = some o → H b = some o) → Rs (.ok (.ret .none)) s) :
    ∀ (m t : Nat) (Ts : List Addr) (H : Hp) (s : Shared), L.length - t = m → t ≤ L.length → Ts.length = t → Inv X pins σ H s → H q = some (.lst (Ts.map V.ref)) → Told xs L H0 H Ts → (∀ b o, H0 b = some o → H b = some o) →
      (∀ b ∈ [it, pool], FpOk X pins H b) → Stands it pool its xs.length L t s.heap → codeAny (model X.prog X.w) A1 (.builtin "list.extend.loop" ⟨[.ref q, .ref it, .none], []⟩) Rs s := by
  intro m
  induction m with
  | zero =>
    intro t Ts H s em ht el I hq td kp hf st
    obtain ⟨⟨st0, res, ix, hi, a⟩, hp⟩ := st
    rw [List.getElem?_eq_none (by omega)] at a
    have hz : its.toArray.size = xs.length := by rw [List.size_toArray, ← rv.length]
    refine codeAny_builtin PySem.F.entry_extend_loop ?_
    rw [Around.under_plainId PySem.F.plain_extend_loop _]
    show wpAny _ A1.in1 (pyNext (.ref it) >>= _) _ _ s
    refine wpAny_bind (comb_end (by simp [hh]) hi ⟨_, _, hp, rfl⟩ hz a fun h' k => ?_)
    obtain ⟨f0, f1, f2, f3, f4, f5⟩ := hf it (by simp)
    exact wpAny_pure (done Ts H _ (I.turned (t' := s.toks) k f0 f1 f3 f4 f5) hq (by omega) td kp)
  | succ m ih =>
    intro t Ts H s em ht el I hq td kp hf st
    obtain ⟨⟨st0, res, ix, hi, a⟩, hp⟩ := st
    have lt : t < L.length := by omega
    have ej : L[t]? = some L[t] := List.getElem?_eq_getElem lt
    rw [ej] at a
    obtain ⟨len, bd⟩ := G.len _ (List.getElem_mem lt)
    generalize L[t] = jx at ej a len bd
    have hz : its.toArray.size = xs.length := by rw [List.size_toArray, ← rv.length]
    refine codeAny_builtin PySem.F.entry_extend_loop ?_
    rw [Around.under_plainId PySem.F.plain_extend_loop _]
    show wpAny _ A1.in1 (pyNext (.ref it) >>= _) _ _ s
    refine wpAny_bind (comb_item hi ⟨_, _, hp, rfl⟩ ne hz a (by omega) fun h' g1 g2 k z => ?_)
    have itl : it < s.heap.objs.size := Heap.lt_size hi
    have pol : pool < s.heap.objs.size := Heap.lt_size hp
    have new : ObjOk X.prog X.w (upd H s.heap.objs.size (.tup (atIx xs jx))) h' s.heap.objs.size (.tup (atIx xs jx)) := by
      refine ⟨?_, _, vals_atIx rv bd, ⟨_, g1, rfl, _, rfl⟩⟩
      show (atIx xs jx).length ≤ sizeLine
      unfold atIx
      rw [List.length_map, sizeLine_eq]
      omega
    have fr : H s.heap.objs.size = none := I.hok.fresh (Nat.le_refl _)
    have I1 : Inv X pins σ (upd H s.heap.objs.size (.tup (atIx xs jx))) { s with heap := h' } :=
      I.turnedNew (t' := s.toks) (ch := [it, pool]) (fun c o hb q => k c o (fun q' => hb (by simp [q'])) q) hf (Nat.le_refl _) new
    have qn : q ≠ s.heap.objs.size := ne_of_none hq fr
    have hq1 : upd H s.heap.objs.size (.tup (atIx xs jx)) q = some (.lst (Ts.map V.ref)) := by rw [upd_ne qn]; exact hq
    show wpAny _ A1.in1 (updateSeq q (·.push (.ref s.heap.objs.size)) >>= _) _ _ _
    obtain ⟨zz, its1, kk, r2, hl, e⟩ := I1.lstM hq1
    have lts : its1.length = Ts.length := by rw [← r2.length, List.length_map]
    refine wpAny_bind (wpAny_updateSeq e rfl (wpAny_pure ⟨plainId_quiet PySem.F.plain_extend_loop _, ?_⟩) (by rw [List.size_toArray, sizeLine_eq]; omega) (by show (its1.toArray.push _).size ≤ sizeLine + 1; rw [Array.size_push, List.size_toArray, sizeLine_eq]; omega))
    have I2 := I1.lset (f := (·.push (Value.ref s.heap.objs.size))) (its' := its1 ++ [Value.ref s.heap.objs.size]) (ys := (Ts ++ [s.heap.objs.size]).map V.ref) (t' := s.toks) hq1 e (by simp) (by
      rw [List.map_append]
      exact r2.append (.cons rfl .nil)) (by rw [List.length_map, List.length_append, List.length_singleton, sizeLine_eq]; omega)
    refine ih (t + 1) (Ts ++ [s.heap.objs.size]) _ _ (by omega) lt (by rw [List.length_append, List.length_singleton]; omega) I2 upd_same ?_ ?_ ?_ ?_
    · have n0' : H0 s.heap.objs.size = none := by
        cases e0 : H0 s.heap.objs.size with
        | none => rfl
        | some o =>
          rw [kp _ _ e0] at fr
          cases fr
      obtain ⟨t1, t2, t3⟩ := td
      have nin : s.heap.objs.size ∉ Ts := fun hm => by
        obtain ⟨j, hj, ej'⟩ := List.getElem_of_mem hm
        obtain ⟨_, _, h3⟩ := t3 j _ (by rw [List.getElem?_eq_getElem hj, ej'])
        rw [fr] at h3
        cases h3
      refine ⟨fun T hT => ?_, ?_, fun j T hT => ?_⟩
      · rcases List.mem_append.mp hT with hT | hT
        · exact t1 T hT
        · rw [List.mem_singleton.mp hT]
          exact n0'
      · rw [List.nodup_append]
        exact ⟨t2, by simp, fun x hx y hy => by
          rw [List.mem_singleton.mp hy]
          rintro rfl
          exact nin hx⟩
      · by_cases c : j < Ts.length
        · rw [List.getElem?_append_left c] at hT
          obtain ⟨ix', a1, a2⟩ := t3 j T hT
          have Tq : T ≠ q := fun z => by
            rw [z, hq] at a2
            cases a2
          exact ⟨ix', a1, by rw [upd_ne Tq, upd_ne (ne_of_none a2 fr)]; exact a2⟩
        · rw [List.getElem?_append_right (by omega)] at hT
          have ej' : j = t := by
            have := (List.getElem?_eq_some_iff.mp hT).1
            rw [List.length_singleton] at this
            omega
          subst ej'
          rw [show Ts.length = j by omega] at hT
          have eT : T = s.heap.objs.size := by simpa using hT.symm
          rw [eT]
          exact ⟨jx, ej, by rw [upd_ne (Ne.symm qn), upd_same]⟩
    · intro b o e0
      have bq : b ≠ q := fun z => by
        rw [z, n0] at e0
        cases e0
      rw [upd_ne bq, upd_ne (ne_of_none (kp b o e0) fr)]
      exact kp b o e0
    · intro b hb
      obtain ⟨f0, f1⟩ := hf b hb
      have b1 : b ≠ q := fun z => by
        have e' : b = it ∨ b = pool := by simpa using hb
        rcases e' with y | y
        · exact nq (z.symm.trans y)
        · exact np (z.symm.trans y)
      have b2 : b ≠ s.heap.objs.size := fun z => by
        have e' : b = it ∨ b = pool := by simpa using hb
        rcases e' with y | y
        · exact Nat.ne_of_lt itl (y.symm.trans z)
        · exact Nat.ne_of_lt pol (y.symm.trans z)
      exact ⟨by rw [upd_ne b1, upd_ne b2]; exact f0, f1⟩
    · refine ⟨⟨1, .ref s.heap.objs.size, jx, ?_, .inr (.inl ⟨rfl, (G.next t jx ej).symm⟩)⟩, ?_⟩
      · exact (Heap.get?_update_other _ _ nq).trans g2
      · exact (Heap.get?_update_other _ _ np).trans (k _ _ ne hp)
end
end Kc
end
section
set_option maxRecDepth 100000
set_option maxHeartbeats 4000000
namespace Kc
open PySem PySem.Spec PyProof.Rows L2
section
variable {X : Cx} {pins : List (Addr × Obj)} {σ : L2.St} {H : Hp} {s : Shared}
theorem hint_c {M : Model} {A : Around} {E : Value → Shared → Prop} {it : Addr} {Q : Bool → Shared → Prop} (hT : s.TypeIs (.ref it) TC) (h : Q true s) : wpAny M A (Builtin.List.listLengthHint (.ref it)) Q E s := by
  unfold Builtin.List.listLengthHint
  refine wpAny_bind (wpAny_specialOf hT noLen_c ?_)
  refine PySem.W.KFB.if_not rfl ?_
  refine PySem.W.KFB.if_not rfl ?_
  refine wpAny_bind (wpAny_specialOf hT noHint_c ?_)
  exact wpAny_pure h
theorem list_comb {it pool : Addr} {xs : List V} {its : List Value} {r : Nat} {L : List (List Nat)} {Q : VK} (hc : X.calm = true) (I : Inv X pins σ H s) (rv : Vals xs its) (ne : pool ≠ it) (G : Goes xs.length r L) (hr : r ≤ 100) (hL : L.length ≤ 4000)
    (hf : ∀ b ∈ [it, pool], FpOk X pins H b) (st : Stands it pool its xs.length L 0 s.heap)
    (done : ∀ (H2 : Hp) (D : Addr) (Ts : List Addr), Same H H2 → H D = none → H2 D = some (.lst (Ts.map V.ref)) → Told xs L H H2 Ts → Ts.length = L.length → Q (.ref D) H2) :
    wpAny (model X.prog X.w) X.A (call (.type "list") [.ref it]) (EP X pins σ Q) X.xe s := by
  refine callType_codes (Q₁ := fun r1 s1 => r1 = .ref s.heap.objs.size ∧ s1 = { s with heap := s.heap.push { cls := .type "list", data := .seq #[] } }) PySem.F.called_list (PySem.F.typeCall_list_1 _) PySem.F.entry_list_init
    (code_list_new _ ⟨rfl, rfl⟩) fun r1 s1 h1 => ?_
  obtain ⟨rfl, rfl⟩ := h1
  have hS : (s.heap.push { cls := .type "list", data := .seq #[] }).get? s.heap.objs.size = some { cls := .type "list", data := .seq #[] } := Heap.get?_push_size _ rfl
  refine ⟨⟨_, hS, rfl⟩, PySem.F.args_list_init_2 _ _, ?_⟩
  have fr : H s.heap.objs.size = none := I.hok.fresh (Nat.le_refl _)
  have I1 : Inv X pins σ (upd H s.heap.objs.size (.lst [])) { s with heap := s.heap.push { cls := .type "list", data := .seq #[] } } := I.lnew (its := []) (t' := s.toks) .nil (Nat.zero_le _)
  obtain ⟨⟨st0, res, ix, hi, a⟩, hp⟩ := st
  have itl : it < s.heap.objs.size := Heap.lt_size hi
  have pol : pool < s.heap.objs.size := Heap.lt_size hp
  have nq : s.heap.objs.size ≠ it := Nat.ne_of_gt itl
  have np : s.heap.objs.size ≠ pool := Nat.ne_of_gt pol
  show wpAny _ _ (do let old ← Builtin.List.listItems (.ref s.heap.objs.size); Builtin.List.listUpdate (.ref s.heap.objs.size) (fun _ => #[]); letGo old.toList.reverse; Builtin.List.listExtendWith (.ref s.heap.objs.size) (.ref it) .none) _ _ _
  refine wpAny_bind ?_
  unfold Builtin.List.listItems
  refine wpAny_bind (wpAny_seqItems hS rfl (wpAny_pure ?_))
  show wpAny _ _ (updateSeq s.heap.objs.size (fun _ => #[]) >>= fun _ => letGo (#[] : Array Value).toList.reverse >>= fun _ => Builtin.List.listExtendWith (.ref s.heap.objs.size) (.ref it) .none) _ _ _
  refine wpAny_bind (wpAny_updateSeq hS rfl ?_)
  have I2 := I1.lset (f := fun _ => #[]) (its := []) (its' := []) (ys := []) (t' := s.toks) upd_same hS rfl .nil (Nat.zero_le _)
  rw [upd_upd] at I2
  refine wpAny_bind (wpAny_letGo ?_)
  have g1 : ((s.heap.push { cls := .type "list", data := .seq #[] }).update s.heap.objs.size (Obj.mapSeq fun _ => (#[] : Array Value))).get? it = some (combO pool st0 res ix) := (Heap.get?_update_other _ _ nq).trans (Heap.get?_push_of_some _ hi)
  have g2 : ((s.heap.push { cls := .type "list", data := .seq #[] }).update s.heap.objs.size (Obj.mapSeq fun _ => (#[] : Array Value))).get? pool = some { cls := .type "tuple", data := .seq its.toArray } := (Heap.get?_update_other _ _ np).trans (Heap.get?_push_of_some _ hp)
  generalize (s.heap.push { cls := .type "list", data := .seq #[] }).update s.heap.objs.size (Obj.mapSeq fun _ => (#[] : Array Value)) = h2 at I2 g1 g2 ⊢
  have hT : Shared.TypeIs { s with heap := h2, toks := s.toks } (.ref it) TC := ⟨_, g1, rfl⟩
  unfold Builtin.List.listExtendWith
  refine wpAny_bind (wpAny_typeOf hT ?_)
  have h1 : Builtin.List.listSameRef (.ref s.heap.objs.size) (.ref it) = false := by simp [Builtin.List.listSameRef, nq]
  have h3 : (Value.type TC == Value.type "list") = false := by decide
  have h4 : (Value.type TC == Value.type "tuple") = false := by decide
  simp only [h1, h3, h4, Bool.or_false, Bool.false_eq_true, if_false]
  refine wpAny_bind (comb_self g1 ?_)
  refine wpAny_bind (wpAny_holding (hint_c hT ?_))
  have fp2 : ∀ b ∈ [it, pool], FpOk X pins (upd H s.heap.objs.size (.lst [])) b := fun b hb => by
    obtain ⟨f0, f1⟩ := hf b hb
    have b1 : b ≠ s.heap.objs.size := fun z => by
      have e' : b = it ∨ b = pool := by simpa using hb
      rcases e' with y | y
      · exact nq (z.symm.trans y)
      · exact np (z.symm.trans y)
    exact ⟨by rw [upd_ne b1]; exact f0, f1⟩
  have kp0 : ∀ b o, H b = some o → upd H s.heap.objs.size (.lst []) b = some o := fun b o e => by
    rw [upd_ne (ne_of_none e fr)]
    exact e
  have fin : ∀ {h3 : Heap}, Inv X pins σ (upd H s.heap.objs.size (.lst [])) { s with heap := h3, toks := s.toks } → Stands it pool its xs.length L 0 h3 →
      codeAny (model X.prog X.w) X.A.in1 (.builtin "list.extend.loop" ⟨[.ref s.heap.objs.size, .ref it, .none], []⟩) (wants (fun r s₂ => r = .none ∧ EP X pins σ Q (.ref s.heap.objs.size) s₂) X.xe) { s with heap := h3, toks := s.toks } := fun {h3} I3 st3 => by
    refine comb_loop (q := s.heap.objs.size) (H0 := H) (by simp [I.ok.hd hc]) rv ne nq np G hr hL fr (fun Ts H2 s2 J hq lt td kp => ?_) (L.length - 0) 0 [] _ _ rfl (Nat.zero_le _) rfl I3 upd_same ⟨(fun T hT => nomatch hT), List.nodup_nil, (fun j T hT => by simp at hT)⟩ kp0 fp2 st3
    exact ⟨rfl, .ref s.heap.objs.size, H2, J, rfl, done H2 _ Ts kp fr hq td lt⟩
  refine wpAny_ite_split (fun _ => ?_) (fun z => absurd rfl z)
  refine wpAny_bind (wpAny_rule ?_)
  refine wpAny_bind ?_
  show wpAny _ _ (updateSeq s.heap.objs.size (·.push .none) >>= fun _ => updateSeq s.heap.objs.size (·.pop)) _ _ _
  obtain ⟨z, its3, k, r3, hl3, e3⟩ := I2.lstM upd_same
  cases r3
  refine wpAny_bind (wpAny_updateSeq e3 rfl ?_)
  have I3 := I2.lset (f := (·.push Value.none)) (its' := [Value.none]) (ys := [.non]) (t' := s.toks) upd_same e3 (by simp) (.cons rfl .nil) (by rw [List.length_singleton, sizeLine_eq]; decide)
  obtain ⟨z4, its4, k4, r4, hl4, e4⟩ := I3.lstM upd_same
  obtain ⟨u4, rfl, ru4⟩ := r4.one
  refine wpAny_updateSeq e4 rfl ?_ (by show 1 ≤ sizeLine; rw [sizeLine_eq]; decide) (by show 0 ≤ sizeLine + 1; exact Nat.zero_le _)
  have I4 := I3.lset (f := (·.pop)) (its := [u4]) (its' := []) (ys := []) (t' := s.toks) upd_same e4 (by rfl) .nil (Nat.zero_le _)
  rw [upd_upd, upd_upd] at I4
  refine wpAny_pure ⟨plainId_quiet PySem.F.plain_extend_loop _, fin I4 ⟨⟨st0, res, ix, ?_, a⟩, ?_⟩⟩
  · exact (Heap.get?_update_other _ _ nq).trans ((Heap.get?_update_other _ _ nq).trans g1)
  · exact (Heap.get?_update_other _ _ np).trans ((Heap.get?_update_other _ _ np).trans g2)
end
end Kc
end
section
set_option maxRecDepth 100000
set_option maxHeartbeats 4000000
namespace Kc
open PySem PySem.Spec PyProof.Rows L2
theorem goesR {r n : Nat} (hr : r = 2 ∨ r = 3) (h : n ≤ 12) : Goes n r (ixsR r n) := by
  rcases hr with rfl | rfl
  · exact goes2 h
  · exact goes3 h
theorem all_len : ((List.range 13).all fun n => decide ((ixs2 n).length ≤ 4000) && decide ((ixs3 n).length ≤ 4000)) = true := by decide +kernel
theorem lenR {r n : Nat} (hr : r = 2 ∨ r = 3) (h : n ≤ 12) : (ixsR r n).length ≤ 4000 := by
  have q := List.all_eq_true.mp all_len n (List.mem_range.mpr (by omega))
  rw [Bool.and_eq_true] at q
  rcases hr with rfl | rfl
  · exact of_decide_eq_true q.1
  · exact of_decide_eq_true q.2
/-- what combinations(xs, r) asks -/
def rComb (K : PySem.W.Frag) (vs : List V) (H : Hp) (F : List V → Nat → Prop) : Prop := ∃ (a : Addr) (xs : List V) (r : Nat), vs = [.ref a, .int r] ∧ SqL K H a xs ∧ xs.length ≤ 12 ∧ (r = 2 ∨ r = 3) ∧ F xs r
def iComb (K : PySem.W.Frag) (ta : TA) : TI := fun σ H R => ta σ H fun vs H1 => rComb K vs H1 fun xs r => R (Itx xs (ixsR r xs.length)) H1
def tListComb (K : PySem.W.Frag) (ta : TA) : TE := fun σ H Q => ta σ H fun vs H1 => rComb K vs H1 fun xs r => ∀ (H2 : Hp) (D : Addr) (Ts : List Addr), Same H1 H2 → H1 D = none → H2 D = some (.lst (Ts.map V.ref)) →
  Told xs (ixsR r xs.length) H1 H2 Ts → Ts.length = (ixsR r xs.length).length → Q (.ref D) H2
section
variable {X : Cx} {pins : List (Addr × Obj)} {σ : L2.St} {H : Hp} {s : Shared}
/-- the iterator is made -/
theorem made_comb {vs : List V} {us : List Value} {F : List V → Nat → Prop} {Q : Value → Shared → Prop} (I : Inv X pins σ H s) (rv : Vals vs us) (h : rComb X.K vs H F)
    (q : ∀ (it pool : Addr) (xs : List V) (its : List Value) (r : Nat) (h' : Heap), F xs r → xs.length ≤ 12 → (r = 2 ∨ r = 3) → Vals xs its → pool ≠ it → Inv X pins σ H { s with heap := h' } → (∀ b ∈ [it, pool], FpOk X pins H b) → Stands it pool its xs.length (ixsR r xs.length) 0 h' → Q (.ref it) { s with heap := h' }) :
    wpAny (model X.prog X.w) X.A (call (.type TC) us) Q X.xe s := by
  obtain ⟨a, xs, r, rfl, hs, few, hr, f⟩ := h
  obtain ⟨u1, u2, rfl, r1, r2⟩ := vals2 rv
  obtain rfl : u1 = Value.ref a := r1
  obtain ⟨t, rfl⟩ := r2
  obtain ⟨its, rx, pl, _⟩ := I.list hs
  have len := rx.length
  refine call_comb pl.isList (by omega) (by rcases hr with e | e <;> omega) fun h' g1 g2 k => ?_
  have G := goesR (n := xs.length) hr few
  have I2 : Inv X pins σ H { s with heap := h' } := I.kept (t' := s.toks) k
  refine q _ _ xs its r h' f few hr rx (Nat.ne_of_lt (Nat.lt_succ_self _)) I2 (fun b hb => ?_) ⟨⟨_, _, _, g1, ?_⟩, g2⟩
  · have e' : b = s.heap.objs.size + 2 ∨ b = s.heap.objs.size + 1 := by simpa using hb
    have le : s.heap.objs.size ≤ b := by
      rcases e' with z | z
      · rw [z]
        exact Nat.le_add_right _ _
      · rw [z]
        exact Nat.le_add_right _ _
    exact I.fpOk le (I.hok.fresh le)
  · by_cases c : r > its.length
    · refine .inr (.inr ⟨by simp [c], ?_⟩)
      rw [G.start, if_pos (by omega)]
    · refine .inl ⟨by simp [c], ?_⟩
      rw [G.start, if_neg (by omega)]
/-- for .. in combinations(xs, r) -/
theorem pi_comb {tg e e2 : Expr} {ta : TA} {p pos : Pos} (hg : Gl X "combinations") (hm : X.mg "combinations" = some (.type TC)) (ha : PA X [e, e2] ta) (hs : starEach [e, e2] X.env = (false, eval e X.env) :: starEach [e2] X.env := by rfl)
    (hpl : (backTo pos (starEach [e2] X.env)).any (·.1) = false := by rfl) : PI X tg (.Call (.Name "combinations" p) [e, e2] [] pos) (iComb X.K ta) := by
  refine ⟨fun pins s σ H R I h => ?_⟩
  refine Call_ (ld_glob I hg hm (PyProof.Rows.callWith_type1 (thn (ha.run pos pins s σ H _ I h) fun us s1 ⟨vs, H1, I1, r1, q1⟩ => ?_) hs hpl))
  refine made_comb I1 r1 q1 fun it pool xs its r h' f few hr rx ne I2 hf st => ?_
  obtain ⟨⟨st0, res, ix, hi, a⟩, hp⟩ := id st
  exact comb_self hi ⟨it, [it, pool], _, _, H1, rfl, I2, turn_comb rx ne (goesR hr few) (by rcases hr with e | e <;> omega), st, hf, f⟩
/-- list(combinations(xs, r)) -/
theorem pe_listComb {e e2 : Expr} {ta : TA} {p p2 pos pos2 : Pos} (hc : X.calm = true) (hg : Gl X "list") (hm : X.mg "list" = none) (hg2 : Gl X "combinations") (hm2 : X.mg "combinations" = some (.type TC)) (ha : PA X [e, e2] ta)
    (hs : starEach [e, e2] X.env = (false, eval e X.env) :: starEach [e2] X.env := by rfl) (hpl : (backTo pos2 (starEach [e2] X.env)).any (·.1) = false := by rfl) :
    PE X (.Call (.Name "list" p) [.Call (.Name "combinations" p2) [e, e2] [] pos2] [] pos) (tListComb X.K ta) := by
  refine ⟨fun pins s σ H Q I h => ?_⟩
  refine Call_ (ld_blt I hg hm PyProof.Rows.boot_list ?_)
  refine PyProof.Rows.callWith_type1 (PyProof.Rows.args_cons ?_ rfl) rfl rfl
  refine Call_ (ld_glob I hg2 hm2 (PyProof.Rows.callWith_type1 (thn (ha.run pos2 pins s σ H _ I h) fun us s1 ⟨vs, H1, I1, r1, q1⟩ => ?_) hs hpl))
  refine made_comb I1 r1 q1 fun it pool xs its r h' f few hr rx ne I2 hf st => PyProof.Rows.args_nil ?_
  exact list_comb hc I2 rx ne (goesR hr few) (by rcases hr with e | e <;> omega) (lenR hr few) hf st fun H2 D Ts a b c d e => f H2 D Ts a b c d e
end
end Kc
end
section
set_option maxRecDepth 100000
set_option maxHeartbeats 4000000
namespace Wd
open PySem L2
section
variable {P : Program} {w : World} {K : PySem.W.Frag} {mg : Str → Option Value} {base : Heap}
/-- the built-in names that the text uses stand for themselves -/
structure Bt (mg : Str → Option Value) : Prop where
  sum : mg "sum" = none
  max : mg "max" = none
  min : mg "min" = none
  int : mg "int" = none
  range : mg "range" = none
  len : mg "len" = none
  sorted : mg "sorted" = none
  list : mg "list" = none
  dict : mg "dict" = none
  set : mg "set" = none
  all : mg "all" = none
  zip : mg "zip" = none
  isi : mg "isinstance" = none
  str : mg "str" = none
  tuple : mg "tuple" = none
  bool : mg "bool" = none
/-- all that was tracked stands, but at p -/
def SameX (p : Addr) (H H' : Hp) : Prop := ∀ b o, b ≠ p → H b = some o → H' b = some o
theorem SameX.refl (p : Addr) (H : Hp) : SameX p H H := fun _ _ _ h => h
theorem SameX.trans {p : Addr} {H H1 H2 : Hp} (a : SameX p H H1) (b : SameX p H1 H2) : SameX p H H2 := fun c o n h => b c o n (a c o n h)
theorem SameX.of {p : Addr} {H H' : Hp} (a : Same H H') : SameX p H H' := fun c o _ h => a c o h
theorem SameX.upd {p : Addr} {H : Hp} {o : HO} : SameX p H (upd H p o) := fun b u n h => by
  rw [upd_ne n]
  exact h
theorem SameX.new {p q : Addr} {H : Hp} {o : HO} (hq : H q = none) : SameX p H (L2.upd H q o) := fun b u _ h => by
  rw [upd_ne (ne_of_none h hq)]
  exact h
theorem same_new {q : Addr} {H : Hp} {o : HO} (hq : H q = none) : Same H (upd H q o) := fun b u h => by
  rw [upd_ne (ne_of_none h hq)]
  exact h
/-- a purse stands at p: c its second number, n draws are left -/
def PurseAt (H : Hp) (p : Addr) (c : Int) (n : Nat) : Prop := ∃ b t z : Int, H p = some (.lst [.int b, .int c, .int t, .int z]) ∧ 0 ≤ c ∧ c < 2147483629 ∧ 0 ≤ t ∧ t + (n : Int) ≤ 1000000 ∧ 0 ≤ z ∧ z ≤ 64
theorem PurseAt.same {H H' : Hp} {p : Addr} {c : Int} {n : Nat} (h : PurseAt H p c n) (s : Same H H') : PurseAt H' p c n := by
  obtain ⟨b, t, z, e, r⟩ := h
  exact ⟨b, t, z, s _ _ e, r⟩
def spPurse (K : PySem.W.Frag) : Sp := fun vs H Q _ => ∃ (a : Addr) (ns : List Int) (i : Int), vs = [.ref a, .int i] ∧ SqL K H a (ns.map V.int) ∧ 0 ≤ i ∧ i ≤ 64 ∧
  ∀ (H' : Hp) (p : Addr) (c : Int), Same H H' → H p = none → PurseAt H' p c 1000000 → Q (.ref p) H'
def spMixed : Sp := fun vs H Q _ => ∃ s t z : Int, vs = [.int s, .int t, .int z] ∧ -(2 ^ 64) < s ∧ s < 2 ^ 64 ∧ -(2 ^ 64) < t ∧ t < 2 ^ 64 ∧ ∀ r : Int, 0 ≤ r → r < 2147483587 → Q (.int r) H
def spDraw : Sp := fun vs H Q _ => ∃ (p : Addr) (m c : Int) (n : Nat), vs = [.ref p, .int m] ∧ PurseAt H p c (n + 1) ∧ 1 ≤ m ∧ m < 1048576 ∧
  ∀ (H' : Hp) (r : Int), 0 ≤ r → r < m → SameX p H H' → PurseAt H' p c n → Q (.int r) H'
theorem op_powW {X : Cx} : OpR X (binaryOp .Pow) (rI (fun i j => i = 10 ^ 60 ∧ j = 8) fun i j => .int (i ^ j.toNat)) := opI fun i j _ _ _ _ _ hc q => by
  obtain ⟨rfl, rfl⟩ := hc
  exact PyProof.Rows.pow_int (by decide) (by decide +kernel) q
theorem cut_ints (ns : List Int) (lo hi : Option Int) : ∃ ms : List Int, cutV (ns.map V.int) lo hi = ms.map V.int := by
  exact ⟨_, by unfold cutV; rw [← List.map_drop, ← List.map_take]⟩
theorem ok_mixed {f : Addr} {fd : FuncData} (F : Fun K "_law_mixed" "_law_mixed" s_mixed f fd) (T : Bt mg) : FnOk P w K mg base CX0 1 f fd ["_law_seed", "_law_turn", "_law_at"] spMixed := by
  refine F.ok c_mixed (fun vs H Q E h => ?_) (fun cdv A outer s H vs Q E hr h => ?_)
  · obtain ⟨_, _, _, rfl, _⟩ := h
    rfl
  · obtain ⟨x, t, z, rfl, h1, h2, h3, h4, k⟩ := h
    refine ⟨_, pss_cons (ps_set (i := 3) c_mixed.nd rfl (Or.inl rfl) (pe_op op_add (pe_op op_mul (pv 0) pe_int) (pe_op op_mul (pe_op op_mul pe_int (pv 1)) (pv 1))))
      (pss_cons (ps_set (i := 3) c_mixed.nd rfl (Or.inl rfl) (pe_op op_mod (pe_callTy call_int1 (by rfl) T.int (by decide +kernel) (pa_cons (pe_op op_add (pe_op op_add (pv 3) (pe_op op_mul pe_int (pv 2))) (pv 1)) pa_nil)) pe_int))
      (pss_cons (ps_set (i := 3) c_mixed.nd rfl (Or.inl rfl) (pe_op op_mod (pe_callTy call_int1 (by rfl) T.int (by decide +kernel) (pa_cons (pe_op op_add (pe_op op_mul (pv 3) (pv 3)) pe_int) pa_nil)) pe_int))
      (pss_one (ps_ret (pe_op op_mod (pe_callTy call_int1 (by rfl) T.int (by decide +kernel) (pa_cons (pe_op op_mul (pv 3) pe_int) pa_nil)) pe_int))))), ?_⟩
    refine ⟨_, rfl, _, _, rfl, rfl, .inl ⟨h1, h2⟩, _, rfl, _, _, rfl, rfl, .inl ⟨by decide, by decide⟩, _, rfl, _, _, rfl, rfl, .inr ⟨h3, h4⟩, _, _, rfl, rfl, ?_⟩
    refine ⟨_, rfl, _, rfl, _, _, rfl, rfl, .inl ⟨by decide, by decide⟩, _, _, rfl, rfl, _, rfl, _, _, rfl, rfl, .inl ⟨_, rfl, _, _, rfl, rfl, (by show (0 : Int) < 2147483647; decide), ?_⟩⟩
    have u0 : ∀ y : Int, 0 ≤ y % 2147483647 := fun y => Int.emod_nonneg _ (by decide)
    have u1 : ∀ y : Int, y % 2147483647 < 2147483647 := fun y => Int.emod_lt_of_pos _ (by decide)
    refine ⟨_, rfl, _, rfl, _, _, rfl, rfl, .inl ⟨?_, ?_⟩, _, _, rfl, rfl, .inl ⟨_, rfl, _, _, rfl, rfl, (by show (0 : Int) < 2147483629; decide), ?_⟩⟩
    · exact Int.lt_of_lt_of_le (by decide) (u0 _)
    · exact Int.lt_of_lt_of_le (u1 _) (by decide)
    · have v0 : ∀ y : Int, 0 ≤ y % 2147483629 := fun y => Int.emod_nonneg _ (by decide)
      have v1 : ∀ y : Int, y % 2147483629 < 2147483629 := fun y => Int.emod_lt_of_pos _ (by decide)
      refine ⟨_, rfl, _, _, rfl, rfl, .inl ⟨?_, ?_⟩, .inl ⟨_, rfl, _, _, rfl, rfl, (by show (0 : Int) < 2147483587; decide), ?_⟩⟩
      · exact Int.lt_of_lt_of_le (by decide) (v0 _)
      · exact Int.lt_of_lt_of_le (v1 _) (by decide)
      · exact k _ (Int.emod_nonneg _ (by decide)) (Int.emod_lt_of_pos _ (by decide))
theorem ok_purse {f : Addr} {fd : FuncData} (F : Fun K "_law_purse" "_law_purse" s_purse f fd) (T : Bt mg) : FnOk P w K mg base CX0 1 f fd ["_law_script", "_law_at"] (spPurse K) := by
  refine F.ok c_purse (fun vs H Q E h => ?_) (fun cdv A outer s H vs Q E hr h => ?_)
  · obtain ⟨_, _, _, rfl, _⟩ := h
    rfl
  · obtain ⟨a, ns, i, rfl, hS, h0, h1, k⟩ := h
    refine ⟨_, pss_cons (ps_set (i := 2) c_purse.nd rfl (Or.inl rfl) (pe_callB (cr_sum rfl) (by rfl) T.sum (by decide +kernel) (pa_cons (pe_slice sl_list (pv 0) (po_some (pv 1)) (po_some (pe_op op_add (pv 1) pe_int))) pa_nil)))
      (pss_one (ps_ret (pe_lst (pa_cons (pe_op op_mod (pe_callTy call_int1 (by rfl) T.int (by decide +kernel) (pa_cons (pe_callB (call_max2 rfl) (by rfl) T.max (by decide +kernel) (pa_cons (pe_op op_sub (pv 2) (pe_op op_pow pe_int pe_int)) (pa_cons pe_int pa_nil))) pa_nil))
            (pe_op op_powW (pe_op op_pow pe_int pe_int) pe_int))
          (pa_cons (pe_op op_mod (pe_callTy call_int1 (by rfl) T.int (by decide +kernel) (pa_cons (pv 2) pa_nil)) pe_int) (pa_cons pe_int (pa_cons (pv 1) pa_nil))))))), ?_⟩
    obtain ⟨ms, hms⟩ := cut_ints ns (some i) (some (i + 1))
    refine ⟨_, rfl, _, rfl, _, rfl, _, rfl, _, _, rfl, rfl, _, rfl, a, _, rfl, hS, fun p0 hp0 => ?_⟩
    refine ⟨p0, ms, rfl, SqL.of (by rw [upd_same, hms]), ?_⟩
    refine ⟨_, rfl, _, _, rfl, rfl, ⟨by decide, by decide, by decide⟩, _, _, rfl, rfl, _, _, rfl, .inl ⟨_, rfl, _, _, rfl, rfl, ⟨by decide, by decide, by decide⟩, _, _, rfl, rfl, ⟨by decide, by decide⟩, _, _, rfl, rfl, (by show (0 : Int) < _; decide +kernel), ?_⟩⟩
    refine ⟨_, rfl, .inl ⟨_, rfl, _, _, rfl, rfl, (by show (0 : Int) < 2147483629; decide), _, rfl, (by show 4 ≤ sizeLine; decide), fun p hp => ?_⟩⟩
    have np : H p = none := (same_new hp0).free hp
    exact k _ p _ ((same_new hp0).trans (same_new hp)) np ⟨_, _, _, upd_same, Int.emod_nonneg _ (by decide), Int.emod_lt_of_pos _ (by decide), by decide, by decide, h0, h1⟩
theorem ok_draw {f fM : Addr} {fd fdM : FuncData} (F : Fun K "_law_draw" "_law_draw" s_draw f fd) (T : Bt mg) (FM : Fun K "_law_mixed" "_law_mixed" s_mixed fM fdM) (mM : mg "_law_mixed" = some (.ref fM)) (bM : Binds K fdM ["_law_seed", "_law_turn", "_law_at"] []) :
    FnOk P w K mg base CX0 2 f fd ["_law_purse_here", "_law_many"] spDraw := by
  have GM : FnOk P w K mg base CX0 1 fM fdM ["_law_seed", "_law_turn", "_law_at"] spMixed := ok_mixed FM T
  refine F.ok c_draw (fun vs H Q E h => ?_) (fun cdv A outer s H vs Q E hr h => ?_)
  · obtain ⟨_, _, _, _, rfl, _⟩ := h
    rfl
  · obtain ⟨p, m, c, n, rfl, ⟨b, t, z, hp, c0, c1, t0, t1, z0, z1⟩, m0, m1, k⟩ := h
    have hr1 : Room 1 _ := hr.mono (by decide)
    refine ⟨_, pss_cons (ps_if (pt_cmpR op_gt (pe_ix ix_list (pv 0) pe_int (fun _ _ => rfl)) pe_int (nomark _))
        (pss_cons (ps_set (i := 2) c_draw.nd rfl (Or.inl rfl) (pe_op op_mod (pe_callTy call_int1 (by rfl) T.int (by decide +kernel) (pa_cons (pe_ix ix_list (pv 0) pe_int (fun _ _ => rfl)) pa_nil)) (pv 1)))
        (pss_cons (ps_asg (pe_op op_fdiv (pe_ix ix_list (pv 0) pe_int (fun _ _ => rfl)) (pv 1)) (pg_sub (pv 0) pe_int set_list))
        (pss_one (ps_ret (pv 2))))) pss_nil)
      (pss_cons (ps_set (i := 3) c_draw.nd rfl (Or.inl rfl) pe_int)
      (pss_cons (ps_for PassesOwn.never rfl (pi_range1 rfl T.range (pa_cons (pe_op op_add pe_int (pe_op op_fdiv (pe_bits (pv 1)) pe_int)) pa_nil)) (pg_name (i := 4) c_draw.nd rfl (Or.inl rfl))
        (pss_cons (ps_asg (pe_op op_add (pe_ix ix_list (pv 0) pe_int (fun _ _ => rfl)) pe_int) (pg_sub (pv 0) pe_int set_list))
        (pss_one (ps_set (i := 3) c_draw.nd rfl (Or.inl rfl) (pe_op op_add (pe_op op_mul (pv 3) pe_int)
          (pe_call GM hr1 rfl mM FM.kp bM .nil pass0 (pa_cons (pe_ix ix_list (pv 0) pe_int (fun _ _ => rfl)) (pa_cons (pe_ix ix_list (pv 0) pe_int (fun _ _ => rfl)) (pa_cons (pe_ix ix_list (pv 0) pe_int (fun _ _ => rfl)) pa_nil)))))))))
      (pss_one (ps_ret (pe_op op_mod (pe_callTy call_int1 (by rfl) T.int (by decide +kernel) (pa_cons (pv 3) pa_nil)) (pv 1)))))), ?_⟩
    refine ⟨_, rfl, p, _, _, _, rfl, rfl, SqL.of hp, rfl, _, _, rfl, rfl, _, rfl, ?_⟩
    refine ite2 (fun _ => ?_) (fun _ => ?_)
    · refine ⟨_, rfl, p, _, _, _, rfl, rfl, SqL.of hp, rfl, .inl ⟨_, rfl, _, rfl, _, _, rfl, rfl, (by show (0 : Int) < m; omega), ?_⟩⟩
      refine ⟨_, rfl, p, _, _, _, rfl, rfl, SqL.of hp, rfl, _, rfl, _, _, rfl, rfl, ⟨by show (0 : Int) < m; omega, by show m < 1073741824; omega⟩, _, rfl, p, _, _, 0, rfl, rfl, hp, rfl, ?_⟩
      refine ⟨_, rfl, ?_⟩
      exact k _ _ (Int.emod_nonneg _ (by omega)) (Int.emod_lt_of_pos _ (by omega)) SameX.upd ⟨_, _, _, upd_same, c0, c1, t0, by omega, z0, z1⟩
    · have hb : Builtin.Int.intBits m ≤ 20 := PyProof.Rows.intBits_le (by omega)
      have e28 : (1 : Int) + ((Builtin.Int.intBits m : Nat) : Int) / 28 = 1 := by omega
      refine ⟨_, rfl, m, rfl, _, _, rfl, rfl, ⟨by decide, by decide⟩, _, _, rfl, rfl, 1, congrArg (fun q => [V.int q]) e28, by decide, by decide, ?_⟩
      refine for_range (lo := 0) (n := 1) (fun i σ H' => ∃ (f t' : Int) (v : Option V), σ = [some (.ref p), some (.int m), none, some (.int f), v] ∧ SameX p H H' ∧ H' p = some (.lst [.int b, .int c, .int t', .int z]) ∧ t' = t + (i : Int))
        ⟨0, t, none, rfl, SameX.refl _ _, hp, by simp⟩ ?_ ?_
      · rintro i σ H' hi ⟨f, t', v, rfl, sx, hp', et⟩
        refine ⟨_, rfl, p, _, _, _, rfl, rfl, SqL.of hp', rfl, _, _, rfl, rfl, _, rfl, p, _, _, 2, rfl, rfl, hp', rfl, ?_⟩
        have hp2 : (upd H' p (.lst [.int b, .int c, .int (t' + 1), .int z])) p = some (.lst [.int b, .int c, .int (t' + 1), .int z]) := upd_same
        refine ⟨_, rfl, _, _, rfl, rfl, .inr ⟨by decide, by decide⟩, _, rfl, p, _, _, _, rfl, rfl, SqL.of hp2, rfl, _, rfl, p, _, _, _, rfl, rfl, SqL.of hp2, rfl, _, rfl, p, _, _, _, rfl, rfl, SqL.of hp2, rfl, ?_⟩
        refine ⟨_, _, _, rfl, by omega, by omega, by omega, by omega, fun r r0 r1 => ?_⟩
        exact ⟨_, _, rfl, rfl, _, _, _, rfl, sx.trans SameX.upd, hp2, by omega⟩
      · rintro σ H' ⟨f, t', v, rfl, sx, hp', et⟩
        refine ⟨_, rfl, .inl ⟨_, rfl, _, rfl, _, _, rfl, rfl, (by show (0 : Int) < m; omega), ?_⟩⟩
        exact k _ _ (Int.emod_nonneg _ (by omega)) (Int.emod_lt_of_pos _ (by omega)) sx ⟨_, _, _, hp', c0, c1, by omega, by omega, z0, z1⟩
def spPurses (K : PySem.W.Frag) : Sp := fun vs H Q _ => ∃ (a : Addr) (ns : List Int) (few : Int), vs = [.ref a, .int few] ∧ SqL K H a (ns.map V.int) ∧ few ≤ 60 ∧
  ∀ (H' : Hp) (D : Addr) (ps : List Addr), Same H H' → H D = none → H' D = some (.lst (ps.map V.ref)) → ps.Nodup → 1 ≤ ps.length → (∀ p ∈ ps, H p = none ∧ ∃ c, PurseAt H' p c 1000000) → Q (.ref D) H'
def spOneOf : Sp := fun vs H Q _ => ∃ (p l : Addr) (xs : List V) (c : Int) (n : Nat), vs = [.ref p, .ref l] ∧ PurseAt H p c (n + 1) ∧ H l = some (.lst xs) ∧ l ≠ p ∧ 1 ≤ xs.length ∧ xs.length ≤ 1000 ∧
  ∀ (H' : Hp) (i : Nat) (x : V), xs[i]? = some x → SameX p H H' → PurseAt H' p c n → Q x H'
/-- a word: one to eight letters from a to z -/
def IsW (x : Str) : Prop := 1 ≤ x.cps.toList.length ∧ x.cps.toList.length ≤ 8 ∧ ∀ c ∈ x.cps.toList, 97 ≤ c ∧ c ≤ 122
theorem letters {n : Nat} (h : n < 26) : ∃ c, ("abcdefghijklmnopqrstuvwxyz" : Str).cps.toList[n]? = some c ∧ 97 ≤ c ∧ c ≤ 122 := by
  have all : ∀ n, n < 26 → ∃ c, ("abcdefghijklmnopqrstuvwxyz" : Str).cps.toList[n]? = some c ∧ 97 ≤ c ∧ c ≤ 122 := by
    intro n h
    have q : ∀ n : Fin 26, (match ("abcdefghijklmnopqrstuvwxyz" : Str).cps.toList[n.val]? with | some c => decide (97 ≤ c) && decide (c ≤ 122) | none => false) = true := by decide +kernel
    have z := q ⟨n, h⟩
    dsimp only at z
    split at z
    · exact ⟨_, by assumption, by simpa using z⟩
    · cases z
  exact all n h
theorem ok_purses {f fP : Addr} {fd fdP : FuncData} (F : Fun K "_law_purses" "_law_purses" s_purses f fd) (T : Bt mg) (FP : Fun K "_law_purse" "_law_purse" s_purse fP fdP) (mP : mg "_law_purse" = some (.ref fP)) (bP : Binds K fdP ["_law_script", "_law_at"] []) :
    FnOk P w K mg base CX0 2 f fd ["_law_script", "_law_few"] (spPurses K) := by
  have GP : FnOk P w K mg base CX0 1 fP fdP ["_law_script", "_law_at"] (spPurse K) := ok_purse FP T
  refine F.ok c_purses (fun vs H Q E h => ?_) (fun cdv A outer s H vs Q E hr h => ?_)
  · obtain ⟨_, _, _, rfl, _⟩ := h
    rfl
  · obtain ⟨a, ns, few, rfl, hS, hf, k⟩ := h
    have hr1 : Room 1 _ := hr.mono (by decide)
    refine ⟨_, pss_one (ps_ret (pe_lc (own := [("_law_at", 2)]) (g := gName 2) (tt := tYes) rfl c_purses.nd
      (pi_range1 rfl T.range (pa_cons (pe_callB (call_max2 rfl) (by rfl) T.max (by decide +kernel) (pa_cons pe_int (pa_cons (pe_callB (call_min2 rfl) (by rfl) T.min (by decide +kernel) (pa_cons (pv 1) (pa_cons (pe_callB call_len_seq (by rfl) T.len PySem.boot_len (pa_cons (pv 0) pa_nil)) pa_nil))) pa_nil))) pa_nil))
      (blkOk_by (N := ["_law_script", "_law_few", "_law_at"]) (sc := defScope s_purses) (by decide +kernel)) (fun _ _ _ _ _ => pg_name (i := 2) c_purses.nd rfl (Or.inl rfl)) (fun _ _ _ _ _ => pts_nil)
      (fun _ _ _ _ _ => pe_call GP hr1 rfl mP FP.kp bP .nil pass0 (pa_cons (pv 0) (pa_cons (pv 2) pa_nil))))), ?_⟩
    refine ⟨_, rfl, _, rfl, a, _, rfl, .inl hS, _, _, rfl, _, _, rfl, ?_⟩
    generalize hN : (if (if ((ns.map V.int).length : Int) < few then ((ns.map V.int).length : Int) else few) > 1 then (if ((ns.map V.int).length : Int) < few then ((ns.map V.int).length : Int) else few) else (1 : Int)) = N
    have hN0 : 1 ≤ N ∧ N ≤ 60 := by
      rw [← hN]
      split <;> split <;> omega
    refine ⟨N, rfl, by omega, by omega, fun D hD => ?_⟩
    refine lc_range (lo := 0) (n := N.toNat) (fun i H' => ∃ ps : List Addr, H' D = some (.lst (ps.map V.ref)) ∧ ps.length = i ∧ Same H H' ∧ ps.Nodup ∧ (∀ p ∈ ps, H p = none ∧ ∃ c, PurseAt H' p c 1000000))
      ⟨[], upd_same, rfl, same_new hD, List.nodup_nil, fun _ h => nomatch h⟩ ?_ ?_
    · rintro i H' hi ⟨ps, hd, hl, s5, nd, hp⟩
      refine ⟨rfl, ?_⟩
      refine ⟨_, rfl, _, rfl, a, ns, _, rfl, s5.seq hS, by omega, by omega, fun H2 p c s2 hn pa => ?_⟩
      have hd2 := s2 _ _ hd
      have npD : p ≠ D := fun z => by
        rw [z, hd] at hn
        cases hn
      have hnp : p ∉ ps := fun hm => by
        obtain ⟨_, c', b', t', z', e, _⟩ := hp p hm
        rw [hn] at e
        cases e
      have sd : ∀ o, Same H (upd H2 D o) := fun o b u e => by
        have nb : b ≠ D := ne_of_none e hD
        rw [upd_ne nb]
        exact s2 _ _ (s5 _ _ e)
      refine ⟨_, hd2, by rw [List.length_map, hl, sizeLine_eq]; omega, ps ++ [p], ?_, by simp [hl], sd _, ?_, fun q hq => ?_⟩
      · rw [upd_same]
        simp
      · rw [List.nodup_append]
        refine ⟨nd, by simp, fun x hx y hy => ?_⟩
        have ey : y = p := by simpa using hy
        rw [ey]
        rintro rfl
        exact hnp hx
      · have keep : ∀ {q : Addr} {c : Int} {n : Nat}, q ≠ D → PurseAt H2 q c n → PurseAt (upd H2 D (.lst (ps.map V.ref ++ [V.ref p]))) q c n := fun {q c n} nq ⟨b, t, z, e, r⟩ => ⟨b, t, z, by rw [upd_ne nq]; exact e, r⟩
        rcases List.mem_append.mp hq with hq | hq
        · obtain ⟨h1, c', pc⟩ := hp q hq
          refine ⟨h1, c', keep (fun z => ?_) (pc.same s2)⟩
          obtain ⟨b', t', z', e, _⟩ := pc
          rw [z, hd] at e
          injection e with e
          injection e with e
          cases ps with
          | nil => cases hq
          | cons x xs => simp at e
        · have eq : q = p := by simpa using hq
          rw [eq]
          exact ⟨s5.free hn, c, keep npD pa⟩
    · rintro H' ⟨ps, hd, hl, s5, nd, hp⟩
      exact k H' D ps s5 hD hd nd (by omega) hp
/-- a def of the text that keeps a promise -/
def Has (P : Program) (w : World) (K : PySem.W.Frag) (mg : Str → Option Value) (base : Heap) (k : Nat) (x : Str) (ps : List Str) (sp : Sp) : Prop :=
  ∃ (f : Addr) (fd : FuncData), FnOk P w K mg base CX0 k f fd ps sp ∧ mg x = some (.ref f) ∧ PySem.W.keepIn K (.ref f) = true ∧ Binds K fd ps []
/-- the object at a is none of the purse's -/
theorem purse_ne {H : Hp} {p a : Addr} {c : Int} {n : Nat} {o : HO} (pa : PurseAt H p c n) (e : H a = some o) (h : ∀ b c t z : Int, o ≠ .lst [.int b, .int c, .int t, .int z]) : a ≠ p := by
  rintro rfl
  obtain ⟨b, t, z, q, _⟩ := pa
  rw [e] at q
  exact h _ _ _ _ (Option.some.inj q)
theorem PurseAt.upd {H : Hp} {p a : Addr} {c : Int} {n : Nat} {o : HO} (pa : PurseAt H p c n) (ne : a ≠ p) : PurseAt (L2.upd H a o) p c n := by
  obtain ⟨b, t, z, e, q⟩ := pa
  exact ⟨b, t, z, by rw [upd_ne (Ne.symm ne)]; exact e, q⟩
theorem sIx_n (n d k : Nat) : HT.sIx n d (some (k : Int)) = min k n := HT.sIx_nat n d k
theorem in_strs (x : Str) (xs : List Str) : inV (.str x) (xs.map V.str) = decide (x ∈ xs) := by
  unfold inV
  rw [List.any_map]
  induction xs with
  | nil => simp
  | cons y ys ih =>
    rw [List.any_cons, ih]
    show ((y == x) || decide (x ∈ ys)) = decide (x ∈ y :: ys)
    by_cases h : x = y
    · subst h
      simp
    · have h' : (y == x) = false := beq_eq_false_iff_ne.mpr (Ne.symm h)
      rw [h', Bool.false_or]
      exact decide_eq_decide.mpr ⟨fun z => List.mem_cons_of_mem _ z, fun z => by
        rcases List.mem_cons.mp z with e | z
        · exact absurd e h
        · exact z⟩
theorem take_next {α : Type} {l : List α} {i : Nat} {x : α} (h : l[i]? = some x) : l.take (i + 1) = l.take i ++ [x] := by
  rw [List.take_succ, h]
  rfl
def Lt (a b : Str) : Prop := a.cps.toList < b.cps.toList
instance (a b : Str) : Decidable (Lt a b) := inferInstanceAs (Decidable (a.cps.toList < b.cps.toList))
theorem Lt.irr (a : Str) : ¬ Lt a a := List.lt_irrefl _
theorem Lt.tr {a b c : Str} (h : Lt a b) (k : Lt b c) : Lt a c := List.lt_trans h k
/-- strictly ascending -/
def Asc (xs : List Str) : Prop := xs.Pairwise Lt
theorem cutV_hi (xs : List V) (k : Nat) : cutV xs (some (k : Int)) none = xs.drop k := by
  have e0 : HT.sIx xs.length xs.length none = xs.length := rfl
  unfold cutV
  rw [sIx_n, e0]
  by_cases h : k ≤ xs.length
  · rw [Nat.min_eq_left h, List.take_of_length_le (by rw [List.length_drop]; exact Nat.le_refl _)]
  · rw [Nat.min_eq_right (by omega), Nat.sub_self, List.take_zero, List.drop_eq_nil_of_le (by omega)]
/-- two texts in their order -/
def mk (a b : Str) : Str × Str := if Lt a b then (a, b) else (b, a)
def spPair : Sp := fun vs H Q _ => ∃ a b : Str, vs = [.str a, .str b] ∧ ∀ T, H T = none → Q (.ref T) (upd H T (.tup [.str (mk a b).1, .str (mk a b).2]))
/-- all twos of a list, in their order -/
def prs : List V → List (V × V)
  | [] => []
  | x :: r => r.map (fun y => (x, y)) ++ prs r
theorem prs_len : ∀ xs : List V, (prs xs).length ≤ xs.length * xs.length
  | [] => Nat.le_refl _
  | x :: r => by
    have h := prs_len r
    show (r.map (fun y => (x, y)) ++ prs r).length ≤ _
    rw [List.length_append, List.length_map, List.length_cons]
    have e : (r.length + 1) * (r.length + 1) = r.length * r.length + r.length + (r.length + 1) := by
      rw [Nat.add_mul, Nat.one_mul, Nat.mul_add, Nat.mul_one]
    omega
/-- the tuples at Ts hold the twos ps -/
def Tups (H : Hp) (Ts : List Addr) (ps : List (V × V)) : Prop := Ts.length = ps.length ∧ ∀ (k : Nat) T p, Ts[k]? = some T → ps[k]? = some p → H T = some (.tup [p.1, p.2])
theorem Tups.nil {H : Hp} : Tups H [] [] := ⟨rfl, fun k T p h => by simp at h⟩
theorem Tups.keep {H H' : Hp} {Ts : List Addr} {ps : List (V × V)} (t : Tups H Ts ps) (k : ∀ T o, T ∈ Ts → H T = some o → H' T = some o) : Tups H' Ts ps :=
  ⟨t.1, fun j T p h1 h2 => k T _ (List.mem_of_getElem? h1) (t.2 j T p h1 h2)⟩
theorem Tups.same {H H' : Hp} {Ts : List Addr} {ps : List (V × V)} (t : Tups H Ts ps) (s : Same H H') : Tups H' Ts ps := t.keep fun T o _ e => s T o e
theorem Tups.at {H : Hp} {Ts : List Addr} {ps : List (V × V)} (t : Tups H Ts ps) {T : Addr} (h : T ∈ Ts) : ∃ p, p ∈ ps ∧ H T = some (.tup [p.1, p.2]) := by
  obtain ⟨j, hj, e⟩ := List.getElem_of_mem h
  have h1 : Ts[j]? = some T := by rw [List.getElem?_eq_getElem hj, e]
  have hp : j < ps.length := by rw [← t.1]; exact hj
  exact ⟨ps[j], List.getElem_mem hp, t.2 j T _ h1 (List.getElem?_eq_getElem hp)⟩
theorem Tups.append {H : Hp} {Ts Us : List Addr} {ps qs : List (V × V)} (t : Tups H Ts ps) (u : Tups H Us qs) : Tups H (Ts ++ Us) (ps ++ qs) := by
  refine ⟨by rw [List.length_append, List.length_append, t.1, u.1], fun k T p h1 h2 => ?_⟩
  by_cases c : k < Ts.length
  · rw [List.getElem?_append_left c] at h1
    rw [List.getElem?_append_left (by rw [← t.1]; exact c)] at h2
    exact t.2 k T p h1 h2
  · rw [List.getElem?_append_right (by omega)] at h1
    rw [List.getElem?_append_right (by rw [← t.1]; omega), ← t.1] at h2
    exact u.2 _ T p h1 h2
theorem Tups.snoc {H : Hp} {Ts : List Addr} {ps : List (V × V)} (t : Tups H Ts ps) {T : Addr} {p : V × V} (h : H T = some (.tup [p.1, p.2])) : Tups H (Ts ++ [T]) (ps ++ [p]) := by
  refine t.append ⟨rfl, fun k U q h1 h2 => ?_⟩
  cases k with
  | zero =>
    obtain rfl : T = U := by simpa using h1
    obtain rfl : p = q := by simpa using h2
    exact h
  | succ k => simp at h1
theorem Tups.ne {H : Hp} {Ts : List Addr} {ps : List (V × V)} (t : Tups H Ts ps) {a : Addr} (h : ∀ x y, H a ≠ some (.tup [x, y])) : ∀ T ∈ Ts, T ≠ a := fun T hT e => by
  obtain ⟨p, _, q⟩ := t.at hT
  rw [e] at q
  exact h _ _ q
/-- a list of tuples of two stands at l -/
def PrsAt (H : Hp) (l : Addr) (ps : List (V × V)) : Prop := ∃ Ts : List Addr, H l = some (.lst (Ts.map V.ref)) ∧ Tups H Ts ps
def spPairs : Sp := fun vs H Q _ => ∃ (l : Addr) (xs : List V), vs = [.ref l] ∧ H l = some (.lst xs) ∧ xs.length ≤ 50 ∧
  ∀ (H' : Hp) (D : Addr), Same H H' → H D = none → PrsAt H' D (prs xs) → Q (.ref D) H'
theorem prs_take (xs : List V) (i : Nat) (x : V) (h : xs[i]? = some x) : prs xs = (prs xs).take ((prs xs).length - (prs (xs.drop i)).length) ++ prs (xs.drop i) ∧ prs (xs.drop i) = (xs.drop (i + 1)).map (fun y => (x, y)) ++ prs (xs.drop (i + 1)) := by
  have hd : xs.drop i = x :: xs.drop (i + 1) := by
    have lt := (List.getElem?_eq_some_iff.mp h).1
    rw [List.drop_eq_getElem_cons lt, (List.getElem?_eq_some_iff.mp h).2]
  refine ⟨?_, by rw [hd]; rfl⟩
  have suf : ∀ (l : List V) (j : Nat), ∃ r, prs l = r ++ prs (l.drop j) := by
    intro l
    induction l with
    | nil => exact fun j => ⟨[], by rw [List.drop_nil]; rfl⟩
    | cons y l ih =>
      intro j
      cases j with
      | zero => exact ⟨[], rfl⟩
      | succ j =>
        obtain ⟨r, e⟩ := ih j
        exact ⟨l.map (fun z => (y, z)) ++ r, by
          show l.map (fun z => (y, z)) ++ prs l = _
          rw [e, List.append_assoc]
          rfl⟩
  obtain ⟨r, e⟩ := suf xs i
  rw [e]
  have : (r ++ prs (xs.drop i)).length - (prs (xs.drop i)).length = r.length := by rw [List.length_append]; omega
  rw [this, List.take_left']
  rfl
set_option maxHeartbeats 1000000 in
theorem ok_pairs {f : Addr} {fd : FuncData} (F : Fun K "_law_pairs" "_law_pairs" s_pairs f fd) (T : Bt mg) : FnOk P w K mg base CX0 1 f fd ["_law_crowd"] spPairs := by
  refine F.ok c_pairs (fun vs H Q E h => ?_) (fun cdv A outer s H vs Q E hr h => ?_)
  · obtain ⟨_, _, rfl, _⟩ := h
    rfl
  · obtain ⟨l, xs, rfl, hl, few, k⟩ := h
    have pl := prs_len xs
    have sq : xs.length * xs.length ≤ 50 * 50 := Nat.mul_le_mul few few
    refine ⟨_, pss_cons (ps_set (i := 1) c_pairs.nd rfl (Or.inl rfl) (pe_lst pa_nil))
      (pss_cons (ps_for PassesOwn.never rfl (pi_range1 rfl T.range (pa_cons (pe_callB call_len_seq (by rfl) T.len PySem.boot_len (pa_cons (pv 0) pa_nil)) pa_nil)) (pg_name (i := 2) c_pairs.nd rfl (Or.inr rfl))
        (pss_one (ps_set (i := 1) c_pairs.nd rfl (Or.inl rfl) (pe_op op_cat (pv 1) (pe_lc (own := [("_law_late", 3)]) (g := gName 3) (tt := tYes) rfl c_pairs.nd (pi_list (pe_slice sl_list (pv 0) (po_some (pe_op op_add (pv 2) pe_int)) po_none))
          (blkOk_by (N := ["_law_crowd", "_law_found", "_law_at", "_law_late"]) (sc := defScope s_pairs) (by decide +kernel)) (fun _ _ _ _ _ => pg_name (i := 3) c_pairs.nd rfl (Or.inl rfl)) (fun _ _ _ _ _ => pts_nil)
          (fun _ _ _ _ _ => pe_tup (pa_cons (pe_ix (r := rIxL K) ix_list (pv 0) (pv 2) (fun _ _ => rfl)) (pa_cons (pv 3) pa_nil)))))))) 
      (pss_one (ps_ret (pv 1)))), ?_⟩
    refine ⟨Nat.zero_le _, fun D0 hD0 => ?_⟩
    have lD0 : l ≠ D0 := ne_of_none hl hD0
    refine ⟨_, rfl, l, _, rfl, .inl (SqL.of (by rw [upd_ne lD0]; exact hl)), (xs.length : Int), rfl, by omega, by omega, ?_⟩
    refine for_range (lo := 0) (n := (xs.length : Int).toNat) (fun i σ H' => ∃ (D : Addr) (Ts : List Addr) (v2 : Option V) (qs : List (V × V)), σ = [some (.ref l), some (.ref D), v2, none] ∧ Same H H' ∧ H D = none ∧ H' D = some (.lst (Ts.map V.ref)) ∧ Tups H' Ts qs ∧ prs xs = qs ++ prs (xs.drop i))
      ⟨D0, [], none, [], rfl, same_new hD0, hD0, upd_same, Tups.nil, rfl⟩ ?_ ?_
    · rintro i σ H' hi ⟨D, Ts, v2, qs, rfl, s5, nD, hd, tu, eq⟩
      have il : i < xs.length := by omega
      have hx : xs[i]? = some xs[i] := List.getElem?_eq_getElem il
      generalize xs[i] = x at hx
      have row := (prs_take xs i x hx).2
      have hl5 := s5 _ _ hl
      rw [Int.zero_add]
      have ei : (i : Int) + 1 = ((i + 1 : Nat) : Int) := by omega
      refine ⟨_, rfl, _, rfl, _, rfl, _, _, rfl, rfl, _, rfl, l, xs, rfl, SqL.of hl5, fun S hS => ⟨S, rfl, ⟨_, SqL.of upd_same⟩, fun C hC => ?_⟩⟩
      rw [ei, cutV_hi] at hC ⊢
      have hC5 : H' C = none := by
        have x1 : S ≠ C := ne_of_none upd_same hC
        rw [upd_ne (Ne.symm x1)] at hC
        exact hC
      refine lc_list (xs := xs.drop (i + 1)) (fun j H2 => ∃ Us : List Addr, H2 C = some (.lst (Us.map V.ref)) ∧ Same (upd H' S (.lst (xs.drop (i + 1)))) H2 ∧ Tups H2 Us (((xs.drop (i + 1)).take j).map fun y => (x, y)))
        ⟨[], upd_same, same_new hC, Tups.nil⟩ (fun j H2 _ ⟨Us, _, s6, _⟩ => SqL.of (s6 _ _ upd_same)) ?_ ?_
      · rintro j y H2 hy ⟨Us, hu, s6, tu2⟩
        have jl := (List.getElem?_eq_some_iff.mp hy).1
        rw [List.length_drop] at jl
        have hl6 : H2 l = some (.lst xs) := s6 _ _ (by rw [upd_ne (ne_of_none hl5 hS)]; exact hl5)
        refine ⟨rfl, ?_⟩
        refine ⟨_, rfl, _, rfl, l, xs, _, x, rfl, rfl, SqL.of hl6, atI_nat hx, _, rfl, by show 2 ≤ sizeLine; decide, fun Z hZ => ?_⟩
        have CZ : C ≠ Z := ne_of_none hu hZ
        have lu : Us.length ≤ 50 := by
          rw [tu2.1, List.length_map, List.length_take, List.length_drop]
          omega
        have cne : ∀ T ∈ Us, T ≠ C := tu2.ne fun a b e => by
          rw [hu] at e
          cases e
        refine ⟨_, by rw [upd_ne CZ]; exact hu, by rw [List.length_map, sizeLine_eq]; omega, Us ++ [Z], by rw [upd_same]; simp, fun b o e => ?_, ?_⟩
        · have bC : b ≠ C := ne_of_none e hC
          have e2 := s6 _ _ e
          rw [upd_ne bC, upd_ne (ne_of_none e2 hZ)]
          exact e2
        · rw [take_next hy, List.map_append]
          have t3 : Tups (upd (upd H2 Z (.tup [x, y])) C (.lst (Us.map V.ref ++ [V.ref Z]))) Us (((xs.drop (i + 1)).take j).map fun y => (x, y)) :=
            tu2.keep fun T o hT e => by
              rw [upd_ne (cne T hT), upd_ne (ne_of_none e hZ)]
              exact e
          exact t3.snoc (p := (x, y)) (by rw [upd_ne (Ne.symm CZ), upd_same])
      · rintro H2 ⟨Us, hu, s6, tu2⟩
        rw [List.take_length] at tu2
        have s7 : Same H' H2 := fun b o e => s6 b o (by rw [upd_ne (ne_of_none e hS)]; exact e)
        have hd7 := s7 _ _ hd
        have lt1 := congrArg List.length eq
        rw [List.length_append, row, List.length_append, List.length_map] at lt1
        have lu : Us.length = (xs.drop (i + 1)).length := by rw [tu2.1, List.length_map]
        refine ⟨D, C, _, _, rfl, rfl, hd7, hu, by rw [List.length_map, List.length_map, sizeLine_eq, tu.1, lu]; omega, fun Z hZ => ?_⟩
        have s8 : Same H' (upd H2 Z (.lst (Ts.map V.ref ++ Us.map V.ref))) := fun b o e => by
          have e2 := s7 _ _ e
          rw [upd_ne (ne_of_none e2 hZ)]
          exact e2
        have nZ : H Z = none := by
          cases e : H Z with
          | none => rfl
          | some o =>
            rw [s7 _ _ (s5 _ _ e)] at hZ
            cases hZ
        refine ⟨Z, Ts ++ Us, some (.int (i : Int)), qs ++ (xs.drop (i + 1)).map (fun y => (x, y)), rfl, s5.trans s8, nZ, by rw [upd_same, List.map_append], ?_, by rw [eq, row, List.append_assoc]⟩
        exact (tu.same s8).append (tu2.keep fun T o _ e => by
          rw [upd_ne (ne_of_none e hZ)]
          exact e)
    · rintro σ H' ⟨D, Ts, v2, qs, rfl, s5, nD, hd, tu, eq⟩
      have e0 : xs.drop (xs.length : Int).toNat = [] := by rw [Int.toNat_natCast, List.drop_length]
      rw [e0] at eq
      have e1 : prs xs = qs := by rw [eq]; exact List.append_nil qs
      exact ⟨_, rfl, k H' D s5 nD ⟨Ts, hd, by rw [e1]; exact tu⟩⟩
abbrev Pr := Str × Str
/-- a pair as the values of its tuple, as a key -/
def tv (p : Pr) : V × V := (.str p.1, .str p.2)
/-- all pairs of some texts, in their order -/
def prsS : List Str → List Pr
  | [] => []
  | x :: r => r.map (fun y => (x, y)) ++ prsS r
theorem prs_strs : ∀ xs : List Str, prs (xs.map V.str) = (prsS xs).map tv
  | [] => rfl
  | x :: r => by
    show (r.map V.str).map (fun y => (V.str x, y)) ++ prs (r.map V.str) = _
    rw [prs_strs r, List.map_map]
    show _ = (r.map (fun y => (x, y)) ++ prsS r).map tv
    rw [List.map_append, List.map_map]
    rfl
/-- the list of pairs ps stands at l -/
def PwAt (H : Hp) (l : Addr) (ps : List Pr) : Prop := PrsAt H l (ps.map tv)
/-- some people, ascending, and pairs of them, ascending -/
structure Good (xs : List Str) (ps : List Pr) : Prop where
  asc : Asc xs
  word : ∀ x ∈ xs, IsW x
  few : 1 ≤ xs.length ∧ xs.length ≤ 9
  sub : ps.Sublist (prsS xs)
/-- the world of xs and ps stands at a -/
def WAt (H : Hp) (a : Addr) (xs : List Str) (ps : List Pr) : Prop := ∃ c l, H a = some (.lst [.ref c, .ref l]) ∧ H c = some (.lst (xs.map V.str)) ∧ PwAt H l ps
theorem PrsAt.same {H H' : Hp} {l : Addr} {ps : List (V × V)} (h : PrsAt H l ps) (s : Same H H') : PrsAt H' l ps := by
  obtain ⟨Ts, e, t⟩ := h
  exact ⟨Ts, s _ _ e, t.same s⟩
theorem WAt.same {H H' : Hp} {a : Addr} {xs : List Str} {ps : List Pr} (h : WAt H a xs ps) (s : Same H H') : WAt H' a xs ps := by
  obtain ⟨c, l, e1, e2, e3⟩ := h
  exact ⟨c, l, s _ _ e1, s _ _ e2, e3.same s⟩
theorem mem_prsS {xs : List Str} (a : Asc xs) {p : Pr} (h : p ∈ prsS xs) : p.1 ∈ xs ∧ p.2 ∈ xs ∧ Lt p.1 p.2 := by
  induction xs with
  | nil => cases h
  | cons x r ih =>
    obtain ⟨a1, a2⟩ := List.pairwise_cons.mp a
    rcases List.mem_append.mp h with h | h
    · obtain ⟨y, hy, rfl⟩ := List.mem_map.mp h
      exact ⟨List.mem_cons_self, List.mem_cons_of_mem _ hy, a1 y hy⟩
    · obtain ⟨b1, b2, b3⟩ := ih a2 h
      exact ⟨List.mem_cons_of_mem _ b1, List.mem_cons_of_mem _ b2, b3⟩
/-- the order of pairs -/
def LtP (p q : Pr) : Prop := Lt p.1 q.1 ∨ (p.1 = q.1 ∧ Lt p.2 q.2)
theorem LtP.irr (p : Pr) : ¬ LtP p p := fun h => h.elim (Lt.irr _) fun h => Lt.irr _ h.2
theorem LtP.tr {p q r : Pr} (h : LtP p q) (k : LtP q r) : LtP p r := by
  rcases h with h | ⟨e, h⟩
  · rcases k with k | ⟨e2, k⟩
    · exact .inl (h.tr k)
    · exact .inl (e2 ▸ h)
  · rcases k with k | ⟨e2, k⟩
    · exact .inl (e ▸ k)
    · exact .inr ⟨e.trans e2, h.tr k⟩
instance : DecidableEq Pr := inferInstance
theorem prsS_len : ∀ xs : List Str, 2 * (prsS xs).length + xs.length = xs.length * xs.length
  | [] => rfl
  | x :: r => by
    have h := prsS_len r
    show 2 * (r.map (fun y => (x, y)) ++ prsS r).length + (r.length + 1) = (r.length + 1) * (r.length + 1)
    rw [List.length_append, List.length_map]
    have e : (r.length + 1) * (r.length + 1) = r.length * r.length + r.length + (r.length + 1) := by
      rw [Nat.add_mul, Nat.one_mul, Nat.mul_add, Nat.mul_one]
    omega
theorem sq9 {n : Nat} (h : n ≤ 9) : n * n ≤ 72 + n := by
  have : n = 0 ∨ n = 1 ∨ n = 2 ∨ n = 3 ∨ n = 4 ∨ n = 5 ∨ n = 6 ∨ n = 7 ∨ n = 8 ∨ n = 9 := by omega
  rcases this with e | e | e | e | e | e | e | e | e | e <;> subst e <;> decide
theorem Good.len0 {xs : List Str} (h : xs.length ≤ 9) : (prsS xs).length ≤ 36 := by
  have h2 := prsS_len xs
  have h3 := sq9 h
  omega
theorem Good.len {xs : List Str} {ps : List Pr} (g : Good xs ps) : ps.length ≤ 36 := Nat.le_trans g.sub.length_le (Good.len0 g.few.2)
theorem same_none {H H' : Hp} {a : Addr} (s : Same H H') (h : H' a = none) : H a = none := by
  cases e : H a with
  | none => rfl
  | some o =>
    rw [s _ _ e] at h
    cases h
theorem same_updN {H H' : Hp} {a : Addr} {o : HO} (s : Same H H') (h : H' a = none) : Same H (upd H' a o) := fun b u e => by
  have e2 := s _ _ e
  rw [upd_ne (ne_of_none e2 h)]
  exact e2
/-- a fresh list is written again: what stood before it stays -/
theorem same_upd2 {H H' : Hp} {C : Addr} {o : HO} (s : Same (upd H C (.lst [])) H' ∨ Same H H') (hC : H C = none) : Same H (upd H' C o) := fun b u e => by
  have nb : b ≠ C := ne_of_none e hC
  rw [upd_ne nb]
  rcases s with s | s
  · exact s _ _ (by rw [upd_ne nb]; exact e)
  · exact s _ _ e
theorem Tups.upd {H : Hp} {Ts : List Addr} {ps : List (V × V)} (t : Tups H Ts ps) {a : Addr} {o : HO} (h : ∀ x y, H a ≠ some (.tup [x, y])) : Tups (L2.upd H a o) Ts ps := by
  have ne := t.ne h
  exact t.keep fun T u hT e => by
    rw [upd_ne (ne T hT)]
    exact e
instance (p q : Pr) : Decidable (LtP p q) := inferInstanceAs (Decidable (_ ∨ _))
/-- a row of bits stands at a -/
def Row (H : Hp) (m : Nat) (a : Addr) : Prop := ∃ ns : List Int, H a = some (.lst (ns.map V.int)) ∧ ns.length = m ∧ ∀ v ∈ ns, 0 ≤ v ∧ v ≤ 1
theorem Row.at {H : Hp} {m : Nat} {a : Addr} (r : Row H m a) {i : Nat} (h : i < m) : ∃ (ns : List Int) (v : Int), H a = some (.lst (ns.map V.int)) ∧ atI (ns.map V.int) (i : Int) = some (.int v) ∧ 0 ≤ v ∧ v ≤ 1 := by
  obtain ⟨ns, e, l, b⟩ := r
  have hi : ns[i]? = some ns[i] := List.getElem?_eq_getElem (by omega)
  exact ⟨ns, ns[i], e, atI_nat (by rw [List.getElem?_map, hi]; rfl), b _ (List.getElem_mem _)⟩
theorem Asc.nd {xs : List Str} (a : Asc xs) : xs.Nodup := List.Pairwise.imp (fun {x y} (h : Lt x y) (e : x = y) => Lt.irr y (by rw [e] at h; exact h)) a
theorem filter_next {α : Type} {f : α → Bool} {l : List α} {i : Nat} {q : α} (h : l[i]? = some q) : (l.take (i + 1)).filter f = (l.take i).filter f ++ if f q = true then [q] else [] := by
  rw [take_next h, List.filter_append]
  cases c : f q <;> simp [c]
theorem sameX_lst {H H' : Hp} {p a : Addr} {c : Int} {n : Nat} {xs : List V} (pa : PurseAt H p c n) (s : SameX p H H') (e : H a = some (.lst xs)) (h : ∀ x ∈ xs, ∀ i : Int, x ≠ .int i) : H' a = some (.lst xs) :=
  s _ _ (purse_ne pa e fun b _ _ _ z => by
    have z : xs = _ := HO.lst.inj z
    exact h (.int b) (by rw [z]; exact List.mem_cons_self) b rfl) e
theorem ite_f {c : Bool} {A B : Prop} (hc : c = false) (h : B) : if c = true then A else B := by
  subst hc
  exact iteF h
theorem ite_t {c : Bool} {A B : Prop} (hc : c = true) (h : A) : if c = true then A else B := by
  subst hc
  exact iteT h
def trues (n : Nat) : List V := (List.replicate n true).map V.bl
theorem trues_len (n : Nat) : (trues n).length = n := by rw [trues, List.length_map, List.length_replicate]
theorem trues_next (n : Nat) : trues n ++ [.bl true] = trues (n + 1) := by
  rw [trues, trues, List.replicate_succ', List.map_append]
  rfl
theorem trues_all (n : Nat) : (List.replicate n true).all id = true := by simp
/-- pairs of these people -/
def Of (xs : List Str) (ps : List Pr) : Prop := ∀ p ∈ ps, p.1 ∈ xs ∧ p.2 ∈ xs ∧ Lt p.1 p.2
theorem Good.of {xs : List Str} {ps : List Pr} (g : Good xs ps) : Of xs ps := fun _ h => mem_prsS g.asc (g.sub.subset h)
/-- the attributes as __init__ stores them -/
def cF (a b : Addr) : List (Str × V) := putF "_friends" (.ref b) (putF "_people" (.ref a) [])
/-- a company of xs and ps stands at c -/
def CAt (C : Addr) (H : Hp) (c : Addr) (xs : List Str) (ps : List Pr) : Prop := ∃ dx a b, H c = some (.ins C dx (cF a b)) ∧ H a = some (.lst (xs.map V.str)) ∧ PwAt H b ps
theorem PwAt.same {H H' : Hp} {l : Addr} {ps : List Pr} (h : PwAt H l ps) (s : Same H H') : PwAt H' l ps := PrsAt.same h s
theorem CAt.same {C : Addr} {H H' : Hp} {c : Addr} {xs : List Str} {ps : List Pr} (h : CAt C H c xs ps) (s : Same H H') : CAt C H' c xs ps := by
  obtain ⟨dx, a, b, h1, h2, h3⟩ := h
  exact ⟨dx, a, b, s _ _ h1, s _ _ h2, h3.same s⟩
/-- what stands at the value's address is locked from here on -/
def tFrz (td : TE) : TE := fun σ H Q => td σ H fun x H1 => ∃ d u, x = .ref d ∧ H1 d = some u ∧ Mut (some u) ∧ ∀ o, Q x (L2.upd H1 d (.frz o u))
theorem pe_frz {e : Expr} {td : TE} (he : PE X e td) : PE X e (tFrz td) := by
  refine ⟨fun pins s σ H Q I h => thn (he.run pins s σ H _ I h) ?_⟩
  rintro v s1 ⟨x, H1, I1, r1, d, u, rfl, hd, mu, q⟩
  obtain ⟨o, I2⟩ := I1.lock hd mu
  exact ⟨_, _, I2, r1, q o⟩
/-- name = {k: v for ..} on one line, a local -/
theorem ps_setDc {i : Nat} {y : Str} {py pos spos : Pos} {kx vx tg iter : Expr} {ifs : List Expr} {scope : Scope} {own : List (Str × Nat)} {wi : TI} {g : TG} {tt : TT} {tk tv : TE}
    (calm : X.calm = true) (nd : X.N.Nodup) (at_ : X.N[i]? = some y) (loc : X.env.scope.names.lookup y = some .local)
    (sw : swapsWith (.DictComp kx vx [⟨tg, iter, ifs, 0⟩] scope pos) (some (.Name y py)) spos.line X.env = pure true) (wk : PI X tg iter wi) (ok : BlkOk X.N X.env.scope scope own)
    (tgt : ∀ (s : Shared) (H : Hp) (C : Addr) (cl : List (Str × Addr)) (fp : List Addr), PG (X.blk s H scope (compEnvC scope cl C X.env) fp) tg g)
    (tst : ∀ (s : Shared) (H : Hp) (C : Addr) (cl : List (Str × Addr)) (fp : List Addr), PTs (X.blk s H scope (compEnvC scope cl C X.env) fp) ifs tt)
    (key : ∀ (s : Shared) (H : Hp) (C : Addr) (cl : List (Str × Addr)) (fp : List Addr), PE (X.blk s H scope (compEnvC scope cl C X.env) fp) kx tk)
    (val : ∀ (s : Shared) (H : Hp) (C : Addr) (cl : List (Str × Addr)) (fp : List Addr), PE (X.blk s H scope (compEnvC scope cl C X.env) fp) vx tv)
    (fold : ∀ x, foldedSetIterable iter X.env x = pure x := by intro _; rfl) : PS X (.Assign [.Name y py] (.DictComp kx vx [⟨tg, iter, ifs, 0⟩] scope pos) spos) (tAsg (tDc wi g tt tk tv (own.map (·.2))) (gName i)) := by
  refine ⟨fun pins s σ H D I h => ?_⟩
  rw [exec_Assign_Name_used _ _ _ _ sw]
  refine wpAny_bind (wpAny_standAt (wpAny_bind ?_))
  show wpAny _ X.A (do let _ ← comprehension (.DictComp kx vx [⟨tg, iter, ifs, 0⟩] scope pos) scope X.env (firstIterPos [⟨tg, iter, ifs, 0⟩] pos) newDict false (eval iter X.env) (some (assign (.Name y py) X.env))) _ _ s
  have go : tDc wi g tt tk tv (own.map (·.2)) σ H (fun x H1 => gName i x σ H1 D.nx) := h
  refine wpAny_bind (thn (dc_core (Qf := fun _ s' => SP X pins D .next s') calm nd I wk ok tgt tst key val fold go fun L C s2 m H2 I2 q hn f => ?_) fun _ _ z => wpAny_pure (wpAny_pure z))
  show wpAny _ _ (assign (.Name y py) X.env (.ref L)) _ _ _
  obtain ⟨a0, a1, a2, a3, a4, a5⟩ := f
  refine wpAny_assign_Name (store_ok2 (v := V.ref L) I2 nd at_ (.inl loc) rfl (fun s3 I3 ⟨a, b, c⟩ => ?_) (.inr loc))
  have ne : C ≠ a := c.elim (fun z => z ▸ a1) fun z e => a4 y a z e.symm
  exact ⟨m, hn.sameBut b ne, fun h3 k3 => ⟨_, H2, I3.turned (t' := s3.toks) (fun u o hb e => (k3.2 u hb).trans e) a0 a1 a3 a4 a5, q⟩⟩
theorem sw_dict {kx vx : Expr} {gs : List Comprehension} {scope : Scope} {pos py : Pos} {y : Str} {l : Nat} {env : Env} (fn : env.scope.kind = .function) (loc : env.scope.names.lookup y = some .local) (row : (py.line == pos.line) = true)
    (no : (scope.names.any fun (n, k) => n == y && (k == .local || k == .cell)) = false) : swapsWith (.DictComp kx vx gs scope pos) (some (.Name y py)) l env = pure true := by
  have k1 : env.kindOf y = some .local := loc
  have k2 : env.blockKind = .function := by
    unfold Env.blockKind
    rw [fn]
    rfl
  unfold swapsWith
  simp only [k1, k2, no, Expr.pos, row]
  rfl
/-- a dict comprehension over any walk: Pv by the turn and the heap -/
theorem dc_walk {J : It} {n : Nat} {G : Hp → Prop} {Y : Nat → Hp → V → Hp → Prop} (wk : Walk J n G Y) {g : TG} {tt : TT} {tk tv : TE} {vs : List Nat} {σ : L2.St} {H1 : Hp} {D : Addr} {Qd : Hp → Prop} (Pv : Nat → Hp → Prop)
    (start : Pv 0 (L2.upd H1 D (.dK []))) (stays : ∀ i H, i ≤ n → Pv i H → G H)
    (turn : ∀ i x H H', i < n → Pv i H → Y i H x H' → g x (wipe σ vs) H' fun σ2 H2 => wipe σ2 vs = wipe σ vs ∧ tt σ2 H2 fun b H3 => if b = true then tk σ2 H3 fun y H4 => tv σ2 H4 fun z H5 =>
      ∃ kvs k, y = kV k ∧ H5 D = some (.dK kvs) ∧ kvs.length < sizeLine ∧ Pv (i + 1) (L2.upd H5 D (.dK (putK kvs k z))) else Pv (i + 1) H3) (fin : ∀ H, Pv n H → Qd H) :
    ∃ W : Nat → Nat → Hp → Prop, (∃ m, W 0 m (L2.upd H1 D (.dK []))) ∧ ∀ i m H, W i m H → (J.stop i H ∧ Qd H) ∨ (J.go i H ∧ ∃ Nx : Hp → Prop, (∀ H', Nx H' → ∃ m', m' < m ∧ W (i + 1) m' H') ∧
      ∀ x H', J.yld i H x H' → g x (wipe σ vs) H' fun σ2 H2 => wipe σ2 vs = wipe σ vs ∧ tt σ2 H2 fun b H3 => if b = true then tk σ2 H3 fun y H4 => tv σ2 H4 fun z H5 =>
        ∃ kvs k, y = kV k ∧ H5 D = some (.dK kvs) ∧ kvs.length < sizeLine ∧ Nx (L2.upd H5 D (.dK (putK kvs k z))) else Nx H3) := by
  refine ⟨fun i m H => (m + i = n) ∧ Pv i H, ⟨n, rfl, start⟩, ?_⟩
  rintro i m H ⟨e, p⟩
  have gh := stays i H (by omega) p
  rcases Nat.eq_or_lt_of_le (show i ≤ n by omega) with z | z
  · subst z
    exact .inl ⟨wk.stops H gh, fin H p⟩
  · refine .inr ⟨wk.goes i H z gh, Pv (i + 1), fun H' q => ⟨m - 1, by omega, by omega, q⟩, fun x H' y => ?_⟩
    exact turn i x H H' z p (wk.yields i H x H' z gh y)
theorem nd_inj {α : Type} {l : List α} {i j : Nat} {a : α} (nd : l.Nodup) (h1 : l[i]? = some a) (h2 : l[j]? = some a) : i = j :=
  (List.getElem?_inj (List.getElem?_eq_some_iff.mp h1).1 nd).mp (h1.trans h2.symm)
/-- a dictionary from people -/
def dkv (xs : List Str) (vs : List V) : List (Key × V) := (xs.zip vs).map fun z => (Sum.inr z.1, z.2)
theorem dkv_len {xs : List Str} {vs : List V} (h : vs.length = xs.length) : (dkv xs vs).length = xs.length := by
  unfold dkv
  rw [List.length_map, List.length_zip]
  omega
theorem dkv_get : ∀ {xs : List Str} {vs : List V} {i : Nat} {x : Str} {v : V}, xs.Nodup → xs[i]? = some x → vs[i]? = some v → valV (dkv xs vs) (Sum.inr x : Key) = some v
  | [], vs, i, x, v, _, h, _ => by simp at h
  | y :: xs, [], i, x, v, _, _, h => by simp at h
  | y :: xs, u :: vs, 0, x, v, _, h1, h2 => by
    simp at h1 h2
    subst h1 h2
    exact valV_pos (p := ((Sum.inr y : Key), u)) rfl
  | y :: xs, u :: vs, i + 1, x, v, nd, h1, h2 => by
    simp at h1 h2
    obtain ⟨n1, n2⟩ := List.nodup_cons.mp nd
    have ne : ¬ (Sum.inr y : Key) = Sum.inr x := fun e => n1 (by
      have := Sum.inr.inj e
      rw [this]
      exact List.mem_of_getElem? h1)
    show valV (((Sum.inr y : Key), u) :: dkv xs vs) _ = _
    rw [valV_neg ne]
    exact dkv_get n2 h1 h2
/-- a dictionary from the people to lists: fs x for each -/
def CirAt (H : Hp) (D : Addr) (xs : List Str) (Ls : List Addr) (fs : Str → List Str) : Prop := H D = some (.dK (dkv xs (Ls.map V.ref))) ∧ Ls.length = xs.length ∧ Ls.Nodup ∧ ∀ (i : Nat) x L, xs[i]? = some x → Ls[i]? = some L → H L = some (.lst ((fs x).map V.str))
theorem same_over {H H' : Hp} {a : Addr} {o : HO} (s : Same H H') (h : H a = none) : Same H (upd H' a o) := same_upd2 (.inr s) h
theorem dkv_mem {xs : List Str} {vs : List V} {i : Nat} {kv : Key × V} (h : (dkv xs vs)[i]? = some kv) : ∃ x v, xs[i]? = some x ∧ vs[i]? = some v ∧ kv = (Sum.inr x, v) := by
  unfold dkv at h
  rw [List.getElem?_map] at h
  obtain ⟨z, hz, rfl⟩ := Option.map_eq_some_iff.mp h
  obtain ⟨z1, z2⟩ := List.getElem?_zip_eq_some.mp hz
  exact ⟨_, _, z1, z2, rfl⟩
/-- 1 if the two are one of the pairs -/
def ev (ps : List Pr) (a b : Str) : Nat := if (a, b) ∈ ps then 1 else 0
/-- what a triple with so many friendships is worth -/
def gg (t : Nat) : Int := if t = 2 then 1 else if t = 3 then 3 else 0
def inn (ps : List Pr) (x y : Str) : List Str → Int
  | [] => 0
  | z :: s => gg (ev ps x y + ev ps x z + ev ps y z) + inn ps x y s
def row (ps : List Pr) (x : Str) : List Str → Int
  | [] => 0
  | y :: s => inn ps x y s + row ps x s
theorem drop_next {α : Type} {l : List α} {i : Nat} {x : α} (h : l[i]? = some x) : l.drop i = x :: l.drop (i + 1) := by
  obtain ⟨h1, h2⟩ := List.getElem?_eq_some_iff.mp h
  rw [List.drop_eq_getElem_cons h1, h2]
def Atom (v : V) : Prop := (∃ i, v = .int i) ∨ (∃ x, v = .str x) ∨ ∃ b, v = .bl b
/-- the same data, at most n deep -/
inductive Sm (H : Hp) : Nat → V → V → Prop
  | atom {v : V} (n : Nat) (h : Atom v) : Sm H n v v
  | lst {n : Nat} {a b : Addr} {xs ys : List V} (ha : H a = some (.lst xs)) (hb : H b = some (.lst ys)) (l : xs.length = ys.length) (few : xs.length ≤ 100) (h : ∀ (i : Nat) x y, xs[i]? = some x → ys[i]? = some y → Sm H n x y) : Sm H (n + 1) (.ref a) (.ref b)
  | tup {n : Nat} {a b : Addr} {xs ys : List V} (ha : H a = some (.tup xs)) (hb : H b = some (.tup ys)) (l : xs.length = ys.length) (few : xs.length ≤ 100) (h : ∀ (i : Nat) x y, xs[i]? = some x → ys[i]? = some y → Sm H n x y) : Sm H (n + 1) (.ref a) (.ref b)
  | dct {n : Nat} {a b : Addr} {xs : List Str} {vs : List V} (ha : H a = some (.dK (dkv xs vs))) (hb : H b = some (.dK (dkv xs vs))) (ne : a ≠ b) (l : vs.length = xs.length) (few : xs.length ≤ 100) (nd : xs.Nodup) (h : ∀ v ∈ vs, Atom v) : Sm H (n + 2) (.ref a) (.ref b)
theorem Sm.same {H H' : Hp} (s : Same H H') : ∀ {n : Nat} {x y : V}, Sm H n x y → Sm H' n x y := by
  intro n x y h
  induction h with
  | atom n h => exact .atom n h
  | lst ha hb l few _ ih => exact .lst (s _ _ ha) (s _ _ hb) l few ih
  | tup ha hb l few _ ih => exact .tup (s _ _ ha) (s _ _ hb) l few ih
  | dct ha hb ne l few nd h => exact .dct (s _ _ ha) (s _ _ hb) ne l few nd h
def spExact (n : Nat) : Sp := fun vs H Q _ => ∃ x y : V, vs = [x, y] ∧ Sm H n x y ∧ ∀ H', Same H H' → Q (.bl true) H'
theorem kit2 {K : PySem.W.Frag} {a : String} {b c : Bool} (h1 : kitB a "list" = some b) (h2 : kitB a "tuple" = some c) : PySem.W.kitAny K (.type a) [.type "list", .type "tuple"] = some (b || c) := by
  cases b with
  | true => exact kitAny_cons (kit_ty h1) (fun z => nomatch z) fun _ => rfl
  | false =>
    refine kitAny_cons (kit_ty h1) (fun _ => ?_) (fun z => nomatch z)
    cases c with
    | true => exact kitAny_cons (kit_ty h2) (fun z => nomatch z) fun _ => rfl
    | false => exact kitAny_cons (kit_ty h2) (fun _ => rfl) (fun z => nomatch z)
/-- the class of a plain thing, and what isinstance says of it -/
structure Cl (K : PySem.W.Frag) (H : Hp) (v : V) (t : String) (l u d i b : Bool) : Prop where
  ty : TyX K H v (.type t)
  l : kitB t "list" = some l
  u : kitB t "tuple" = some u
  d : kitB t "dict" = some d
  i : kitB t "int" = some i
  b : kitB t "bool" = some b
theorem atom_cl {K : PySem.W.Frag} {H : Hp} {v : V} (h : Atom v) : ∃ t i b, Cl K H v t false false false i b := by
  rcases h with ⟨z, rfl⟩ | ⟨z, rfl⟩ | ⟨z, rfl⟩
  · exact ⟨"int", true, false, .base (.int z), by decide +kernel, by decide +kernel, by decide +kernel, by decide +kernel, by decide +kernel⟩
  · exact ⟨"str", false, false, .base (.str z), by decide +kernel, by decide +kernel, by decide +kernel, by decide +kernel, by decide +kernel⟩
  · exact ⟨"bool", true, true, .base (.bl z), by decide +kernel, by decide +kernel, by decide +kernel, by decide +kernel, by decide +kernel⟩
theorem atom_flat {v : V} (h : Atom v) : scal v v = true := by
  rcases h with ⟨z, rfl⟩ | ⟨z, rfl⟩ | ⟨z, rfl⟩ <;> rfl
theorem ok_exact0 {f : Addr} {fd : FuncData} (F : Fun K "_law_exact" "_law_exact" s_exact f fd) (T : Bt mg) : FnOk P w K mg base CX0 1 f fd ["_law_mine", "_law_theirs"] (spExact 0) := by
  refine F.ok c_exact (fun vs H Q E h => ?_) (fun cdv A outer s H vs Q E hr h => ?_)
  · obtain ⟨_, _, rfl, _⟩ := h
    rfl
  · obtain ⟨x, y, rfl, sm, k⟩ := h
    refine ⟨_, pss_cons (ps_if (pt_val (pe_callB call_isiT (by rfl) T.isi (by decide +kernel) (pa_cons (pv 0) (pa_cons (pe_tup (pa_cons (pe_bltn (v := .ty "list") (by rfl) T.list (by decide +kernel) rfl) (pa_cons (pe_bltn (v := .ty "tuple") (by rfl) T.tuple (by decide +kernel) rfl) pa_nil))) pa_nil)))) pss_never pss_nil)
      (pss_cons (ps_if (pt_val (pe_callB call_isi (by rfl) T.isi (by decide +kernel) (pa_cons (pv 0) (pa_cons (pe_bltn (v := .ty "dict") (by rfl) T.dict (by decide +kernel) rfl) pa_nil)))) pss_never pss_nil)
      (pss_cons (ps_set (i := 2) c_exact.nd rfl (Or.inl rfl) (pe_cmpR op_eq (pe_callB call_isi (by rfl) T.isi (by decide +kernel) (pa_cons (pv 0) (pa_cons (pe_bltn (v := .ty "int") (by rfl) T.int (by decide +kernel) rfl) pa_nil))) (pe_callB call_isi (by rfl) T.isi (by decide +kernel) (pa_cons (pv 1) (pa_cons (pe_bltn (v := .ty "int") (by rfl) T.int (by decide +kernel) rfl) pa_nil))) (nomark _)))
      (pss_one (ps_ret (pe_and (pv 2) (pe_and (pe_cmpR op_eq (pe_callB call_isi (by rfl) T.isi (by decide +kernel) (pa_cons (pv 0) (pa_cons (pe_bltn (v := .ty "bool") (by rfl) T.bool (by decide +kernel) rfl) pa_nil))) (pe_callB call_isi (by rfl) T.isi (by decide +kernel) (pa_cons (pv 1) (pa_cons (pe_bltn (v := .ty "bool") (by rfl) T.bool (by decide +kernel) rfl) pa_nil))) (nomark _))
        (pe_one (pe_cmpR op_eq (pv 0) (pv 1) (nomark _))))))))), ?_⟩
    cases sm with
    | atom _ ha =>
      obtain ⟨t, i, b, C⟩ := atom_cl (K := K) (H := H) ha
      refine ⟨_, rfl, by show 2 ≤ sizeLine; decide, fun T1 hT1 => ?_⟩
      obtain ⟨t', i', b', C'⟩ := atom_cl (K := K) (H := upd H T1 (.tup [.ty "list", .ty "tuple"])) ha
      refine ⟨_, T1, _, _, _, _, rfl, upd_same, .cons (.ty "list") (.cons (.ty "tuple") .nil), C'.ty, kit2 C'.l C'.u, _, rfl, iteF ?_⟩
      refine ⟨_, rfl, _, _, _, _, _, rfl, .ty "dict", C'.ty, kit_ty C'.d, _, rfl, iteF ?_⟩
      refine ⟨_, rfl, _, _, _, _, _, rfl, .ty "int", C'.ty, kit_ty C'.i, _, rfl, _, _, _, _, _, rfl, .ty "int", C'.ty, kit_ty C'.i, rfl, ?_⟩
      refine ⟨_, rfl, _, rfl, ite_t (decide_eq_true rfl) ?_⟩
      refine ⟨_, rfl, _, _, _, _, _, rfl, .ty "bool", C'.ty, kit_ty C'.b, _, rfl, _, _, _, _, _, rfl, .ty "bool", C'.ty, kit_ty C'.b, rfl, _, rfl, ite_t (decide_eq_true rfl) ?_⟩
      refine ⟨_, rfl, _, rfl, atom_flat ha, ?_⟩
      rw [decide_eq_true rfl]
      exact k _ (same_new hT1)
theorem walk_zipT {a b : Addr} {xs ys : List V} {n : Nat} (h1 : xs.length = n) (h2 : ys.length = n) : Walk (RZ.ItzT K a b) n (fun H => SqT K H a xs ∧ SqT K H b ys) (YPair (fun i => xs[i]?) (fun i => ys[i]?)) := by
  refine ⟨fun i H hi q => ⟨xs, ys, xs[i]'(by omega), ys[i]'(by omega), q.1, q.2, List.getElem?_eq_getElem _, List.getElem?_eq_getElem _⟩, fun H q => ⟨xs, ys, q.1, q.2, .inl (by omega)⟩, ?_⟩
  rintro i H v H' hi q ⟨T0, x, y, e1, e2, e3, e4, e5⟩
  exact ⟨T0, x, y, e1, e2, e3, e4 xs q.1, e5 ys q.2⟩
theorem ok_exactS {f : Addr} {fd : FuncData} {m : Nat} (F : Fun K "_law_exact" "_law_exact" s_exact f fd) (T : Bt mg) (mE : mg "_law_exact" = some (.ref f)) (bE : Binds K fd ["_law_mine", "_law_theirs"] []) (GE : FnOk P w K mg base CX0 (m + 1) f fd ["_law_mine", "_law_theirs"] (spExact m)) :
    FnOk P w K mg base CX0 (m + 2) f fd ["_law_mine", "_law_theirs"] (spExact (m + 1)) := by
  refine F.ok c_exact (fun vs H Q E h => ?_) (fun cdv A outer s H vs Q E hr h => ?_)
  · obtain ⟨_, _, rfl, _⟩ := h
    rfl
  · obtain ⟨x, y, rfl, sm, k⟩ := h
    have hu := hu_of hr
    refine ⟨_, pss_cons (ps_if (pt_val (pe_callB call_isiT (by rfl) T.isi (by decide +kernel) (pa_cons (pv 0) (pa_cons (pe_tup (pa_cons (pe_bltn (v := .ty "list") (by rfl) T.list (by decide +kernel) rfl) (pa_cons (pe_bltn (v := .ty "tuple") (by rfl) T.tuple (by decide +kernel) rfl) pa_nil))) pa_nil))))
        (pss_cons (ps_set (i := 2) c_exact.nd rfl (Or.inl rfl) (pe_and (pe_cmpR op_eq (pe_callB call_isi (by rfl) T.isi (by decide +kernel) (pa_cons (pv 1) (pa_cons (pe_bltn (v := .ty "list") (by rfl) T.list (by decide +kernel) rfl) pa_nil))) (pe_callB call_isi (by rfl) T.isi (by decide +kernel) (pa_cons (pv 0) (pa_cons (pe_bltn (v := .ty "list") (by rfl) T.list (by decide +kernel) rfl) pa_nil))) (nomark _)) (pe_one (pe_cmpR op_eq (pe_callB call_isi (by rfl) T.isi (by decide +kernel) (pa_cons (pv 1) (pa_cons (pe_bltn (v := .ty "tuple") (by rfl) T.tuple (by decide +kernel) rfl) pa_nil))) (pe_callB call_isi (by rfl) T.isi (by decide +kernel) (pa_cons (pv 0) (pa_cons (pe_bltn (v := .ty "tuple") (by rfl) T.tuple (by decide +kernel) rfl) pa_nil))) (nomark _)))))
        (pss_one (ps_ret (pe_and (pv 2) (pe_and (pe_cmpR op_eq (pe_callB call_len_seq (by rfl) T.len PySem.boot_len (pa_cons (pv 0) pa_nil)) (pe_callB call_len_seq (by rfl) T.len PySem.boot_len (pa_cons (pv 1) pa_nil)) (nomark _)) (pe_one (pe_callB (cr_all rfl) (by rfl) T.all (by decide +kernel) (pa_cons (pe_lc (own := [("_law_a", 3), ("_law_b", 4)]) (g := gTup K 2 (gCons (gName 3) (gCons (gName 4) gNil))) (tt := tYes) rfl c_exact.nd (RZ.pi_zipA (by rfl) T.zip (pa_cons (pv 0) (pa_cons (pv 1) pa_nil)))
          (blkOk_by (N := ["_law_mine", "_law_theirs", "_law_alike", "_law_a", "_law_b", "_law_key"]) (sc := defScope s_exact) (by decide +kernel)) (fun _ _ _ _ _ => pg_tup rfl (pgs_cons (pg_name (i := 3) c_exact.nd rfl (Or.inl rfl)) (pgs_cons (pg_name (i := 4) c_exact.nd rfl (Or.inl rfl)) pgs_nil))) (fun _ _ _ _ _ => pts_nil)
          (fun _ _ _ _ _ => pe_call GE hr rfl mE F.kp bE .nil pass0 (pa_cons (pv 3) (pa_cons (pv 4) pa_nil)))) pa_nil)))))))) pss_nil)
      (pss_cons (ps_if (pt_val (pe_callB call_isi (by rfl) T.isi (by decide +kernel) (pa_cons (pv 0) (pa_cons (pe_bltn (v := .ty "dict") (by rfl) T.dict (by decide +kernel) rfl) pa_nil))))
        (pss_cons (ps_set (i := 2) c_exact.nd rfl (Or.inl rfl) (pe_and (pe_callB call_isi (by rfl) T.isi (by decide +kernel) (pa_cons (pv 1) (pa_cons (pe_bltn (v := .ty "dict") (by rfl) T.dict (by decide +kernel) rfl) pa_nil))) (pe_one (pe_call GE hr rfl mE F.kp bE .nil pass0 (pa_cons (pe_callTy (call_listD rfl) (by rfl) T.list (by decide +kernel) (pa_cons (pv 0) pa_nil)) (pa_cons (pe_callTy (call_listD rfl) (by rfl) T.list (by decide +kernel) (pa_cons (pv 1) pa_nil)) pa_nil))))))
        (pss_one (ps_lock (ps_ret (pe_and (pv 2) (pe_one (pe_callB (cr_all rfl) (by rfl) T.all (by decide +kernel) (pa_cons (pe_lc (own := [("_law_key", 5)]) (g := gName 5) (tt := tYes) rfl c_exact.nd (pi_keys (pv 0))
          (blkOk_by (N := ["_law_mine", "_law_theirs", "_law_alike", "_law_a", "_law_b", "_law_key"]) (sc := defScope s_exact) (by decide +kernel)) (fun _ _ _ _ _ => pg_name (i := 5) c_exact.nd rfl (Or.inl rfl)) (fun _ _ _ _ _ => pts_nil)
          (fun _ _ _ _ _ => pe_call GE hr rfl mE F.kp bE .nil pass0 (pa_cons (pe_dget hu (pv 0) (pv 5) (fun _ _ => rfl)) (pa_cons (pe_dget hu (pv 1) (pv 5) (fun _ _ => rfl)) pa_nil)))) pa_nil)))))))) pss_nil)
      (pss_cons (ps_set (i := 2) c_exact.nd rfl (Or.inl rfl) (pe_cmpR op_eq (pe_callB call_isi (by rfl) T.isi (by decide +kernel) (pa_cons (pv 0) (pa_cons (pe_bltn (v := .ty "int") (by rfl) T.int (by decide +kernel) rfl) pa_nil))) (pe_callB call_isi (by rfl) T.isi (by decide +kernel) (pa_cons (pv 1) (pa_cons (pe_bltn (v := .ty "int") (by rfl) T.int (by decide +kernel) rfl) pa_nil))) (nomark _)))
      (pss_one (ps_ret (pe_and (pv 2) (pe_and (pe_cmpR op_eq (pe_callB call_isi (by rfl) T.isi (by decide +kernel) (pa_cons (pv 0) (pa_cons (pe_bltn (v := .ty "bool") (by rfl) T.bool (by decide +kernel) rfl) pa_nil))) (pe_callB call_isi (by rfl) T.isi (by decide +kernel) (pa_cons (pv 1) (pa_cons (pe_bltn (v := .ty "bool") (by rfl) T.bool (by decide +kernel) rfl) pa_nil))) (nomark _))
        (pe_one (pe_cmpR op_eq (pv 0) (pv 1) (nomark _))))))))), ?_⟩
    refine ⟨_, rfl, by show 2 ≤ sizeLine; decide, fun T1 hT1 => ?_⟩
    have s1 := same_new (o := .tup [.ty "list", .ty "tuple"]) hT1
    have sm1 := sm.same s1
    have hT := (upd_same : upd H T1 (.tup [.ty "list", .ty "tuple"]) T1 = some (.tup [.ty "list", .ty "tuple"]))
    generalize upd H T1 (.tup [.ty "list", .ty "tuple"]) = H1 at s1 sm1 hT ⊢
    clear sm
    cases sm1 with
    | atom _ ha =>
      obtain ⟨t', i', b', C'⟩ := atom_cl (K := K) (H := H1) ha
      refine ⟨_, T1, _, _, _, _, rfl, hT, .cons (.ty "list") (.cons (.ty "tuple") .nil), C'.ty, kit2 C'.l C'.u, _, rfl, iteF ?_⟩
      refine ⟨_, rfl, _, _, _, _, _, rfl, .ty "dict", C'.ty, kit_ty C'.d, _, rfl, iteF ?_⟩
      refine ⟨_, rfl, _, _, _, _, _, rfl, .ty "int", C'.ty, kit_ty C'.i, _, rfl, _, _, _, _, _, rfl, .ty "int", C'.ty, kit_ty C'.i, rfl, ?_⟩
      refine ⟨_, rfl, _, rfl, ite_t (decide_eq_true rfl) ?_⟩
      refine ⟨_, rfl, _, _, _, _, _, rfl, .ty "bool", C'.ty, kit_ty C'.b, _, rfl, _, _, _, _, _, rfl, .ty "bool", C'.ty, kit_ty C'.b, rfl, _, rfl, ite_t (decide_eq_true rfl) ?_⟩
      refine ⟨_, rfl, _, rfl, atom_flat ha, ?_⟩
      rw [decide_eq_true rfl]
      exact k _ s1
    | @lst _ a b xs ys ha hb l few h =>
      have c1 : Cl K H1 (.ref a) "list" true false false false false := ⟨.base (.lst ha), by decide +kernel, by decide +kernel, by decide +kernel, by decide +kernel, by decide +kernel⟩
      have c2 : Cl K H1 (.ref b) "list" true false false false false := ⟨.base (.lst hb), by decide +kernel, by decide +kernel, by decide +kernel, by decide +kernel, by decide +kernel⟩
      refine ⟨_, T1, _, _, _, _, rfl, hT, .cons (.ty "list") (.cons (.ty "tuple") .nil), c1.ty, kit2 c1.l c1.u, _, rfl, iteT ?_⟩
      refine ⟨_, rfl, _, _, _, _, _, rfl, .ty "list", c2.ty, kit_ty c2.l, _, rfl, _, _, _, _, _, rfl, .ty "list", c1.ty, kit_ty c1.l, rfl, _, rfl, ite_t (decide_eq_true rfl) ?_⟩
      refine ⟨_, rfl, _, _, _, _, _, rfl, .ty "tuple", c2.ty, kit_ty c2.u, _, rfl, _, _, _, _, _, rfl, .ty "tuple", c1.ty, kit_ty c1.u, rfl, ?_⟩
      refine ⟨_, rfl, _, rfl, ite_t (decide_eq_true rfl) ?_⟩
      refine ⟨_, rfl, a, _, rfl, .inl (SqL.of ha), _, rfl, b, _, rfl, .inl (SqL.of hb), rfl, _, rfl, ite_t (decide_eq_true (by rw [l])) ?_⟩
      refine ⟨_, rfl, _, rfl, a, b, xs, ys, rfl, .inl ⟨SqL.of ha, SqL.of hb, fun D hD => ?_⟩⟩
      refine lc_it (walk_zip (K := K) (a := a) (b := b) (xs := xs) (ys := ys) (n := xs.length) (by omega)) (fun i H' => Same H1 H' ∧ H' D = some (.lst (trues i))) ⟨same_new hD, upd_same⟩ (fun i H' _ z => ⟨SqL.of (z.1 _ _ ha), SqL.of (z.1 _ _ hb)⟩) ?_ ?_
      · rintro i v H2 H3 hi ⟨s2, hd⟩ ⟨T0, p, q, rfl, nT, rfl, ep, eq⟩
        refine ⟨T0, _, rfl, SqT.of upd_same, rfl, _, _, rfl, _, _, rfl, rfl, rfl, ?_⟩
        have s3 := same_updN (o := .tup [p, q]) s2 nT
        refine ⟨_, rfl, _, rfl, p, q, rfl, (h i p q ep eq).same s3, fun H4 s4 => ?_⟩
        have hd4 := s4 _ _ (show upd H2 T0 (.tup [p, q]) D = some (.lst (trues i)) by rw [upd_ne (ne_of_none hd nT)]; exact hd)
        refine ⟨_, hd4, by rw [trues_len, sizeLine_eq]; omega, same_over (s3.trans s4) hD, ?_⟩
        rw [upd_same, trues_next]
      · rintro H2 ⟨s2, hd⟩
        refine ⟨D, _, rfl, SqL.of hd, ?_⟩
        rw [trues_all]
        exact k H2 (s1.trans s2)
    | @tup _ a b xs ys ha hb l few h =>
      have c1 : Cl K H1 (.ref a) "tuple" false true false false false := ⟨.base (.tup ha), by decide +kernel, by decide +kernel, by decide +kernel, by decide +kernel, by decide +kernel⟩
      have c2 : Cl K H1 (.ref b) "tuple" false true false false false := ⟨.base (.tup hb), by decide +kernel, by decide +kernel, by decide +kernel, by decide +kernel, by decide +kernel⟩
      refine ⟨_, T1, _, _, _, _, rfl, hT, .cons (.ty "list") (.cons (.ty "tuple") .nil), c1.ty, kit2 c1.l c1.u, _, rfl, iteT ?_⟩
      refine ⟨_, rfl, _, _, _, _, _, rfl, .ty "list", c2.ty, kit_ty c2.l, _, rfl, _, _, _, _, _, rfl, .ty "list", c1.ty, kit_ty c1.l, rfl, _, rfl, ite_t (decide_eq_true rfl) ?_⟩
      refine ⟨_, rfl, _, _, _, _, _, rfl, .ty "tuple", c2.ty, kit_ty c2.u, _, rfl, _, _, _, _, _, rfl, .ty "tuple", c1.ty, kit_ty c1.u, rfl, ?_⟩
      refine ⟨_, rfl, _, rfl, ite_t (decide_eq_true rfl) ?_⟩
      refine ⟨_, rfl, a, _, rfl, .inr (SqT.of ha), _, rfl, b, _, rfl, .inr (SqT.of hb), rfl, _, rfl, ite_t (decide_eq_true (by rw [l])) ?_⟩
      refine ⟨_, rfl, _, rfl, a, b, xs, ys, rfl, .inr ⟨SqT.of ha, SqT.of hb, fun D hD => ?_⟩⟩
      refine lc_it (walk_zipT (K := K) (a := a) (b := b) (xs := xs) (ys := ys) (n := xs.length) rfl l.symm) (fun i H' => Same H1 H' ∧ H' D = some (.lst (trues i))) ⟨same_new hD, upd_same⟩ (fun i H' _ z => ⟨SqT.of (z.1 _ _ ha), SqT.of (z.1 _ _ hb)⟩) ?_ ?_
      · rintro i v H2 H3 hi ⟨s2, hd⟩ ⟨T0, p, q, rfl, nT, rfl, ep, eq⟩
        refine ⟨T0, _, rfl, SqT.of upd_same, rfl, _, _, rfl, _, _, rfl, rfl, rfl, ?_⟩
        have s3 := same_updN (o := .tup [p, q]) s2 nT
        refine ⟨_, rfl, _, rfl, p, q, rfl, (h i p q ep eq).same s3, fun H4 s4 => ?_⟩
        have hd4 := s4 _ _ (show upd H2 T0 (.tup [p, q]) D = some (.lst (trues i)) by rw [upd_ne (ne_of_none hd nT)]; exact hd)
        refine ⟨_, hd4, by rw [trues_len, sizeLine_eq]; omega, same_over (s3.trans s4) hD, ?_⟩
        rw [upd_same, trues_next]
      · rintro H2 ⟨s2, hd⟩
        refine ⟨D, _, rfl, SqL.of hd, ?_⟩
        rw [trues_all]
        exact k H2 (s1.trans s2)
    | @dct n a b xs vs ha hb ne l few nd h =>
      have c1 : Cl K H1 (.ref a) "dict" false false true false false := ⟨.base (.dK ha), by decide +kernel, by decide +kernel, by decide +kernel, by decide +kernel, by decide +kernel⟩
      have c2 : Cl K H1 (.ref b) "dict" false false true false false := ⟨.base (.dK hb), by decide +kernel, by decide +kernel, by decide +kernel, by decide +kernel, by decide +kernel⟩
      refine ⟨_, T1, _, _, _, _, rfl, hT, .cons (.ty "list") (.cons (.ty "tuple") .nil), c1.ty, kit2 c1.l c1.u, _, rfl, iteF ?_⟩
      refine ⟨_, rfl, _, _, _, _, _, rfl, .ty "dict", c1.ty, kit_ty c1.d, _, rfl, iteT ?_⟩
      refine ⟨_, rfl, _, _, _, _, _, rfl, .ty "dict", c2.ty, kit_ty c2.d, _, rfl, iteT ?_⟩
      have ekeys : (dkv xs vs).map (fun kv => kV kv.1) = xs.map V.str := by
        unfold dkv
        rw [List.map_map]
        have : ((xs.zip vs).map Prod.fst).map V.str = xs.map V.str := by rw [List.map_fst_zip (by omega)]
        rw [← this, List.map_map]
        rfl
      refine ⟨_, rfl, a, _, rfl, .inl ha, fun L hL => ?_⟩
      rw [ekeys]
      have s2 := same_new (o := .lst (xs.map V.str)) hL
      refine ⟨_, rfl, b, _, rfl, .inl (s2 _ _ hb), fun M hM => ?_⟩
      rw [ekeys]
      have s3 := same_updN (o := .lst (xs.map V.str)) s2 hM
      refine ⟨_, _, rfl, .lst (n := n) (xs := xs.map V.str) (ys := xs.map V.str) (by rw [upd_ne (ne_of_none upd_same hM), upd_same]) upd_same rfl (by rw [List.length_map]; exact few) (fun i p q hp hq => ?_), fun H4 s4 => ?_⟩
      · have : p = q := Option.some.inj (hp.symm.trans hq)
        subst this
        rw [List.getElem?_map] at hp
        obtain ⟨z, _, rfl⟩ := Option.map_eq_some_iff.mp hp
        exact .atom _ (.inr (.inl ⟨z, rfl⟩))
      have s14 := s3.trans s4
      have ha4 := s14 _ _ ha
      have hb4 := s14 _ _ hb
      refine ⟨a, _, ha4, True.intro, fun od => ?_⟩
      have hbl : upd H4 a (.frz od (.dK (dkv xs vs))) b = some (.dK (dkv xs vs)) := by rw [upd_ne (Ne.symm ne)]; exact hb4
      refine ⟨_, rfl, _, rfl, iteT ?_⟩
      refine ⟨_, rfl, a, od, rfl, .inl ⟨_, upd_same, fun D hD => ?_⟩⟩
      have Da : D ≠ a := fun z => by
        rw [z, upd_same] at hD
        cases hD
      refine lc_it (walk_keys (d := a) (o := od) (kvs := dkv xs vs)) (fun i H' => Same (upd H4 a (.frz od (.dK (dkv xs vs)))) H' ∧ H' D = some (.lst (trues i))) ⟨same_new hD, upd_same⟩ (fun i H' _ z => z.1 _ _ upd_same) ?_ ?_
      · rintro i v H5 _ hi ⟨s5, hd⟩ ⟨rfl, ky, vv, ek, rfl⟩
        rw [dkv_len l] at hi
        obtain ⟨x, v', hx, hv, e⟩ := dkv_mem ek
        obtain ⟨rfl, rfl⟩ := Prod.mk.inj e
        have g1 := dkv_get nd hx hv
        refine ⟨rfl, _, rfl, _, rfl, a, vv, rfl, .inl ⟨_, Sum.inr x, .inr ⟨od, s5 _ _ upd_same⟩, rfl, g1.symm⟩, _, rfl, _, rfl, b, vv, rfl, .inl ⟨_, Sum.inr x, .inl (s5 _ _ hbl), rfl, g1.symm⟩, ?_⟩
        refine ⟨_, _, rfl, .atom _ (h vv (List.mem_of_getElem? hv)), fun H6 s6 => ?_⟩
        refine ⟨_, s6 _ _ hd, by rw [trues_len, sizeLine_eq]; omega, same_over (s5.trans s6) hD, ?_⟩
        rw [upd_same, trues_next]
      · rintro H5 ⟨s5, hd⟩
        refine ⟨D, _, rfl, SqL.of hd, s5 _ _ upd_same, ?_⟩
        rw [trues_all]
        refine k _ fun q o e => ?_
        have e4 := s14 _ _ (s1 _ _ e)
        by_cases z : q = a
        · subst z
          rw [upd_same]
          exact ha4.symm.trans e4
        · rw [upd_ne z]
          exact s5 _ _ (by rw [upd_ne z]; exact e4)
theorem ok_exact {f : Addr} {fd : FuncData} (F : Fun K "_law_exact" "_law_exact" s_exact f fd) (T : Bt mg) (mE : mg "_law_exact" = some (.ref f)) (bE : Binds K fd ["_law_mine", "_law_theirs"] []) : ∀ n, FnOk P w K mg base CX0 (n + 1) f fd ["_law_mine", "_law_theirs"] (spExact n)
  | 0 => ok_exact0 F T
  | n + 1 => ok_exactS F T mE bE (ok_exact F T mE bE n)
theorem sm_strs {H : Hp} {a b : Addr} {xs : List Str} (n : Nat) (ha : H a = some (.lst (xs.map V.str))) (hb : H b = some (.lst (xs.map V.str))) (few : xs.length ≤ 100) : Sm H (n + 1) (.ref a) (.ref b) :=
  .lst ha hb rfl (by rw [List.length_map]; exact few) fun i p q hp hq => by
    have e : p = q := Option.some.inj (hp.symm.trans hq)
    subst e
    rw [List.getElem?_map] at hp
    obtain ⟨z, _, rfl⟩ := Option.map_eq_some_iff.mp hp
    exact .atom _ (.inr (.inl ⟨z, rfl⟩))
theorem sm_pair {H : Hp} {a b : Addr} {p : Pr} (n : Nat) (ha : H a = some (.tup [.str p.1, .str p.2])) (hb : H b = some (.tup [.str p.1, .str p.2])) : Sm H (n + 1) (.ref a) (.ref b) :=
  .tup ha hb rfl (by show 2 ≤ 100; decide) fun i u v hp hq => by
    have e : u = v := Option.some.inj (hp.symm.trans hq)
    subst e
    have m := List.mem_of_getElem? hp
    rcases List.mem_cons.mp m with rfl | m
    · exact .atom _ (.inr (.inl ⟨_, rfl⟩))
    · rw [List.mem_singleton.mp m]
      exact .atom _ (.inr (.inl ⟨_, rfl⟩))
theorem sm_prs {H : Hp} {a b : Addr} {ps : List Pr} (n : Nat) (ha : PwAt H a ps) (hb : PwAt H b ps) (few : ps.length ≤ 100) : Sm H (n + 2) (.ref a) (.ref b) := by
  obtain ⟨Ts, h1, t1⟩ := ha
  obtain ⟨Us, h2, t2⟩ := hb
  have l1 := t1.1
  have l2 := t2.1
  rw [List.length_map] at l1 l2
  refine .lst h1 h2 (by rw [List.length_map, List.length_map, l1, l2]) (by rw [List.length_map, l1]; exact few) fun i u v hu hv => ?_
  rw [List.getElem?_map] at hu hv
  obtain ⟨T, hT, rfl⟩ := Option.map_eq_some_iff.mp hu
  obtain ⟨U, hU, rfl⟩ := Option.map_eq_some_iff.mp hv
  have il := (List.getElem?_eq_some_iff.mp hT).1
  obtain ⟨p, hp⟩ : ∃ p, ps[i]? = some p := ⟨_, List.getElem?_eq_getElem (by omega)⟩
  exact sm_pair n (t1.2 i T (tv p) hT (by rw [List.getElem?_map, hp]; rfl)) (t2.2 i U (tv p) hU (by rw [List.getElem?_map, hp]; rfl))
/-- a list of things at R, one for each of xs, each as G says -/
def Each (H : Hp) (R : Addr) (xs : List Str) (G : Str → Addr → Hp → Prop) : Prop := ∃ Ls : List Addr, H R = some (.lst (Ls.map V.ref)) ∧ Ls.length = xs.length ∧ ∀ (i : Nat) x L, xs[i]? = some x → Ls[i]? = some L → G x L H
theorem Each.same {H H' : Hp} {R : Addr} {xs : List Str} {G : Str → Addr → Hp → Prop} (h : Each H R xs G) (s : Same H H') (mono : ∀ x L, G x L H → G x L H') : Each H' R xs G := by
  obtain ⟨Ls, h1, h2, h3⟩ := h
  exact ⟨Ls, s _ _ h1, h2, fun i x L e1 e2 => mono x L (h3 i x L e1 e2)⟩
def psum (h : Str → Str → Int) : List Str → Int
  | [] => 0
  | y :: s => (s.map (h y)).sum + psum h s
/-- what a triple is worth: its paths of two, by their middle -/
def GG (F : Str → Str → Int) (x y z : Str) : Int := F x y * F x z + (F y x * F y z + F z x * F z y)
def TT (F : Str → Str → Int) : List Str → Int
  | [] => 0
  | x :: r => psum (GG F x) r + TT F r
/-- a tuple of the numbers of kinds, written at the top -/
def KT (K : PySem.W.Frag) (t : Addr) : Prop := ∀ H : Hp, SqT K H t [.int 0, .int 1, .int 2]
/-- a locked dictionary from the people to lists -/
def CirF (H : Hp) (D : Addr) (xs : List Str) (Ls : List Addr) (fs : Str → List Str) : Prop := (∃ o, H D = some (.frz o (.dK (dkv xs (Ls.map V.ref))))) ∧ Ls.length = xs.length ∧ ∀ (i : Nat) x L, xs[i]? = some x → Ls[i]? = some L → H L = some (.lst ((fs x).map V.str))
theorem CirF.same {H H' : Hp} {D : Addr} {xs : List Str} {Ls : List Addr} {fs : Str → List Str} (h : CirF H D xs Ls fs) (s : Same H H') : CirF H' D xs Ls fs := by
  obtain ⟨⟨o, a⟩, b, c⟩ := h
  exact ⟨⟨o, s _ _ a⟩, b, fun i x L e1 e2 => s _ _ (c i x L e1 e2)⟩
theorem CirF.of {H : Hp} {D : Addr} {xs : List Str} {Ls : List Addr} {fs : Str → List Str} (h : CirAt H D xs Ls fs) (o : _) : CirF (upd H D (.frz o (.dK (dkv xs (Ls.map V.ref))))) D xs Ls fs := by
  refine ⟨⟨o, upd_same⟩, h.2.1, fun i x L e1 e2 => ?_⟩
  have e := h.2.2.2 i x L e1 e2
  have n : L ≠ D := fun z => by
    rw [z, h.1] at e
    cases e
  rw [upd_ne n]
  exact e
def spIsCnt : Sp := fun vs H Q _ => ∃ i : Int, vs = [.int i] ∧ 0 ≤ i ∧ Q (.bl true) H
theorem ok_is_count {f : Addr} {fd : FuncData} (F : Fun K "is_count" "is_count" sp_is_count f fd) (T : Bt mg) : FnOk P w K mg base CX0 1 f fd ["value"] spIsCnt := by
  refine F.ok cp_is_count (fun vs H Q E h => ?_) (fun cdv A outer s H vs Q E hr h => ?_)
  · obtain ⟨_, rfl, _⟩ := h
    rfl
  · obtain ⟨i, rfl, h0, k⟩ := h
    refine ⟨_, pss_one (ps_ret (pe_and (pe_callB call_isi (by rfl) T.isi (by decide +kernel) (pa_cons (pv 0) (pa_cons (pe_bltn (v := .ty "int") (by rfl) T.int (by decide +kernel) rfl) pa_nil)))
      (pe_and (pe_not (pe_callB call_isi (by rfl) T.isi (by decide +kernel) (pa_cons (pv 0) (pa_cons (pe_bltn (v := .ty "bool") (by rfl) T.bool (by decide +kernel) rfl) pa_nil))))
      (pe_one (pe_cmpR op_ge (pv 0) pe_int (nomark _)))))), ?_⟩
    refine ⟨_, rfl, _, _, _, _, _, rfl, .ty "int", .base (.int i), kit_ty (a := "int") (r := true) (by decide +kernel), _, rfl, iteT ?_⟩
    refine ⟨_, rfl, _, _, _, _, _, rfl, .ty "bool", .base (.int i), kit_ty (a := "int") (r := false) (by decide +kernel), _, rfl, _, rfl, iteT ?_⟩
    refine ⟨_, rfl, _, _, rfl, rfl, ?_⟩
    show Q (.bl (decide (0 ≤ i))) H
    rw [decide_eq_true h0]
    exact k
inductive Dt
  | atm (v : V)
  | ls (l : List Dt)
  | tp (l : List Dt)
inductive Is (A : Addr → Prop) (H : Hp) : Nat → Dt → V → Prop
  | atm {v : V} (n : Nat) (h : Atom v) : Is A H n (.atm v) v
  | ls {n : Nat} {a : Addr} {vs : List V} {ds : List Dt} (ha : H a = some (.lst vs)) (hA : A a) (l : vs.length = ds.length) (few : ds.length ≤ 100) (h : ∀ (i : Nat) v d, vs[i]? = some v → ds[i]? = some d → Is A H n d v) : Is A H (n + 1) (.ls ds) (.ref a)
  | tp {n : Nat} {a : Addr} {vs : List V} {ds : List Dt} (ha : H a = some (.tup vs)) (l : vs.length = ds.length) (few : ds.length ≤ 100) (h : ∀ (i : Nat) v d, vs[i]? = some v → ds[i]? = some d → Is A H n d v) : Is A H (n + 1) (.tp ds) (.ref a)
theorem Is.same {A : Addr → Prop} {H H' : Hp} (s : Same H H') {n : Nat} {d : Dt} {v : V} (h : Is A H n d v) : Is A H' n d v := by
  induction h with
  | atm n h => exact .atm n h
  | ls ha hA l few _ ih => exact .ls (s _ _ ha) hA l few ih
  | tp ha l few _ ih => exact .tp (s _ _ ha) l few ih
theorem Is.keep {A : Addr → Prop} {H : Hp} {R : Addr} {xs ys : List V} (hR : H R = some (.lst xs)) (nA : ¬ A R) {n : Nat} {d : Dt} {v : V} (h : Is A H n d v) : Is A (upd H R (.lst ys)) n d v := by
  induction h with
  | atm n h => exact .atm _ h
  | ls ha hA l few _ ih => exact .ls (by rw [upd_ne fun z => nA (by rw [← z]; exact hA)]; exact ha) hA l few ih
  | tp ha l few _ ih =>
    refine .tp ?_ l few ih
    rw [upd_ne fun z => ?_]
    · exact ha
    · rw [z, hR] at ha
      cases ha
/-- the list R under way, its items fresh since H0 -/
def Bld (H0 : Hp) (R : Addr) (H : Hp) (n : Nat) (ds : List Dt) : Prop := ∃ vs : List V, H R = some (.lst vs) ∧ vs.length = ds.length ∧ ∀ (i : Nat) v d, vs[i]? = some v → ds[i]? = some d → Is (fun a => H0 a = none) H n d v
theorem Bld.len {H0 : Hp} {R : Addr} {H : Hp} {n : Nat} {ds : List Dt} (b : Bld H0 R H n ds) : ∃ vs : List V, H R = some (.lst vs) ∧ vs.length = ds.length := by
  obtain ⟨vs, h, l, _⟩ := b
  exact ⟨vs, h, l⟩
abbrev Tr := Str × Str × Str
def LtT (a b : Tr) : Prop := Lt a.1 b.1 ∨ (a.1 = b.1 ∧ LtP a.2 b.2)
instance (a b : Tr) : Decidable (LtT a b) := inferInstanceAs (Decidable (_ ∨ _))
theorem LtT.no {a b : Tr} (h : LtT a b) : ¬ LtT b a := fun z => by
  rcases h with h | ⟨e, h⟩
  · rcases z with z | ⟨e, _⟩
    · exact Lt.irr _ (h.tr z)
    · rw [e] at h
      exact Lt.irr _ h
  · rcases z with z | ⟨_, z⟩
    · rw [e] at z
      exact Lt.irr _ z
    · exact LtP.irr _ (h.tr z)
theorem LtT.irr (a : Tr) : ¬ LtT a a := fun h => h.no h
theorem LtT.tr {a b c : Tr} (h : LtT a b) (k : LtT b c) : LtT a c := by
  rcases h with h | ⟨e, h⟩
  · rcases k with k | ⟨e2, _⟩
    · exact .inl (h.tr k)
    · exact .inl (by rw [← e2]; exact h)
  · rcases k with k | ⟨e2, k⟩
    · exact .inl (by rw [e]; exact k)
    · exact .inr ⟨e.trans e2, h.tr k⟩
theorem in_ints (x : Int) (xs : List Int) : inV (.int x) (xs.map V.int) = decide (x ∈ xs) := by
  unfold inV
  rw [List.any_map]
  induction xs with
  | nil => simp
  | cons y ys ih =>
    rw [List.any_cons, ih]
    show ((y == x) || decide (x ∈ ys)) = decide (x ∈ y :: ys)
    by_cases h : x = y
    · subst h
      simp
    · have h' : (y == x) = false := beq_eq_false_iff_ne.mpr (Ne.symm h)
      rw [h', Bool.false_or]
      exact decide_eq_decide.mpr ⟨fun z => List.mem_cons_of_mem _ z, fun z => by
        rcases List.mem_cons.mp z with e | z
        · exact absurd e h
        · exact z⟩
theorem flat_ints' (xs : List Int) : (xs.map V.int).all flatV = true := by
  rw [List.all_map]
  exact List.all_eq_true.mpr fun _ _ => rfl
/-- the kinds that a manner may count -/
def allK : List (List Int) := [[], [0], [1], [2], [0, 1], [0, 2], [1, 2], [0, 1, 2]]
/-- a manner: its kinds, whether their number has to be odd -/
abbrev Mn := List Int × Bool
def wordS (b : Bool) : Str := if b = true then "odd" else "even"
def MnAt (H : Hp) (t : Addr) (m : Mn) : Prop := ∃ u, H t = some (.tup [.ref u, .str (wordS m.2)]) ∧ H u = some (.tup (m.1.map V.int))
theorem MnAt.same {H H' : Hp} {t : Addr} {m : Mn} (h : MnAt H t m) (s : Same H H') : MnAt H' t m := by
  obtain ⟨u, a, b⟩ := h
  exact ⟨u, s _ _ a, s _ _ b⟩
/-- tuples of places of pairs -/
def PlAt (H : Hp) (D : Addr) (xs : List Str) (zs : List Pr) : Prop := ∃ Ts : List Addr, H D = some (.lst (Ts.map V.ref)) ∧ Ts.length = zs.length ∧ ∀ (k : Nat) T p, Ts[k]? = some T → zs[k]? = some p → ∃ i j : Nat, H T = some (.tup [.int (i : Int), .int (j : Int)]) ∧ xs[i]? = some p.1 ∧ xs[j]? = some p.2
theorem PlAt.same {H H' : Hp} {D : Addr} {xs : List Str} {zs : List Pr} (h : PlAt H D xs zs) (s : Same H H') : PlAt H' D xs zs := by
  obtain ⟨Ts, a, b, c⟩ := h
  exact ⟨Ts, s _ _ a, b, fun k T p e1 e2 => let ⟨i, j, x, y, z⟩ := c k T p e1 e2; ⟨i, j, s _ _ x, y, z⟩⟩
theorem walk_zipM {K : PySem.W.Frag} {a b : Addr} {xs ys : List V} {n : Nat} (h : n = min xs.length ys.length) : Walk (RZ.ItzT K a b) n (fun H => SqT K H a xs ∧ SqT K H b ys) (YPair (fun i => xs[i]?) (fun i => ys[i]?)) := by
  refine ⟨fun i H hi q => ⟨xs, ys, xs[i]'(by omega), ys[i]'(by omega), q.1, q.2, List.getElem?_eq_getElem _, List.getElem?_eq_getElem _⟩, fun H q => ⟨xs, ys, q.1, q.2, by omega⟩, ?_⟩
  rintro i H v H' hi q ⟨T0, x, y, e1, e2, e3, e4, e5⟩
  exact ⟨T0, x, y, e1, e2, e3, e4 xs q.1, e5 ys q.2⟩
def spAscI : Sp := fun vs H Q _ => ∃ (u : Addr) (ks : List Int), vs = [.ref u] ∧ H u = some (.tup (ks.map V.int)) ∧ ks.Pairwise (· < ·) ∧ ks.length ≤ 100 ∧ ∀ H', Same H H' → Q (.bl true) H'
def spBelow : Sp := fun vs H Q _ => ∃ (u : Addr) (e : Int) (ks : List Int), vs = [.ref u, .int e] ∧ H u = some (.tup (ks.map V.int)) ∧ ks.Pairwise (· < ·) ∧ ks.length ≤ 100 ∧ (∀ k ∈ ks, 0 ≤ k ∧ k < e) ∧ ∀ H', Same H H' → Q (.bl true) H'
def spIsMn : Sp := fun vs H Q _ => ∃ (t : Addr) (m : Mn), vs = [.ref t] ∧ MnAt H t m ∧ m.1 ∈ allK ∧ ∀ H', Same H H' → Q (.bl true) H'
def spChkM : Sp := fun vs H Q _ => ∃ (t : Addr) (m : Mn), vs = [.ref t] ∧ MnAt H t m ∧ m.1 ∈ allK ∧ ∀ H', Same H H' → Q .non H'
def spMany : Sp := fun vs H Q _ => ∃ n : Int, vs = [.int n] ∧ 1 ≤ n ∧ Q .non H
def WT (K : PySem.W.Frag) (t : Addr) : Prop := ∀ H : Hp, SqT K H t [.str ("even" : Str), .str ("odd" : Str)]
theorem allK_good {ks : List Int} (h : ks ∈ allK) : ks.Pairwise (· < ·) ∧ ks.length ≤ 3 ∧ ∀ k ∈ ks, 0 ≤ k ∧ k < 3 := by
  have a : (allK.all fun ks => decide (ks.Pairwise (· < ·)) && (decide (ks.length ≤ 3) && ks.all fun k => decide (0 ≤ k) && decide (k < 3))) = true := by decide +kernel
  have q := List.all_eq_true.mp a ks h
  rw [Bool.and_eq_true, Bool.and_eq_true] at q
  refine ⟨of_decide_eq_true q.1, of_decide_eq_true q.2.1, fun k hk => ?_⟩
  have z := List.all_eq_true.mp q.2.2 k hk
  rw [Bool.and_eq_true] at z
  exact ⟨of_decide_eq_true z.1, of_decide_eq_true z.2⟩
theorem ok_check_many {f : Addr} {fd : FuncData} (F : Fun K "check_many" "check_many" sp_check_many f fd) (CC : Has P w K mg base 1 "is_count" ["value"] spIsCnt) : FnOk P w K mg base CX0 2 f fd ["many"] spMany := by
  obtain ⟨f1, d1, G1, m1, k1, b1⟩ := CC
  refine F.ok cp_check_many (fun vs H Q E h => ?_) (fun cdv A outer s H vs Q E hr h => ?_)
  · obtain ⟨_, rfl, _⟩ := h
    rfl
  · obtain ⟨n, rfl, hn, k⟩ := h
    refine ⟨_, pss_one (ps_if (PW.pt (pw_or (pt_not (pt_val (pe_call G1 hr rfl m1 k1 b1 .nil pass0 (pa_cons (pv 0) pa_nil)))) (pw_or1 (pt_cmpR op_eq (pv 0) pe_int (nomark _))))) (pss_one ps_never) pss_nil), ?_⟩
    refine ⟨_, rfl, n, rfl, by omega, _, rfl, iteF ?_⟩
    exact ⟨_, rfl, rfl, _, rfl, ite_f (decide_eq_false fun z => by have := V.int.inj z; omega) k⟩
def opK (ks : List Int) : List Int := (ks.map fun k => 2 - k).reverse
def coK (ks : List Int) : List Int := ([0, 1, 2] : List Int).filter fun k => decide (k ∉ ks)
def conM (m : Mn) (many : Int) : Mn := (coK m.1, if many % 2 = 0 then m.2 else !m.2)
def plainM (m : Mn) (many : Int) : Mn := if m.1.length < 2 then m else conM m many
def realM (m : Mn) (many : Int) : Mn := if (plainM m many).1 = [0] then ([2], (plainM m many).2) else plainM m many
def realO (m : Mn) (many : Int) : Bool := decide ((plainM m many).1 = [0])
def spCon : Sp := fun vs H Q _ => ∃ (t : Addr) (m : Mn) (n : Int), vs = [.ref t, .int n] ∧ MnAt H t m ∧ m.1 ∈ allK ∧ ∀ (H' : Hp) (T : Addr), Same H H' → MnAt H' T (conM m n) → Q (.ref T) H'
def spReal : Sp := fun vs H Q _ => ∃ (t : Addr) (m : Mn) (n : Int), vs = [.ref t, .int n] ∧ MnAt H t m ∧ m.1 ∈ allK ∧ 1 ≤ n ∧ ∀ (H' : Hp) (T U : Addr), Same H H' → H' T = some (.tup [.ref U, .bl (realO m n)]) → MnAt H' U (realM m n) → Q (.ref T) H'
theorem sort_opK {ks : List Int} (h : ks ∈ allK) : (∀ ns : List Int, ns.Perm (ks.map fun k => 2 - k) → ns.Pairwise (· ≤ ·) → ns = opK ks) ∧ opK ks ∈ allK ∧ coK ks ∈ allK := by
  have a : (allK.all fun ks => decide ((opK ks).Pairwise (· ≤ ·)) && (decide (opK ks ∈ allK) && decide (coK ks ∈ allK))) = true := by decide +kernel
  have q := List.all_eq_true.mp a ks h
  rw [Bool.and_eq_true, Bool.and_eq_true] at q
  refine ⟨fun ns pm so => ?_, of_decide_eq_true q.2.1, of_decide_eq_true q.2.2⟩
  refine (pm.trans (List.reverse_perm _).symm).eq_of_pairwise (le := (· ≤ ·)) (fun a b _ _ x y => Int.le_antisymm x y) so (of_decide_eq_true q.1)
theorem dp_intsL {K : PySem.W.Frag} {H : Hp} : ∀ ns : List Int, DpAll K H (ns.map V.int) (ns.map PyData.int)
  | [] => .nil
  | n :: ns => .cons (.int n) (dp_intsL ns)
theorem dp_tupI {K : PySem.W.Frag} {H : Hp} {a : Addr} {ns : List Int} (h : H a = some (.tup (ns.map V.int))) : Dp K H (.ref a) (.tuple (ns.map PyData.int)) := .tup (SqT.of h) (dp_intsL ns)
theorem plain_mem {m : Mn} (h : m.1 ∈ allK) (n : Int) : (plainM m n).1 ∈ allK := by
  unfold plainM
  split
  · exact h
  · exact (sort_opK h).2.2
theorem eqv_zero {ks : List Int} (h : ks ∈ allK) : PyData.eqv (.tuple (ks.map PyData.int)) (.tuple ([0].map PyData.int)) = decide (ks = [0]) ∧ SeqAt.shaped (.tuple (ks.map PyData.int)) = true := by
  have a : (allK.all fun ks => (PyData.eqv (.tuple (ks.map PyData.int)) (.tuple ([0].map PyData.int)) == decide (ks = [0])) && SeqAt.shaped (.tuple (ks.map PyData.int))) = true := by decide +kernel
  have q := List.all_eq_true.mp a ks h
  rw [Bool.and_eq_true] at q
  exact ⟨eq_of_beq q.1, q.2⟩
def spMan : Sp := fun vs H Q _ => ∃ (p : Addr) (c : Int) (n : Nat), vs = [.ref p] ∧ PurseAt H p c (n + 2) ∧ ∀ (H' : Hp) (T : Addr) (m : Mn), m.1 ∈ allK → SameX p H H' → MnAt H' T m → PurseAt H' p c n → Q (.ref T) H'
/-- literals: the values of a tuple, and tuples of them in a row -/
def tCs : List V → TA
  | [] => tNil
  | v :: r => tCons (tC v) (tCs r)
def tCss : List (List V) → TA
  | [] => tNil
  | vs :: r => tCons (tTup (tCs vs)) (tCss r)
theorem rd_cs {vs : List V} {σ : St} {H : Hp} {Q : List V → Hp → Prop} (k : Q vs H) : tCs vs σ H Q := by
  induction vs generalizing Q with
  | nil => exact k
  | cons v r ih => exact ih (Q := fun xs H' => Q (v :: xs) H') k
/-- tuples in a row -/
def RowT (H : Hp) (Ts : List Addr) (vss : List (List V)) : Prop := Ts.length = vss.length ∧ ∀ (i : Nat) T vs, Ts[i]? = some T → vss[i]? = some vs → H T = some (.tup vs)
theorem RowT.same {H H' : Hp} {Ts : List Addr} {vss : List (List V)} (h : RowT H Ts vss) (s : Same H H') : RowT H' Ts vss := ⟨h.1, fun i T vs a b => s _ _ (h.2 i T vs a b)⟩
theorem rd_css {vss : List (List V)} {σ : St} {H : Hp} {Q : List V → Hp → Prop} (few : ∀ vs ∈ vss, vs.length ≤ sizeLine)
    (k : ∀ (Ts : List Addr) (H' : Hp), Same H H' → RowT H' Ts vss → Q (Ts.map V.ref) H') : tCss vss σ H Q := by
  induction vss generalizing H Q with
  | nil => exact k [] H (Same.refl _) ⟨rfl, fun i T vs a _ => by cases a⟩
  | cons vs r ih =>
    show tTup (tCs vs) σ H fun x H1 => tCss r σ H1 fun xs H2 => Q (x :: xs) H2
    show tCs vs σ H fun xs H1 => xs.length ≤ sizeLine ∧ ∀ p, H1 p = none → _
    refine rd_cs ⟨few _ (List.mem_cons_self ..), fun T hT => ?_⟩
    have s1 := same_new (o := .tup vs) hT
    refine ih (fun vs' h' => few _ (List.mem_cons_of_mem _ h')) fun Ts H' s2 rt => k (T :: Ts) H' (s1.trans s2) ⟨by rw [List.length_cons, List.length_cons, rt.1], fun i T' vs' a b => ?_⟩
    cases i with
    | zero =>
      obtain rfl := Option.some.inj a
      obtain rfl := Option.some.inj b
      exact s2 _ _ upd_same
    | succ i => exact rt.2 i T' vs' a b
def eightV : List (List V) := [[], [.int 0], [.int 1], [.int 2], [.int 0, .int 1], [.int 0, .int 2], [.int 1, .int 2], [.int 0, .int 1, .int 2]]
theorem eightE : tCons (tTup (tNil)) (tCons (tTup (tCons (tC (.int 0)) (tNil))) (tCons (tTup (tCons (tC (.int 1)) (tNil))) (tCons (tTup (tCons (tC (.int 2)) (tNil))) (tCons (tTup (tCons (tC (.int 0)) (tCons (tC (.int 1)) (tNil)))) (tCons (tTup (tCons (tC (.int 0)) (tCons (tC (.int 2)) (tNil)))) (tCons (tTup (tCons (tC (.int 1)) (tCons (tC (.int 2)) (tNil)))) (tCons (tTup (tCons (tC (.int 0)) (tCons (tC (.int 1)) (tCons (tC (.int 2)) (tNil))))) (tNil)))))))) = tCss eightV := rfl
/-- some manners -/
def MnsAt (H : Hp) (D : Addr) (n : Nat) : Prop := ∃ Ts : List Addr, H D = some (.lst (Ts.map V.ref)) ∧ Ts.length = n ∧ ∀ T ∈ Ts, ∃ m : Mn, m.1 ∈ allK ∧ MnAt H T m
theorem MnsAt.same {H H' : Hp} {D : Addr} {n : Nat} (h : MnsAt H D n) (s : Same H H') : MnsAt H' D n := by
  obtain ⟨Ts, a, b, c⟩ := h
  exact ⟨Ts, s _ _ a, b, fun T hT => let ⟨m, x, y⟩ := c T hT; ⟨m, x, y.same s⟩⟩
def MnsR (H : Hp) (Ts : List Addr) (ms : List Mn) : Prop := Ts.length = ms.length ∧ ∀ (i : Nat) T m, Ts[i]? = some T → ms[i]? = some m → MnAt H T m
theorem MnsR.same {H H' : Hp} {Ts : List Addr} {ms : List Mn} (h : MnsR H Ts ms) (s : Same H H') : MnsR H' Ts ms := ⟨h.1, fun i T m a b => (h.2 i T m a b).same s⟩
/-- a walk, whatever is done at each turn -/
theorem loop_of {J : It} {n : Nat} {ok : Hp → Prop} {yl : Nat → Hp → V → Hp → Prop} (wk : Walk J n ok yl) {H0 : Hp} {Fin : Hp → Prop} {Body : V → Hp → (Hp → Prop) → Prop} (Pv : Nat → Hp → Prop) (h0 : Pv 0 H0) (hok : ∀ i H, i ≤ n → Pv i H → ok H)
    (step : ∀ i x H H', i < n → Pv i H → yl i H x H' → Body x H' (Pv (i + 1))) (done : ∀ H, Pv n H → Fin H) :
    ∃ W : Nat → Nat → Hp → Prop, (∃ m, W 0 m H0) ∧ ∀ (i m : Nat) (H : Hp), W i m H → J.stop i H ∧ Fin H ∨ J.go i H ∧ ∃ Nx : Hp → Prop, (∀ H', Nx H' → ∃ m', m' < m ∧ W (i + 1) m' H') ∧ ∀ (x : V) (H' : Hp), J.yld i H x H' → Body x H' Nx := by
  obtain ⟨w1, w2, w3⟩ := wk
  refine ⟨fun i m H => i + m = n ∧ Pv i H, ⟨n, by omega, h0⟩, fun i m H ⟨e, pv⟩ => ?_⟩
  by_cases z : m = 0
  · have e : i = n := by omega
    subst e
    exact .inl ⟨w2 H (hok i H (Nat.le_refl _) pv), done H pv⟩
  · refine .inr ⟨w1 i H (by omega) (hok i H (by omega) pv), Pv (i + 1), fun H' p => ⟨m - 1, by omega, by omega, p⟩, fun x H' y => step i x H H' (by omega) pv (w3 i H x H' (by omega) (hok i H (by omega) pv) y)⟩
end
end Wd
end
section
set_option maxRecDepth 100000
set_option maxHeartbeats 1000000
namespace Kx
open PySem PySem.Calls PySem.Spec PyProof.Rows L2
/-! math.comb of small whole numbers -/
theorem e_comb : entryFor table "math.comb" = some Builtin.«math.comb» := entryFor_of_tree (by kernel_rfl)
theorem k_comb : builtinKind "math.comb" = none := by kernel_rfl
theorem p_comb : PySem.plainId "math.comb" = true := by decide +kernel
theorem a_comb (a b : Value) : argsOk "math.comb" ⟨[a, b], []⟩ := by unfold argsOk; kernel_rfl
def cmb (a b : Int) : Int := Builtin.Math.fallingProduct a (min b (a - b)).toNat / Builtin.Math.fallingProduct (min b (a - b)) (min b (a - b)).toNat
theorem run_comb (a : Int) (t : Tok) (b : Int) (u : Tok) (h0 : ¬ a < 0) (h1 : ¬ b < 0) (h2 : ¬ b > a) (h3 : ¬ min b (a - b) > Builtin.Math.maxSsize) (h4 : ¬ min b (a - b) > Builtin.Math.manyFactors) (h5 : ¬ min b (a - b) > 9000) (hsz : (cmb a b).natAbs.log2 < bitsLine) :
    Gives (Builtin.«math.comb» ⟨[.int a t, .int b u], []⟩) (.int (cmb a b)) :=
  .of_wp fun M A E s Q h => by obtain ⟨hp, g, d, tk, os⟩ := s; wp_walk; (try (refine wpAny_ite_false (decide_eq_false (Nat.not_le.mpr hsz)) ?_; wp_walk)); exact ⟨_, rfl, h⟩
theorem cmb_small : ∀ a, a < 41 → ∀ b, b ≤ a → (cmb ((a : Nat) : Int) ((b : Nat) : Int)).natAbs.log2 < 200 := by decide +kernel
def rComb (vs : List V) (H : Hp) (Q : VK) : Prop := ∃ a b : Nat, vs = [.int (a : Int), .int (b : Int)] ∧ b ≤ a ∧ a ≤ 40 ∧ Q (.int (cmb a b)) H
theorem cr_mcomb {X : Cx} : CallR X (.builtin "math.comb") rComb := by
  intro pins s σ H vs us Q I r h
  obtain ⟨a, b, rfl, hb, ha, q⟩ := h
  obtain ⟨t, u, rfl⟩ := Vals.int2 r
  have big : Builtin.Math.maxSsize = 9223372036854775807 := by decide
  have mid : Builtin.Math.manyFactors = 20000 := rfl
  have bl : bitsLine = 134217728 := by decide
  have m40 : min (b : Int) ((a : Int) - b) ≤ 40 := by omega
  exact call_function_meets k_comb p_comb e_comb (a_comb _ _) (run_comb a t b u (by omega) (by omega) (by omega) (by omega) (by omega) (by omega) (by
    have := cmb_small a (by omega) b hb
    omega)).meets ⟨.int _, H, I.tok _, ⟨_, rfl⟩, q⟩
end Kx
end
section
set_option maxRecDepth 100000
set_option maxHeartbeats 1000000
namespace Wd
open PySem L2
/-! numbers of companies, of families, of untied ones -/
def ctN (n : Nat) : Int := 2 ^ (n * (n - 1) / 2)
def unF : Nat → Int
  | 0 => 1
  | i + 1 => unF i * (2 ^ (2 * i + 1) - 1) * 2 ^ (2 * i)
def unI (n : Nat) : Int := if n % 2 = 1 then 0 else unF (n / 2)
def esA (h : Nat) : Nat → Int
  | 0 => 1
  | i + 1 => esA h i * (2 ^ (2 * (h - i)) - 1)
def esB : Nat → Int
  | 0 => 1
  | i + 1 => esB i * (2 ^ (i + 1) - 1)
def esI (h : Int) (s : Nat) : Int := if (s : Int) > h then 0 else esA h.toNat s / esB s
def famI (n s : Nat) : Int := if n % 2 = 1 then esI ((n / 2 : Nat) : Int) s else (if s > 0 then esI ((n / 2 : Nat) - 1 : Int) (s - 1) else 0) + esI ((n / 2 : Nat) - 1 : Int) s * 2 ^ s
def spN1 (N : Nat) (f : Nat → Int) : Sp := fun vs H Q _ => ∃ n : Nat, vs = [.int (n : Int)] ∧ n ≤ N ∧ Q (.int (f n)) H
def spN2 (c : Int → Nat → Prop) (f : Int → Nat → Int) : Sp := fun vs H Q _ => ∃ (h : Int) (s : Nat), vs = [.int h, .int (s : Int)] ∧ c h s ∧ Q (.int (f h s)) H
theorem int_inj {i j : Int} (h : i = j) {Q : VK} {H : Hp} (k : Q (.int j) H) : Q (.int i) H := by rw [h]; exact k
theorem ct_eq : ∀ n : Nat, n < 16 → (1 : Int) * 2 ^ (((n : Int) * ((n : Int) - 1)) / 2).toNat = ctN n ∧ 0 ≤ ((n : Int) * ((n : Int) - 1)) / 2 ∧ ((n : Int) * ((n : Int) - 1)) / 2 ≤ 1000000 := by decide +kernel
theorem un_eq : ∀ i, i < 8 → ((unF i * ((1 : Int) * 2 ^ ((2 : Int) * (i : Int) + 1).toNat - 1)) * 2 ^ ((2 : Int) * (i : Int)).toNat = unF (i + 1) ∧ ((1 : Int) * 2 ^ ((2 : Int) * (i : Int) + 1).toNat - 1) < 2 ^ 64 ∧ -(2 ^ 64) < ((1 : Int) * 2 ^ ((2 : Int) * (i : Int) + 1).toNat - 1)) ∧ (Builtin.Int.intBits (unF i * ((1 : Int) * 2 ^ ((2 : Int) * (i : Int) + 1).toNat - 1)) : Int) + (2 : Int) * (i : Int) ≤ 2 ^ 27 := by decide +kernel
theorem es_eq : ∀ h, h < 8 → ∀ i, i < h → (esA h i * ((1 : Int) * 2 ^ ((2 : Int) * ((h : Int) - (i : Int))).toNat - 1) = esA h (i + 1) ∧ esB i * ((1 : Int) * 2 ^ ((i : Int) + 1).toNat - 1) = esB (i + 1)) ∧ (((1 : Int) * 2 ^ ((2 : Int) * ((h : Int) - (i : Int))).toNat - 1) < 2 ^ 64 ∧ -(2 ^ 64) < ((1 : Int) * 2 ^ ((2 : Int) * ((h : Int) - (i : Int))).toNat - 1)) ∧ (((1 : Int) * 2 ^ ((i : Int) + 1).toNat - 1) < 2 ^ 64 ∧ -(2 ^ 64) < ((1 : Int) * 2 ^ ((i : Int) + 1).toNat - 1)) := by decide +kernel
theorem es_low : ∀ s, s < 8 → 0 < esB s ∧ esB s < 1073741824 := by decide +kernel
theorem fam_bits : ∀ n, n < 16 → ∀ s, s < 16 → (Builtin.Int.intBits (esI ((n / 2 : Nat) - 1 : Int) s) : Int) + (s : Int) ≤ 2 ^ 27 := by decide +kernel
section
variable {P : Program} {w : World} {K : PySem.W.Frag} {mg : Str → Option Value} {base : Heap}
theorem ok_untied_number {f : Addr} {fd : FuncData} (F : Fun K "untied_number" "untied_number" sp_untied_number f fd) (T : Bt mg) : FnOk P w K mg base CX0 1 f fd ["size"] (spN1 15 unI) := by
  refine F.ok cp_untied_number (fun vs H Q E h => ?_) (fun cdv A outer s H vs Q E hr h => ?_)
  · obtain ⟨_, rfl, _⟩ := h
    rfl
  · obtain ⟨n, rfl, hn, k⟩ := h
    refine ⟨_, pss_cons (ps_if (pt_cmpR op_eq (pe_op op_mod (pv 0) pe_int) pe_int (nomark _)) (pss_one (ps_ret pe_int)) pss_nil)
      (pss_cons (ps_set (i := 1) cp_untied_number.nd rfl (Or.inl rfl) pe_int)
      (pss_cons (ps_for PassesOwn.never rfl (pi_range1 rfl T.range (pa_cons (pe_op op_fdiv (pv 0) pe_int) pa_nil)) (pg_name (i := 2) cp_untied_number.nd rfl (Or.inl rfl))
        (pss_one (ps_set (i := 1) cp_untied_number.nd rfl (Or.inl rfl) (pe_op op_shlW (pe_op op_mul (pv 1) (pe_op op_sub (pe_op op_shl pe_int (pe_op op_add (pe_op op_mul pe_int (pv 2)) pe_int)) pe_int)) (pe_op op_mul pe_int (pv 2))))))
      (pss_one (ps_ret (pv 1))))), ?_⟩
    refine ⟨_, rfl, _, _, rfl, rfl, (by show (0 : Int) < 2; decide), rfl, _, rfl, ?_⟩
    refine ite2 (fun hb => ?_) (fun hb => ?_)
    · have hb : ((n : Int) % 2) = 1 := V.int.inj (of_decide_eq_true hb)
      have e : unI n = 0 := by unfold unI; rw [if_pos (by omega)]
      rw [e] at k
      exact k
    · have hb : ¬ ((n : Int) % 2) = 1 := fun z => hb (decide_eq_true (congrArg V.int z))
      have e : unI n = unF (n / 2) := by unfold unI; rw [if_neg (by omega)]
      rw [e] at k
      have ed : ((n : Int) / 2) = ((n / 2 : Nat) : Int) := by omega
      refine ⟨_, rfl, _, _, rfl, rfl, ⟨by decide, by decide⟩, ?_⟩
      refine ⟨((n / 2 : Nat) : Int), by rw [← ed], by omega, by omega, ?_⟩
      refine for_range (lo := 0) (n := n / 2) (fun i σ H' => ∃ v2 : Option V, σ = [some (.int (n : Int)), some (.int (unF i)), v2] ∧ H' = H) ⟨none, rfl, rfl⟩ ?_ ?_
      · rintro i σ H' hi ⟨v2, rfl, rfl⟩
        rw [Int.zero_add]
        obtain ⟨⟨e1, e2, e3⟩, e4⟩ := un_eq i (by omega)
        refine ⟨_, rfl, _, rfl, _, _, rfl, rfl, .inl ⟨by decide, by decide⟩, _, _, rfl, rfl, _, _, rfl, rfl, ⟨by omega, by omega, by decide⟩, _, _, rfl, rfl, _, _, rfl, rfl, .inr ⟨e3, e2⟩, _, rfl, _, _, rfl, rfl, .inl ⟨by decide, by decide⟩, _, _, rfl, rfl, ⟨by omega, e4⟩, ?_⟩
        exact ⟨_, congrArg (fun z => [some (V.int (n : Int)), some (V.int z), some (V.int (i : Int))]) e1, rfl⟩
      · rintro σ H' ⟨v2, rfl, rfl⟩
        exact ⟨_, rfl, k⟩
theorem ok_even_spaces {f : Addr} {fd : FuncData} (F : Fun K "even_spaces" "even_spaces" sp_even_spaces f fd) (T : Bt mg) : FnOk P w K mg base CX0 1 f fd ["half", "size"] (spN2 (fun h s => -1 ≤ h ∧ h ≤ 7 ∧ s ≤ 20) esI) := by
  refine F.ok cp_even_spaces (fun vs H Q E h => ?_) (fun cdv A outer s H vs Q E hr h => ?_)
  · obtain ⟨_, _, rfl, _⟩ := h
    rfl
  · obtain ⟨h, s, rfl, ⟨h1, h7, s20⟩, k⟩ := h
    refine ⟨_, pss_cons (ps_if (pt_cmpR op_gt (pv 1) (pv 0) (nomark _)) (pss_one (ps_ret pe_int)) pss_nil)
      (pss_cons (ps_asg2 pe_int (pg_name (i := 2) cp_even_spaces.nd rfl (Or.inl rfl)) (pg_name (i := 3) cp_even_spaces.nd rfl (Or.inl rfl)))
      (pss_cons (ps_for PassesOwn.never rfl (pi_range1 rfl T.range (pa_cons (pv 1) pa_nil)) (pg_name (i := 4) cp_even_spaces.nd rfl (Or.inl rfl))
        (pss_cons (ps_set (i := 2) cp_even_spaces.nd rfl (Or.inl rfl) (pe_op op_mul (pv 2) (pe_op op_sub (pe_op op_shl pe_int (pe_op op_mul pe_int (pe_op op_sub (pv 0) (pv 4)))) pe_int)))
        (pss_one (ps_set (i := 3) cp_even_spaces.nd rfl (Or.inl rfl) (pe_op op_mul (pv 3) (pe_op op_sub (pe_op op_shl pe_int (pe_op op_add (pv 4) pe_int)) pe_int))))))
      (pss_one (ps_ret (pe_op op_fdiv (pv 2) (pv 3)))))), ?_⟩
    refine ⟨_, rfl, _, rfl, _, _, rfl, rfl, _, rfl, ?_⟩
    refine ite2 (fun hb => ?_) (fun hb => ?_)
    · have hb : h < (s : Int) := of_decide_eq_true hb
      have e : esI h s = 0 := by unfold esI; rw [if_pos hb]
      rw [e] at k
      exact k
    · have hb : ¬ h < (s : Int) := fun z => hb (decide_eq_true z)
      obtain ⟨hn, rfl⟩ : ∃ hn : Nat, h = hn := ⟨h.toNat, by omega⟩
      have e : esI hn s = esA hn s / esB s := by unfold esI; rw [if_neg hb]; rfl
      rw [e] at k
      refine ⟨_, rfl, (s : Int), rfl, by omega, by omega, ?_⟩
      refine for_range (lo := 0) (n := s) (fun i σ H' => ∃ v4 : Option V, σ = [some (.int (hn : Int)), some (.int (s : Int)), some (.int (esA hn i)), some (.int (esB i)), v4] ∧ H' = H) ⟨none, rfl, rfl⟩ ?_ ?_
      · rintro i σ H' hi ⟨v4, rfl, rfl⟩
        rw [Int.zero_add]
        obtain ⟨⟨a1, b1⟩, ⟨a2, a3⟩, ⟨b2, b3⟩⟩ := es_eq hn (by omega) i (by omega)
        refine ⟨_, rfl, _, rfl, _, rfl, _, _, rfl, rfl, _, _, rfl, rfl, .inl ⟨by decide, by decide⟩, _, _, rfl, rfl, ⟨by omega, by omega, by decide⟩, _, _, rfl, rfl, _, _, rfl, rfl, .inr ⟨a3, a2⟩, ?_⟩
        refine ⟨_, rfl, _, rfl, _, _, rfl, rfl, _, _, rfl, rfl, ⟨by omega, by omega, by decide⟩, _, _, rfl, rfl, _, _, rfl, rfl, .inr ⟨b3, b2⟩, ?_⟩
        exact ⟨_, congr (congrArg (fun y z => [some (V.int (hn : Int)), some (V.int (s : Int)), some (V.int y), some (V.int z), some (V.int (i : Int))]) a1) b1, rfl⟩
      · rintro σ H' ⟨v4, rfl, rfl⟩
        obtain ⟨l1, l2⟩ := es_low s (by omega)
        exact ⟨_, rfl, _, rfl, _, _, rfl, rfl, ⟨l1, l2⟩, k⟩
theorem ok_family_number {f : Addr} {fd : FuncData} (F : Fun K "family_number" "family_number" sp_family_number f fd) (C1 : Has P w K mg base 1 "even_spaces" ["half", "size"] (spN2 (fun h s => -1 ≤ h ∧ h ≤ 7 ∧ s ≤ 20) esI)) : FnOk P w K mg base CX0 2 f fd ["many", "size"] (fun vs H Q _ => ∃ n s : Nat, vs = [.int (n : Int), .int (s : Int)] ∧ n ≤ 15 ∧ s ≤ 15 ∧ Q (.int (famI n s)) H) := by
  obtain ⟨f1, d1, G1, m1, k1, b1⟩ := C1
  refine F.ok cp_family_number (fun vs H Q E h => ?_) (fun cdv A outer s H vs Q E hr h => ?_)
  · obtain ⟨_, _, rfl, _⟩ := h
    rfl
  · obtain ⟨n, s, rfl, n15, s15, k⟩ := h
    have hr1 : Room 1 _ := hr.mono (by decide)
    refine ⟨_, pss_cons (ps_if (pt_cmpR op_eq (pe_op op_mod (pv 0) pe_int) pe_int (nomark _)) (pss_one (ps_ret (pe_call G1 hr1 rfl m1 k1 b1 .nil pass0 (pa_cons (pe_op op_fdiv (pv 0) pe_int) (pa_cons (pv 1) pa_nil))))) pss_nil)
      (pss_cons (ps_set (i := 2) cp_family_number.nd rfl (Or.inl rfl) (pe_op op_sub (pe_op op_fdiv (pv 0) pe_int) pe_int))
      (pss_cons (ps_set (i := 3) cp_family_number.nd rfl (Or.inl rfl) (pe_ifExp (pt_cmpR op_gt (pv 1) pe_int (nomark _)) (pe_call G1 hr1 rfl m1 k1 b1 .nil pass0 (pa_cons (pv 2) (pa_cons (pe_op op_sub (pv 1) pe_int) pa_nil))) pe_int))
      (pss_one (ps_ret (pe_op op_add (pv 3) (pe_op op_shlW (pe_call G1 hr1 rfl m1 k1 b1 .nil pass0 (pa_cons (pv 2) (pa_cons (pv 1) pa_nil))) (pv 1))))))), ?_⟩
    have ed : ((n : Int) / 2) = ((n / 2 : Nat) : Int) := by omega
    refine ⟨_, rfl, _, _, rfl, rfl, (by show (0 : Int) < 2; decide), rfl, _, rfl, ?_⟩
    refine ite2 (fun hb => ?_) (fun hb => ?_)
    · have hb : ((n : Int) % 2) = 1 := V.int.inj (of_decide_eq_true hb)
      have e : famI n s = esI ((n / 2 : Nat) : Int) s := by unfold famI; rw [if_pos (by omega)]
      rw [e] at k
      exact ⟨_, rfl, _, _, rfl, rfl, ⟨by decide, by decide⟩, _, rfl, ((n / 2 : Nat) : Int), s, by show [V.int ((n : Int) / 2), V.int (s : Int)] = _; rw [ed], ⟨by omega, by omega, by omega⟩, k⟩
    · have hb : ¬ ((n : Int) % 2) = 1 := fun z => hb (decide_eq_true (congrArg V.int z))
      have e : famI n s = (if s > 0 then esI ((n / 2 : Nat) - 1 : Int) (s - 1) else 0) + esI ((n / 2 : Nat) - 1 : Int) s * 2 ^ s := by unfold famI; rw [if_neg (by omega)]
      rw [e] at k
      have fb := fam_bits n (by omega) s (by omega)
      refine ⟨_, rfl, _, _, rfl, rfl, ⟨by decide, by decide⟩, _, _, rfl, rfl, ?_⟩
      dsimp only
      rw [ed]
      refine ⟨_, rfl, _, _, rfl, rfl, _, rfl, ?_⟩
      refine ite2 (fun hs => ?_) (fun hs => ?_)
      · have hs : 0 < (s : Int) := of_decide_eq_true hs
        rw [if_pos (by omega)] at k
        refine ⟨_, rfl, _, rfl, _, _, rfl, rfl, ((n / 2 : Nat) - 1 : Int), s - 1, by show [V.int _, V.int ((s : Int) - 1)] = _; rw [show ((s : Int) - 1) = ((s - 1 : Nat) : Int) by omega], ⟨by omega, by omega, by omega⟩, ?_⟩
        exact ⟨_, rfl, _, rfl, _, rfl, ((n / 2 : Nat) - 1 : Int), s, rfl, ⟨by omega, by omega, by omega⟩, _, rfl, _, _, rfl, rfl, ⟨by omega, fb⟩, _, _, rfl, rfl, k⟩
      · have hs : ¬ 0 < (s : Int) := fun z => hs (decide_eq_true z)
        rw [if_neg (by omega)] at k
        exact ⟨_, rfl, _, rfl, _, rfl, ((n / 2 : Nat) - 1 : Int), s, rfl, ⟨by omega, by omega, by omega⟩, _, rfl, _, _, rfl, rfl, ⟨by omega, fb⟩, _, _, rfl, rfl, k⟩
end
end Wd
end
section
set_option maxRecDepth 100000
set_option maxHeartbeats 1000000
namespace Wd
open PySem L2
theorem ints_at {L : List Int} {i : Nat} (h : i < L.length) : atI (L.map V.int) (i : Int) = some (.int (L.getD i 0)) := by
  refine atI_nat ?_
  rw [List.getElem?_map, List.getElem?_eq_getElem h, List.getD_eq_getElem?_getD, List.getElem?_eq_getElem h]
  rfl
theorem ints_atZ {L : List Int} {z : Int} {i : Nat} (e : z = (i : Int)) (h : i < L.length) : atI (L.map V.int) z = some (.int (L.getD i 0)) := by
  rw [e]
  exact ints_at h
def spP (N : Nat) : Sp := spN1 N fun n => 2 ^ n
section
variable {P : Program} {w : World} {K : PySem.W.Frag} {mg : Str → Option Value} {base : Heap}
/-! the law's powers -/
theorem ok_power {f : Addr} {fd : FuncData} (F : Fun K "_law_power" "_law_power" s_power f fd) (T : Bt mg) : FnOk P w K mg base CX0 1 f fd ["_law_number"] (spP 200) := by
  refine F.ok c_power (fun vs H Q E h => ?_) (fun cdv A outer s H vs Q E hr h => ?_)
  · obtain ⟨_, rfl, _⟩ := h
    rfl
  · obtain ⟨n, rfl, hn, k⟩ := h
    refine ⟨_, pss_cons (ps_set (i := 1) c_power.nd rfl (Or.inl rfl) pe_int)
      (pss_cons (ps_for PassesOwn.never rfl (pi_range1 rfl T.range (pa_cons (pv 0) pa_nil)) (pg_name (i := 2) c_power.nd rfl (Or.inl rfl)) (pss_one (ps_set (i := 1) c_power.nd rfl (Or.inl rfl) (pe_op op_mul (pv 1) pe_int))))
      (pss_one (ps_ret (pv 1)))), ?_⟩
    refine ⟨_, rfl, (n : Int), rfl, by omega, by omega, ?_⟩
    refine for_range (lo := 0) (n := n) (fun i σ H' => ∃ v2 : Option V, σ = [some (.int (n : Int)), some (.int (2 ^ i)), v2] ∧ H' = H) ⟨none, rfl, rfl⟩ ?_ ?_
    · rintro i σ H' hi ⟨v2, rfl, rfl⟩
      exact ⟨_, rfl, _, _, rfl, rfl, .inr ⟨by decide, by decide⟩, _, congrArg (fun z => [some (V.int (n : Int)), some (V.int z), some (V.int (0 + (i : Int)))]) (Int.pow_succ 2 i).symm, rfl⟩
    · rintro σ H' ⟨v2, rfl, rfl⟩
      exact ⟨_, rfl, k⟩
end
end Wd
end
section
set_option maxRecDepth 100000
set_option maxHeartbeats 1000000
namespace Wd
open PySem L2
def chL : Nat → List Int
  | 0 => [1]
  | k + 1 => ([1] ++ (List.range k).map fun a => (chL k).getD a 0 + (chL k).getD (a + 1) 0) ++ [1]
theorem chL_len : ∀ k, (chL k).length = k + 1
  | 0 => rfl
  | k + 1 => by
    show ((([1] : List Int) ++ _) ++ [1]).length = _
    rw [List.length_append, List.length_append, List.length_map, List.length_range]
    show 1 + k + 1 = _
    omega
def chN (n s : Nat) : Int := (chL n).getD s 0
def spCh : Sp := fun vs H Q _ => ∃ n s : Nat, vs = [.int (n : Int), .int (s : Int)] ∧ s ≤ n ∧ n ≤ 20 ∧ ∀ H', Same H H' → Q (.int (chN n s)) H'
def utT : Nat → List Int
  | 0 => [1]
  | k + 1 => [1] ++ (List.range (k + 1)).map fun j => (utT k ++ [0]).getD j 0 + 2 ^ (j + 1) * (utT k ++ [0]).getD (j + 1) 0
theorem utT_len : ∀ k, (utT k).length = k + 1
  | 0 => rfl
  | k + 1 => by
    show (([1] : List Int) ++ _).length = _
    rw [List.length_append, List.length_map, List.length_range]
    show 1 + (k + 1) = _
    omega
def utF : Nat → List Int
  | 0 => [1]
  | k + 1 => utF k ++ [2 ^ ((k + 1) * k / 2) - ((List.range (k + 1)).map fun j => (utT (k + 1)).getD j 0 * (utF k).getD j 0).sum]
theorem utF_len : ∀ k, (utF k).length = k + 1
  | 0 => rfl
  | k + 1 => by
    show (utF k ++ [_]).length = _
    rw [List.length_append, utF_len k]
    rfl
def pwL (n : Nat) : List Int := (List.range (n + 1)).map fun j => (2 : Int) ^ j
theorem pwL_get {n i : Nat} (h : i < n + 1) : (pwL n).getD i 0 = 2 ^ i := by
  unfold pwL
  rw [List.getD_eq_getElem?_getD, List.getElem?_map, List.getElem?_range h]
  rfl
theorem pwL_len (n : Nat) : (pwL n).length = n + 1 := by unfold pwL; rw [List.length_map, List.length_range]
theorem pw_small : ∀ j : Nat, j < 16 → -(2 ^ 64) < (2 : Int) ^ j ∧ (2 : Int) ^ j < 2 ^ 64 := by decide +kernel
theorem tr_eq : ∀ i : Nat, i < 15 → (1 + (i : Int)) * ((1 + (i : Int)) - 1) / 2 = (((i + 1) * i / 2 : Nat) : Int) ∧ (i + 1) * i / 2 ≤ 200 := by decide +kernel
theorem ut_ok : ∀ i : Nat, i < 14 → ∀ j : Nat, j < i + 1 → (-(2 ^ 64) < (utT (i + 1)).getD j 0 ∧ (utT (i + 1)).getD j 0 < 2 ^ 64) ∨ (-(2 ^ 64) < (utF i).getD j 0 ∧ (utF i).getD j 0 < 2 ^ 64) := by decide +kernel
def spUt : Sp := fun vs H Q _ => ∃ n : Nat, vs = [.int (n : Int)] ∧ n ≤ 14 ∧ ∀ (H' : Hp) (L : Addr), Same H H' → H' L = some (.lst ((utF n).map V.int)) → Q (.ref L) H'
section
variable {P : Program} {w : World} {K : PySem.W.Frag} {mg : Str → Option Value} {base : Heap}
theorem ok_untied_to {f : Addr} {fd : FuncData} (F : Fun K "_law_untied_to" "_law_untied_to" s_untied_to f fd) (T : Bt mg) (C1 : Has P w K mg base 1 "_law_power" ["_law_number"] (spP 200)) : FnOk P w K mg base CX0 2 f fd ["_law_most"] spUt := by
  obtain ⟨f1, d1, G1, m1, k1, b1⟩ := C1
  refine F.ok c_untied_to (fun vs H Q E h => ?_) (fun cdv A outer s H vs Q E hr h => ?_)
  · obtain ⟨_, rfl, _⟩ := h
    rfl
  · obtain ⟨n, rfl, n14, k⟩ := h
    refine ⟨_, pss_cons (ps_asg (pe_tup (pa_cons (pe_lc (own := [("_law_at", 1)]) (g := gName 1) (tt := tYes) rfl c_untied_to.nd (pi_range1 rfl T.range (pa_cons (pe_op op_add (pv 0) pe_int) pa_nil))
          (blkOk_by (N := ["_law_most", "_law_at", "_law_powers", "_law_table", "_law_found", "_law_many", "_law_last"]) (sc := defScope s_untied_to) (by decide +kernel)) (fun _ _ _ _ _ => pg_name (i := 1) c_untied_to.nd rfl (Or.inl rfl)) (fun _ _ _ _ _ => pts_nil)
          (fun _ _ _ _ _ => pe_call G1 hr rfl m1 k1 b1 .nil pass0 (pa_cons (pv 1) pa_nil))) (pa_cons (pe_lst (pa_cons pe_int pa_nil)) (pa_cons (pe_lst (pa_cons pe_int pa_nil)) pa_nil))))
        (pg_tup rfl (pgs_cons (pg_name (i := 2) c_untied_to.nd rfl (Or.inr rfl)) (pgs_cons (pg_name (i := 3) c_untied_to.nd rfl (Or.inr rfl)) (pgs_cons (pg_name (i := 4) c_untied_to.nd rfl (Or.inr rfl)) pgs_nil)))))
      (pss_cons (ps_for PassesOwn.never rfl (pi_range2 rfl T.range (pa_cons pe_int (pa_cons (pe_op op_add (pv 0) pe_int) pa_nil))) (pg_name (i := 5) c_untied_to.nd rfl (Or.inl rfl))
        (pss_cons (ps_set (i := 6) c_untied_to.nd rfl (Or.inr rfl) (pe_op op_cat (pv 3) (pe_lst (pa_cons pe_int pa_nil))))
        (pss_cons (ps_set (i := 3) c_untied_to.nd rfl (Or.inr rfl) (pe_op op_cat (pe_lst (pa_cons pe_int pa_nil)) (pe_lc (own := [("_law_at", 1)]) (g := gName 1) (tt := tYes) rfl c_untied_to.nd (pi_range2 rfl T.range (pa_cons pe_int (pa_cons (pe_op op_add (pv 5) pe_int) pa_nil)))
          (blkOk_by (N := ["_law_most", "_law_at", "_law_powers", "_law_table", "_law_found", "_law_many", "_law_last"]) (sc := defScope s_untied_to) (by decide +kernel)) (fun _ _ _ _ _ => pg_name (i := 1) c_untied_to.nd rfl (Or.inl rfl)) (fun _ _ _ _ _ => pts_nil)
          (fun _ _ _ _ _ => pe_op op_add (pe_ix (r := rIxL K) ix_list (pv 6) (pe_op op_sub (pv 1) pe_int) (fun _ _ => rfl)) (pe_op op_mul (pe_ix (r := rIxL K) ix_list (pv 2) (pv 1) (fun _ _ => rfl)) (pe_ix (r := rIxL K) ix_list (pv 6) (pv 1) (fun _ _ => rfl)))))))
        (pss_one (ps_expr (pe_bm PySem.F.plainAttrs_list PySem.F.slot_list_append PySem.F.type_list_append mt_append (pv 4) (pa_cons (pe_op op_sub (pe_call G1 hr rfl m1 k1 b1 .nil pass0 (pa_cons (pe_op op_fdiv (pe_op op_mul (pv 5) (pe_op op_sub (pv 5) pe_int)) pe_int) pa_nil))
          (pe_callB (r := rSum K) (cr_sum rfl) (by rfl) T.sum (by decide +kernel) (pa_cons (pe_lc (own := [("_law_at", 1)]) (g := gName 1) (tt := tYes) rfl c_untied_to.nd (pi_range1 rfl T.range (pa_cons (pv 5) pa_nil))
          (blkOk_by (N := ["_law_most", "_law_at", "_law_powers", "_law_table", "_law_found", "_law_many", "_law_last"]) (sc := defScope s_untied_to) (by decide +kernel)) (fun _ _ _ _ _ => pg_name (i := 1) c_untied_to.nd rfl (Or.inl rfl)) (fun _ _ _ _ _ => pts_nil)
          (fun _ _ _ _ _ => pe_op op_mul (pe_ix (r := rIxL K) ix_list (pv 3) (pv 1) (fun _ _ => rfl)) (pe_ix (r := rIxL K) ix_list (pv 4) (pv 1) (fun _ _ => rfl)))) pa_nil))) pa_nil)))))))
      (pss_one (ps_ret (pv 4)))), ?_⟩
    refine ⟨_, rfl, _, _, rfl, rfl, ((n + 1 : Nat) : Int), by rw [show ((n + 1 : Nat) : Int) = (n : Int) + 1 by omega], by omega, by omega, fun Pw hPw => ?_⟩
    refine lc_range (lo := 0) (n := n + 1) (fun i H' => Same H H' ∧ H' Pw = some (.lst (((List.range i).map fun j => (2 : Int) ^ j).map V.int))) ⟨same_new hPw, upd_same⟩ ?_ ?_
    · rintro i H1 hi ⟨s1, hd⟩
      refine ⟨rfl, _, rfl, i, by show [V.int (0 + (i : Int))] = _; rw [Int.zero_add], by omega, _, hd, ?_, same_over s1 hPw, ?_⟩
      · rw [List.length_map, List.length_map, List.length_range, sizeLine_eq]; omega
      · rw [upd_same, List.range_succ, List.map_append, List.map_append]
        rfl
    · rintro H1 ⟨s1, hd⟩
      refine ⟨by show 1 ≤ sizeLine; decide, fun Tb0 hTb => ?_⟩
      have e2 := same_new (o := .lst [.int 1]) hTb
      refine ⟨by show 1 ≤ sizeLine; decide, fun Fo hFo => ?_⟩
      have e3 := same_new (o := .lst [.int 1]) hFo
      refine ⟨by show 3 ≤ sizeLine; decide, fun TT hTT => ?_⟩
      have e4 := same_new (o := .tup [.ref Pw, .ref Tb0, .ref Fo]) hTT
      refine ⟨TT, _, rfl, SqT.of upd_same, rfl, _, _, rfl, _, _, rfl, _, _, rfl, rfl, ?_⟩
      have hP : upd (upd (upd H1 Tb0 (.lst [.int 1])) Fo (.lst [.int 1])) TT (.tup [.ref Pw, .ref Tb0, .ref Fo]) Pw = some (.lst ((pwL n).map V.int)) := e4 _ _ (e3 _ _ (e2 _ _ hd))
      have hT : upd (upd (upd H1 Tb0 (.lst [.int 1])) Fo (.lst [.int 1])) TT (.tup [.ref Pw, .ref Tb0, .ref Fo]) Tb0 = some (.lst ((utT 0).map V.int)) := e4 _ _ (e3 _ _ upd_same)
      have hF : upd (upd (upd H1 Tb0 (.lst [.int 1])) Fo (.lst [.int 1])) TT (.tup [.ref Pw, .ref Tb0, .ref Fo]) Fo = some (.lst ((utF 0).map V.int)) := e4 _ _ upd_same
      have s2 := s1.trans (e2.trans (e3.trans e4))
      have nF : H Fo = none := same_none (s1.trans e2) hFo
      have nPF : Pw ≠ Fo := ne_of_none (e2 _ _ hd) hFo
      have nTF : Tb0 ≠ Fo := ne_of_none upd_same hFo
      generalize upd (upd (upd H1 Tb0 (.lst [.int 1])) Fo (.lst [.int 1])) TT (.tup [.ref Pw, .ref Tb0, .ref Fo]) = H2 at hP hT hF s2 ⊢
      refine ⟨_, rfl, _, _, rfl, rfl, 1, ((n + 1 : Nat) : Int), by rw [show ((n + 1 : Nat) : Int) = (n : Int) + 1 by omega], ⟨by decide, by decide, by omega, by omega⟩, ?_⟩
      rw [show (((n + 1 : Nat) : Int) - 1).toNat = n by omega]
      refine for_range (lo := 1) (n := n) (fun i σ H' => ∃ (Tb : Addr) (v1 v5 v6 : Option V), σ = [some (.int (n : Int)), v1, some (.ref Pw), some (.ref Tb), some (.ref Fo), v5, v6] ∧ Same H H' ∧ Tb ≠ Fo ∧ H' Pw = some (.lst ((pwL n).map V.int)) ∧ H' Tb = some (.lst ((utT i).map V.int)) ∧ H' Fo = some (.lst ((utF i).map V.int))) ⟨Tb0, none, none, none, rfl, s2, nTF, hP, hT, hF⟩ ?_ ?_
      · rintro i σ H3 hi ⟨Tb, v1, v5, v6, rfl, s3, nT, hP3, hT3, hF3⟩
        refine ⟨_, rfl, by show 1 ≤ sizeLine; decide, fun Z hZ => ?_⟩
        have e5 := same_new (o := .lst [.int 0]) hZ
        refine ⟨Tb, Z, _, _, rfl, rfl, e5 _ _ hT3, upd_same, ?_, fun La hLa => ?_⟩
        · rw [List.length_map, utT_len, sizeLine_eq]
          show i + 1 + 1 ≤ _
          omega
        have e6 := e5.trans (same_new (o := .lst ((utT i).map V.int ++ [.int 0])) hLa)
        have hLa6 : upd (upd H3 Z (.lst [.int 0])) La (.lst ((utT i).map V.int ++ [.int 0])) La = some (.lst ((utT i ++ [0]).map V.int)) := by rw [upd_same, List.map_append]; rfl
        have ll : (utT i ++ [0]).length = i + 2 := by rw [List.length_append, utT_len]; rfl
        generalize upd (upd H3 Z (.lst [.int 0])) La (.lst ((utT i).map V.int ++ [.int 0])) = H4 at e6 hLa6 ⊢
        refine ⟨by show 1 ≤ sizeLine; decide, fun A hA => ?_⟩
        have e7 := same_new (o := .lst [.int 1]) hA
        refine ⟨_, rfl, _, _, rfl, rfl, 1, ((i + 2 : Nat) : Int), by show [V.int 1, V.int ((1 + (i : Int)) + 1)] = _; rw [show ((1 + (i : Int)) + 1) = ((i + 2 : Nat) : Int) by omega], ⟨by decide, by decide, by omega, by omega⟩, fun D hD => ?_⟩
        rw [show (((i + 2 : Nat) : Int) - 1).toNat = i + 1 by omega]
        have nD := same_none e7 hD
        have nAD : A ≠ D := ne_of_none upd_same hD
        refine lc_range (lo := 1) (n := i + 1) (fun j H' => Same H4 H' ∧ H' A = some (.lst [.int 1]) ∧ H' D = some (.lst (((List.range j).map fun j => (utT i ++ [0]).getD j 0 + 2 ^ (j + 1) * (utT i ++ [0]).getD (j + 1) 0).map V.int))) ⟨same_over e7 nD, by rw [upd_ne nAD, upd_same], upd_same⟩ ?_ ?_
        · rintro j H5 hj ⟨s5, hA5, hD5⟩
          refine ⟨rfl, _, rfl, _, rfl, _, _, rfl, rfl, La, _, _, _, rfl, rfl, SqL.of (s5 _ _ hLa6), ints_atZ (i := j) (by omega) (by rw [ll]; omega), ?_⟩
          refine ⟨_, rfl, _, rfl, Pw, _, _, _, rfl, rfl, SqL.of (s5 _ _ (e6 _ _ hP3)), ints_atZ (i := j + 1) (by omega) (by rw [pwL_len]; omega), ?_⟩
          rw [pwL_get (by omega)]
          refine ⟨_, rfl, _, rfl, La, _, _, _, rfl, rfl, SqL.of (s5 _ _ hLa6), ints_atZ (i := j + 1) (by omega) (by rw [ll]; omega), _, _, rfl, rfl, .inl (pw_small (j + 1) (by omega)), _, _, rfl, rfl, ?_⟩
          refine ⟨_, hD5, ?_, same_over s5 nD, by rw [upd_ne nAD]; exact hA5, ?_⟩
          · rw [List.length_map, List.length_map, List.length_range, sizeLine_eq]; omega
          · rw [upd_same, List.range_succ, List.map_append, List.map_append]
            rfl
        · rintro H5 ⟨s5, hA5, hD5⟩
          refine ⟨A, D, _, _, rfl, rfl, hA5, hD5, ?_, fun Tn hTn => ?_⟩
          · rw [List.length_map, List.length_map, List.length_range, sizeLine_eq]
            show 1 + (i + 1) ≤ _
            omega
          have e8 := s5.trans (same_new (o := .lst ([.int 1] ++ ((List.range (i + 1)).map fun j => (utT i ++ [0]).getD j 0 + 2 ^ (j + 1) * (utT i ++ [0]).getD (j + 1) 0).map V.int)) hTn)
          have hT6 : upd H5 Tn (.lst ([.int 1] ++ ((List.range (i + 1)).map fun j => (utT i ++ [0]).getD j 0 + 2 ^ (j + 1) * (utT i ++ [0]).getD (j + 1) 0).map V.int)) Tn = some (.lst ((utT (i + 1)).map V.int)) := by
            rw [upd_same]
            show some (HO.lst ([V.int 1] ++ _)) = some (HO.lst ((([1] : List Int) ++ _).map V.int))
            rw [List.map_append]
            rfl
          have nTn : H3 Tn = none := same_none (e6.trans s5) hTn
          generalize upd H5 Tn (.lst ([.int 1] ++ ((List.range (i + 1)).map fun j => (utT i ++ [0]).getD j 0 + 2 ^ (j + 1) * (utT i ++ [0]).getD (j + 1) 0).map V.int)) = H6 at e8 hT6 ⊢
          have e9 := e6.trans e8
          have hF6 := e9 _ _ hF3
          have nTnF : Tn ≠ Fo := (ne_of_none hF3 nTn).symm
          obtain ⟨t1, t2⟩ := tr_eq i (by omega)
          refine ⟨_, rfl, .inl ⟨rfl, _, SqL.of hF6⟩, ?_⟩
          refine ⟨_, rfl, _, rfl, _, _, rfl, rfl, _, _, rfl, rfl, .inl ⟨by omega, by omega⟩, _, _, rfl, rfl, ⟨by decide, by decide⟩, (i + 1) * i / 2, by show [V.int ((1 + (i : Int)) * ((1 + (i : Int)) - 1) / 2)] = _; rw [t1], t2, ?_⟩
          refine ⟨_, rfl, ((i + 1 : Nat) : Int), by show [V.int (1 + (i : Int))] = _; rw [show (1 + (i : Int)) = ((i + 1 : Nat) : Int) by omega], by omega, by omega, fun D2 hD2 => ?_⟩
          refine lc_range (lo := 0) (n := i + 1) (fun j H' => Same H6 H' ∧ H' D2 = some (.lst (((List.range j).map fun j => (utT (i + 1)).getD j 0 * (utF i).getD j 0).map V.int))) ⟨same_new hD2, upd_same⟩ ?_ ?_
          · rintro j H7 hj ⟨s7, hD7⟩
            refine ⟨rfl, _, rfl, _, rfl, Tn, _, _, _, rfl, rfl, SqL.of (s7 _ _ hT6), ints_atZ (i := j) (by omega) (by rw [utT_len]; omega), ?_⟩
            refine ⟨_, rfl, _, rfl, Fo, _, _, _, rfl, rfl, SqL.of (s7 _ _ hF6), ints_atZ (i := j) (by omega) (by rw [utF_len]; omega), _, _, rfl, rfl, ut_ok i (by omega) j hj, ?_⟩
            refine ⟨_, hD7, ?_, same_over s7 hD2, ?_⟩
            · rw [List.length_map, List.length_map, List.length_range, sizeLine_eq]; omega
            · rw [upd_same, List.range_succ, List.map_append, List.map_append]
              rfl
          · rintro H7 ⟨s7, hD7⟩
            refine ⟨D2, _, rfl, SqL.of hD7, _, _, rfl, rfl, ?_⟩
            refine ⟨Fo, _, _, rfl, rfl, s7 _ _ hF6, ?_, ?_⟩
            · rw [List.length_map, utF_len, sizeLine_eq]; omega
            · have nPw : Pw ≠ Fo := nPF
              refine ⟨Tn, _, _, _, rfl, same_over ((s3.trans e9).trans s7) nF, nTnF, ?_, ?_, ?_⟩
              · rw [upd_ne nPw]; exact s7 _ _ (e9 _ _ hP3)
              · rw [upd_ne nTnF]; exact s7 _ _ hT6
              · rw [upd_same]
                show some (HO.lst (_ ++ [V.int _])) = some (HO.lst ((utF i ++ [_]).map V.int))
                rw [List.map_append]
                rfl
      · rintro σ H3 ⟨Tb, v1, v5, v6, rfl, s3, nT, hP3, hT3, hF3⟩
        exact ⟨_, rfl, k _ Fo s3 hF3⟩
end
end Wd
end
section
set_option maxRecDepth 100000
set_option maxHeartbeats 1000000
namespace Wd
open PySem L2
def fwI (m : Nat) : Nat → Int
  | 0 => 1
  | i + 1 => if (m : Int) - 1 - (i : Int) > (i : Int) then fwI m i * (2 ^ (m - 1 - i) - 2 ^ i) else 0
def foI (s : Nat) : Nat → Int
  | 0 => 1
  | i + 1 => foI s i * (2 ^ s - 2 ^ i)
def fO (m s : Nat) : Int := fwI m s / foI s s
def fW (m s : Nat) : Int := if m % 2 = 1 then fO m s else 2 ^ s * fO (m - 1) s + if s > 0 then fO (m - 1) (s - 1) else 0
theorem fo_ok : ∀ s : Nat, s < 11 → 0 < foI s s ∧ (foI s s).natAbs.log2 < 9000 := by decide +kernel
theorem fm_ok : ∀ i : Nat, i < 16 → ∀ s : Nat, s < 16 → -(2 ^ 64) < (2 : Int) ^ i - 2 ^ s ∧ (2 : Int) ^ i - 2 ^ s < 2 ^ 64 := by decide +kernel
def spFO : Sp := fun vs H Q _ => ∃ m s : Nat, vs = [.int (m : Int), .int (s : Int)] ∧ m % 2 = 1 ∧ m ≤ 14 ∧ s ≤ 10 ∧ ∀ H', Same H H' → Q (.int (fO m s)) H'
def spFW : Sp := fun vs H Q _ => ∃ m s : Nat, vs = [.int (m : Int), .int (s : Int)] ∧ 1 ≤ m ∧ m ≤ 14 ∧ s ≤ 10 ∧ ∀ H', Same H H' → Q (.int (fW m s)) H'
section
variable {P : Program} {w : World} {K : PySem.W.Frag} {mg : Str → Option Value} {base : Heap}
theorem ok_families0 {f : Addr} {fd : FuncData} (F : Fun K "_law_families" "_law_families" s_families f fd) (T : Bt mg) (C1 : Has P w K mg base 1 "_law_power" ["_law_number"] (spP 200)) : FnOk P w K mg base CX0 2 f fd ["_law_many", "_law_size"] spFO := by
  obtain ⟨f1, d1, G1, m1, k1, b1⟩ := C1
  refine F.ok c_families (fun vs H Q E h => ?_) (fun cdv A outer s H vs Q E hr h => ?_)
  · obtain ⟨_, _, rfl, _⟩ := h
    rfl
  · obtain ⟨m, z, rfl, mo, m14, z7, k⟩ := h
    refine ⟨_, pss_cons (ps_if (pt_cmpR op_eq (pe_op op_mod (pe_callTy call_int1 (by rfl) T.int (by decide +kernel) (pa_cons (pv 0) pa_nil)) pe_int) pe_int (nomark _))
      (pss_cons (ps_asg (pe_tup (pa_cons pe_int (pa_cons pe_int pa_nil))) (pg_tup rfl (pgs_cons (pg_name (i := 2) c_families.nd rfl (Or.inl rfl)) (pgs_cons (pg_name (i := 3) c_families.nd rfl (Or.inl rfl)) pgs_nil))))
      (pss_cons (ps_for PassesOwn.never rfl (pi_range1 rfl T.range (pa_cons (pv 1) pa_nil)) (pg_name (i := 4) c_families.nd rfl (Or.inl rfl))
        (pss_cons (ps_set (i := 2) c_families.nd rfl (Or.inl rfl) (pe_ifExp (pt_cmpR op_gt (pe_op op_sub (pe_op op_sub (pv 0) pe_int) (pv 4)) (pv 4) (nomark _))
          (pe_op op_mul (pv 2) (pe_op op_sub (pe_call G1 hr rfl m1 k1 b1 .nil pass0 (pa_cons (pe_op op_sub (pe_op op_sub (pv 0) pe_int) (pv 4)) pa_nil)) (pe_call G1 hr rfl m1 k1 b1 .nil pass0 (pa_cons (pv 4) pa_nil)))) pe_int))
        (pss_one (ps_set (i := 3) c_families.nd rfl (Or.inl rfl) (pe_op op_mul (pv 3) (pe_op op_sub (pe_call G1 hr rfl m1 k1 b1 .nil pass0 (pa_cons (pv 1) pa_nil)) (pe_call G1 hr rfl m1 k1 b1 .nil pass0 (pa_cons (pv 4) pa_nil))))))))
      (pss_one (ps_ret (pe_op op_fdivW (pv 2) (pv 3)))))) pss_nil) pss_never, ?_⟩
    refine ⟨_, rfl, .inl ⟨_, rfl, _, _, rfl, rfl, (by show (0 : Int) < 2; decide), rfl, _, rfl, ite_t (decide_eq_true (congrArg V.int (show (m : Int) % 2 = 1 by omega))) ?_⟩⟩
    refine ⟨by show 2 ≤ sizeLine; decide, fun TT hTT => ⟨TT, _, rfl, SqT.of upd_same, rfl, _, _, rfl, _, _, rfl, rfl, ?_⟩⟩
    have e1 := same_new (o := .tup [.int 1, .int 1]) hTT
    generalize upd H TT (.tup [.int 1, .int 1]) = H1 at e1 ⊢
    refine ⟨_, rfl, (z : Int), rfl, by omega, by omega, ?_⟩
    refine for_range (lo := 0) (n := z) (fun i σ H' => ∃ v4 v5 : Option V, σ = [some (.int (m : Int)), some (.int (z : Int)), some (.int (fwI m i)), some (.int (foI z i)), v4, v5] ∧ H' = H1) ⟨none, none, rfl, rfl⟩ ?_ ?_
    · rintro i σ H' hi ⟨v4, v5, rfl, rfl⟩
      rw [Int.zero_add]
      refine ⟨_, rfl, _, _, rfl, rfl, _, rfl, _, _, rfl, rfl, _, rfl, _, _, rfl, rfl, _, rfl, ?_⟩
      have f2 := fm_ok z (by omega) i (by omega)
      refine ite2 (fun hb => ?_) (fun hb => ?_)
      · have hb : (i : Int) < (m : Int) - 1 - (i : Int) := of_decide_eq_true hb
        have ee : fwI m (i + 1) = fwI m i * (2 ^ (m - 1 - i) - 2 ^ i) := if_pos hb
        refine ⟨_, rfl, _, rfl, _, _, rfl, rfl, _, rfl, _, _, rfl, rfl, m - 1 - i, by show [V.int ((m : Int) - 1 - (i : Int))] = _; rw [show ((m : Int) - 1 - (i : Int)) = ((m - 1 - i : Nat) : Int) by omega], by omega, ?_⟩
        refine ⟨_, rfl, i, rfl, by omega, _, _, rfl, rfl, _, _, rfl, rfl, .inr (fm_ok (m - 1 - i) (by omega) i (by omega)), ?_⟩
        refine ⟨_, rfl, _, rfl, z, rfl, by omega, _, rfl, i, rfl, by omega, _, _, rfl, rfl, _, _, rfl, rfl, .inr f2, ?_⟩
        exact ⟨_, _, congrArg (fun x => [some (V.int (m : Int)), some (V.int (z : Int)), some (V.int x), some (V.int (foI z (i + 1))), some (V.int (i : Int)), v5]) ee.symm, rfl⟩
      · have hb : ¬ (i : Int) < (m : Int) - 1 - (i : Int) := fun z => hb (decide_eq_true z)
        have ee : fwI m (i + 1) = 0 := if_neg hb
        refine ⟨_, rfl, _, rfl, z, rfl, by omega, _, rfl, i, rfl, by omega, _, _, rfl, rfl, _, _, rfl, rfl, .inr f2, ?_⟩
        exact ⟨_, _, congrArg (fun x => [some (V.int (m : Int)), some (V.int (z : Int)), some (V.int x), some (V.int (foI z (i + 1))), some (V.int (i : Int)), v5]) ee.symm, rfl⟩
    · rintro σ H' ⟨v4, v5, rfl, rfl⟩
      exact ⟨_, rfl, _, rfl, _, _, rfl, rfl, fo_ok z (by omega), k _ e1⟩
theorem ok_families {f : Addr} {fd : FuncData} (F : Fun K "_law_families" "_law_families" s_families f fd) (T : Bt mg) (C1 : Has P w K mg base 1 "_law_power" ["_law_number"] (spP 200)) (C2 : Has P w K mg base 2 "_law_families" ["_law_many", "_law_size"] spFO) : FnOk P w K mg base CX0 3 f fd ["_law_many", "_law_size"] spFW := by
  obtain ⟨f1, d1, G1, m1, k1, b1⟩ := C1
  obtain ⟨f2, d2, G2, m2, k2, b2⟩ := C2
  refine F.ok c_families (fun vs H Q E h => ?_) (fun cdv A outer s H vs Q E hr h => ?_)
  · obtain ⟨_, _, rfl, _⟩ := h
    rfl
  · obtain ⟨m, z, rfl, mp, m14, z7, k⟩ := h
    have hr1 : Room 1 _ := hr.mono (by decide)
    refine ⟨_, pss_cons (ps_if (pt_cmpR op_eq (pe_op op_mod (pe_callTy call_int1 (by rfl) T.int (by decide +kernel) (pa_cons (pv 0) pa_nil)) pe_int) pe_int (nomark _))
      (pss_cons (ps_asg (pe_tup (pa_cons pe_int (pa_cons pe_int pa_nil))) (pg_tup rfl (pgs_cons (pg_name (i := 2) c_families.nd rfl (Or.inl rfl)) (pgs_cons (pg_name (i := 3) c_families.nd rfl (Or.inl rfl)) pgs_nil))))
      (pss_cons (ps_for PassesOwn.never rfl (pi_range1 rfl T.range (pa_cons (pv 1) pa_nil)) (pg_name (i := 4) c_families.nd rfl (Or.inl rfl))
        (pss_cons (ps_set (i := 2) c_families.nd rfl (Or.inl rfl) (pe_ifExp (pt_cmpR op_gt (pe_op op_sub (pe_op op_sub (pv 0) pe_int) (pv 4)) (pv 4) (nomark _))
          (pe_op op_mul (pv 2) (pe_op op_sub (pe_call G1 hr1 rfl m1 k1 b1 .nil pass0 (pa_cons (pe_op op_sub (pe_op op_sub (pv 0) pe_int) (pv 4)) pa_nil)) (pe_call G1 hr1 rfl m1 k1 b1 .nil pass0 (pa_cons (pv 4) pa_nil)))) pe_int))
        (pss_one (ps_set (i := 3) c_families.nd rfl (Or.inl rfl) (pe_op op_mul (pv 3) (pe_op op_sub (pe_call G1 hr1 rfl m1 k1 b1 .nil pass0 (pa_cons (pv 1) pa_nil)) (pe_call G1 hr1 rfl m1 k1 b1 .nil pass0 (pa_cons (pv 4) pa_nil))))))))
      (pss_one (ps_ret (pe_op op_fdivW (pv 2) (pv 3)))))) pss_nil)
      (pss_cons (ps_set (i := 5) c_families.nd rfl (Or.inl rfl) (pe_ifExp (pt_cmpR op_gt (pv 1) pe_int (nomark _)) (pe_call G2 hr rfl m2 k2 b2 .nil pass0 (pa_cons (pe_op op_sub (pv 0) pe_int) (pa_cons (pe_op op_sub (pv 1) pe_int) pa_nil))) pe_int))
      (pss_one (ps_ret (pe_op op_add (pe_op op_mul (pe_call G1 hr1 rfl m1 k1 b1 .nil pass0 (pa_cons (pv 1) pa_nil)) (pe_call G2 hr rfl m2 k2 b2 .nil pass0 (pa_cons (pe_op op_sub (pv 0) pe_int) (pa_cons (pv 1) pa_nil)))) (pv 5))))), ?_⟩
    refine ⟨_, rfl, .inl ⟨_, rfl, _, _, rfl, rfl, (by show (0 : Int) < 2; decide), rfl, _, rfl, ?_⟩⟩
    refine ite2 (fun hb => ?_) (fun hb => ?_)
    · have mo : m % 2 = 1 := by
        have := V.int.inj (of_decide_eq_true hb)
        omega
      have e0 : fW m z = fO m z := by unfold fW; rw [if_pos mo]
      rw [e0] at k
      refine ⟨by show 2 ≤ sizeLine; decide, fun TT hTT => ⟨TT, _, rfl, SqT.of upd_same, rfl, _, _, rfl, _, _, rfl, rfl, ?_⟩⟩
      have e1 := same_new (o := .tup [.int 1, .int 1]) hTT
      generalize upd H TT (.tup [.int 1, .int 1]) = H1 at e1 ⊢
      refine ⟨_, rfl, (z : Int), rfl, by omega, by omega, ?_⟩
      refine for_range (lo := 0) (n := z) (fun i σ H' => ∃ v4 v5 : Option V, σ = [some (.int (m : Int)), some (.int (z : Int)), some (.int (fwI m i)), some (.int (foI z i)), v4, v5] ∧ H' = H1) ⟨none, none, rfl, rfl⟩ ?_ ?_
      · rintro i σ H' hi ⟨v4, v5, rfl, rfl⟩
        rw [Int.zero_add]
        refine ⟨_, rfl, _, _, rfl, rfl, _, rfl, _, _, rfl, rfl, _, rfl, _, _, rfl, rfl, _, rfl, ?_⟩
        have f2 := fm_ok z (by omega) i (by omega)
        refine ite2 (fun hb => ?_) (fun hb => ?_)
        · have hb : (i : Int) < (m : Int) - 1 - (i : Int) := of_decide_eq_true hb
          have ee : fwI m (i + 1) = fwI m i * (2 ^ (m - 1 - i) - 2 ^ i) := if_pos hb
          refine ⟨_, rfl, _, rfl, _, _, rfl, rfl, _, rfl, _, _, rfl, rfl, m - 1 - i, by show [V.int ((m : Int) - 1 - (i : Int))] = _; rw [show ((m : Int) - 1 - (i : Int)) = ((m - 1 - i : Nat) : Int) by omega], by omega, ?_⟩
          refine ⟨_, rfl, i, rfl, by omega, _, _, rfl, rfl, _, _, rfl, rfl, .inr (fm_ok (m - 1 - i) (by omega) i (by omega)), ?_⟩
          refine ⟨_, rfl, _, rfl, z, rfl, by omega, _, rfl, i, rfl, by omega, _, _, rfl, rfl, _, _, rfl, rfl, .inr f2, ?_⟩
          exact ⟨_, _, congrArg (fun x => [some (V.int (m : Int)), some (V.int (z : Int)), some (V.int x), some (V.int (foI z (i + 1))), some (V.int (i : Int)), v5]) ee.symm, rfl⟩
        · have hb : ¬ (i : Int) < (m : Int) - 1 - (i : Int) := fun z => hb (decide_eq_true z)
          have ee : fwI m (i + 1) = 0 := if_neg hb
          refine ⟨_, rfl, _, rfl, z, rfl, by omega, _, rfl, i, rfl, by omega, _, _, rfl, rfl, _, _, rfl, rfl, .inr f2, ?_⟩
          exact ⟨_, _, congrArg (fun x => [some (V.int (m : Int)), some (V.int (z : Int)), some (V.int x), some (V.int (foI z (i + 1))), some (V.int (i : Int)), v5]) ee.symm, rfl⟩
      · rintro σ H' ⟨v4, v5, rfl, rfl⟩
        exact ⟨_, rfl, _, rfl, _, _, rfl, rfl, fo_ok z (by omega), k _ e1⟩
    · have mo : ¬ m % 2 = 1 := fun y => hb (decide_eq_true (congrArg V.int (show (m : Int) % 2 = 1 by omega)))
      have e0 : fW m z = 2 ^ z * fO (m - 1) z + if z > 0 then fO (m - 1) (z - 1) else 0 := by unfold fW; rw [if_neg mo]
      rw [e0] at k
      have ez := pw_small z (by omega)
      refine ⟨_, rfl, _, _, rfl, rfl, _, rfl, ?_⟩
      refine ite2 (fun hz => ?_) (fun hz => ?_)
      · have hz : 0 < (z : Int) := of_decide_eq_true hz
        rw [if_pos (show z > 0 by omega)] at k
        refine ⟨_, rfl, _, _, rfl, rfl, _, rfl, _, _, rfl, rfl, m - 1, z - 1, by show [V.int ((m : Int) - 1), V.int ((z : Int) - 1)] = _; rw [show ((m : Int) - 1) = ((m - 1 : Nat) : Int) by omega, show ((z : Int) - 1) = ((z - 1 : Nat) : Int) by omega], by omega, by omega, by omega, fun H1 s1 => ?_⟩
        refine ⟨_, rfl, z, rfl, by omega, _, rfl, _, _, rfl, rfl, _, rfl, m - 1, z, by show [V.int ((m : Int) - 1), V.int (z : Int)] = _; rw [show ((m : Int) - 1) = ((m - 1 : Nat) : Int) by omega], by omega, by omega, by omega, fun H2 s2 => ?_⟩
        exact ⟨_, _, rfl, rfl, .inl ez, _, rfl, _, _, rfl, rfl, k _ (s1.trans s2)⟩
      · have hz : ¬ 0 < (z : Int) := fun y => hz (decide_eq_true y)
        rw [if_neg (show ¬ z > 0 by omega)] at k
        refine ⟨_, rfl, z, rfl, by omega, _, rfl, _, _, rfl, rfl, _, rfl, m - 1, z, by show [V.int ((m : Int) - 1), V.int (z : Int)] = _; rw [show ((m : Int) - 1) = ((m - 1 : Nat) : Int) by omega], by omega, by omega, by omega, fun H2 s2 => ?_⟩
        exact ⟨_, _, rfl, rfl, .inl ez, _, rfl, _, _, rfl, rfl, k _ s2⟩
end
end Wd
end
section
set_option maxRecDepth 100000
set_option maxHeartbeats 4000000
namespace KxN
open PySem PySem.Spec PyProof.Rows L2
/-! a dictionary whose keys are tuples of tuples of whole numbers, its values objects: told as an object of one's own; d[k] = v; list(d.values()) -/
def inL (r : List Nat) : List V := r.map fun (n : Nat) => V.int (n : Int)
def nkI (r : List Nat) : NestedKey := .tup (r.map fun (n : Nat) => NestedKey.num (n : Int))
def nkF (f : List (List Nat)) : NestedKey := .tup (f.map nkI)
abbrev Ent := List (List Nat) × Addr × Addr
def rawE (e : Ent) : NestedKey × Addr × Value := (nkF e.1, e.2.1, Value.ref e.2.2)
def NdP (P : Program) (w : World) (a : Addr) (xs : List Ent) : Heap → Prop := fun h => (a == sysModules) = false ∧ ∃ o es ep, h.get? a = some o ∧ o.ExactDict ∧ o.data = Data.dict es ep ∧ es.toList = (xs.map rawE).map (entryOfKey (nestedKind P w)) ∧ ((xs.map rawE).map fun x => x.1).Nodup
def NdO (P : Program) (w : World) (a : Addr) (xs : List Ent) : HO := .ext (NdP P w a xs)
def KeyAt (H : Hp) (T : Addr) (f : List (List Nat)) : Prop := ∃ Us : List Addr, H T = some (.tup (Us.map V.ref)) ∧ Us.length = f.length ∧ ∀ (i : Nat) U r, Us[i]? = some U → f[i]? = some r → H U = some (.tup (inL r))
def stoN (xs : List Ent) (f : List (List Nat)) (T va : Addr) : List Ent := if (xs.any fun e => decide (e.1 = f)) = true then xs.map fun e => if e.1 = f then (e.1, e.2.1, va) else e else xs ++ [(f, T, va)]
theorem nkI_inj {r s : List Nat} (h : nkI r = nkI s) : r = s := by
  have h : (r.map fun (n : Nat) => NestedKey.num (n : Int)) = s.map fun (n : Nat) => NestedKey.num (n : Int) := NestedKey.tup.inj h
  have e : ∀ l : List Nat, (l.map fun (n : Nat) => NestedKey.num (n : Int)).map (fun k => match k with | .num i => i.toNat | _ => 0) = l := fun l => by
    rw [List.map_map]
    exact List.map_id l
  rw [← e r, ← e s, h]
theorem nkF_inj {f g : List (List Nat)} (h : nkF f = nkF g) : f = g := by
  have h : f.map nkI = g.map nkI := NestedKey.tup.inj h
  induction f generalizing g with
  | nil =>
    cases g with
    | nil => rfl
    | cons a b => cases h
  | cons a b ih =>
    cases g with
    | nil => cases h
    | cons c d =>
      have h' := List.cons.inj h
      rw [nkI_inj h'.1, ih (congrArg NestedKey.tup h'.2) h'.2]
theorem depth_le {l : List NestedKey} {b : Nat} (h : ∀ k ∈ l, k.depth ≤ b) : NestedKey.depthAll l ≤ b := by
  induction l with
  | nil => simp [NestedKey.depthAll]
  | cons k r ih =>
    have h1 := h k (List.mem_cons_self ..)
    have h2 := ih fun q hq => h q (List.mem_cons_of_mem _ hq)
    simp only [NestedKey.depthAll]
    omega
theorem row_is {P : Program} {w : World} {H : Hp} {h : Heap} (ok : HOk P w H h) {U : Addr} {r : List Nat} (e : H U = some (.tup (inL r))) : NestedIs h (nkI r) (Value.ref U) := by
  obtain ⟨_, its, vs, o, ho, hc, n, hd⟩ := ok U _ e
  refine .tup ho hc hd ?_
  have key : ∀ (r : List Nat) (us : List Value), Vals (inL r) us → NestedAll h (r.map fun (n : Nat) => NestedKey.num (n : Int)) us := by
    intro r
    induction r with
    | nil =>
      intro us v
      cases v
      exact .nil
    | cons a b ih =>
      intro us v
      cases v with
      | cons h1 h2 =>
        obtain ⟨t, rfl⟩ := h1
        exact .cons (.int _ _) (ih _ h2)
  have := key r its vs
  simpa using this
theorem key_is {P : Program} {w : World} {H : Hp} {h : Heap} (ok : HOk P w H h) {T : Addr} {f : List (List Nat)} (k : KeyAt H T f) : (nestedKind P w).is h (nkF f) T := by
  obtain ⟨Us, hT, hl, hU⟩ := k
  refine ⟨?_, ?_⟩
  · obtain ⟨_, its, vs, o, ho, hc, n, hd⟩ := ok T _ hT
    refine .tup ho hc hd ?_
    have key : ∀ (Us : List Addr) (f : List (List Nat)) (us : List Value), Us.length = f.length → (∀ (i : Nat) U r, Us[i]? = some U → f[i]? = some r → H U = some (.tup (inL r))) → Vals (Us.map V.ref) us → NestedAll h (f.map nkI) us := by
      intro Us
      induction Us with
      | nil =>
        intro f us hl _ v
        cases v
        cases f with
        | nil => exact .nil
        | cons a b => cases hl
      | cons a b ih =>
        intro f us hl hu v
        cases f with
        | nil => cases hl
        | cons c d =>
          cases v with
          | cons h1 h2 =>
            cases h1
            exact .cons (row_is ok (hu 0 a c rfl rfl)) (ih d _ (Nat.succ.inj hl) (fun i U r e1 e2 => hu (i + 1) U r e1 e2) h2)
    have := key Us f its hl hU vs
    simpa using this
  · have d1 : ∀ k ∈ f.map nkI, k.depth ≤ 1 := fun k hk => by
      obtain ⟨r, _, rfl⟩ := List.mem_map.mp hk
      have d0 : NestedKey.depthAll (r.map fun (n : Nat) => NestedKey.num (n : Int)) ≤ 0 := depth_le fun q hq => by
        obtain ⟨z, _, rfl⟩ := List.mem_map.mp hq
        simp [NestedKey.depth]
      have e : (nkI r).depth = NestedKey.depthAll (r.map fun (n : Nat) => NestedKey.num (n : Int)) + 1 := by
        unfold nkI
        simp only [NestedKey.depth]
      omega
    have d2 := depth_le d1
    have e : (nkF f).depth = NestedKey.depthAll (f.map nkI) + 1 := by
      unfold nkF
      simp only [NestedKey.depth]
    omega
theorem stored_eq (xs : List Ent) (f : List (List Nat)) (T va : Addr) : storedH (xs.map rawE) (nkF f) T (Value.ref va) = (stoN xs f T va).map rawE := by
  have hd : ∀ e : Ent, ((rawE e).1 = nkF f) ↔ e.1 = f := fun e => ⟨nkF_inj, congrArg nkF⟩
  have ha : (atKey (xs.map rawE) (nkF f)).isSome = xs.any fun e => decide (e.1 = f) := by
    unfold atKey
    rw [Option.isSome_map, List.isSome_find?, List.any_map]
    congr 1
    funext e
    exact decide_eq_decide.mpr (hd e)
  unfold storedH stoN
  rw [ha]
  by_cases c : (xs.any fun e => decide (e.1 = f)) = true
  · rw [if_pos c, if_pos c, List.map_map, List.map_map]
    refine List.map_congr_left fun e _ => ?_
    show putAt (nkF f) (Value.ref va) (rawE e) = rawE (if e.1 = f then (e.1, e.2.1, va) else e)
    unfold putAt
    by_cases q : e.1 = f
    · rw [if_pos ((hd e).mpr q), if_pos q]
      rfl
    · rw [if_neg fun z => q ((hd e).mp z), if_neg q]
  · rw [if_neg c, if_neg c, List.map_append]
    rfl
theorem sto_len (xs : List Ent) (f : List (List Nat)) (T va : Addr) : (stoN xs f T va).length ≤ xs.length + 1 := by
  unfold stoN
  split
  · rw [List.length_map]; omega
  · rw [List.length_append]; exact Nat.le_refl _
theorem empty_dT {P : Program} {w : World} {H : Hp} {h : Heap} {a : Addr} (z : ObjOk P w H h a (.dT [])) : NdP P w a [] h := by
  obtain ⟨_, s, xs, p, o, es, ep, h1, h2, h3, h4, h5⟩ := z
  cases p
  exact ⟨s, o, es, ep, h1, h2, h3, h4, List.nodup_nil⟩
def rSetN (P : Program) (w : World) : V → V → V → Hp → (Hp → Prop) → Prop := fun o i v H Q => ∃ (d T va : Addr) (xs : List Ent) (f : List (List Nat)), o = .ref d ∧ i = .ref T ∧ v = .ref va ∧ ((H d = some (.dT []) ∧ xs = []) ∨ H d = some (NdO P w d xs)) ∧ (∀ e ∈ xs, KeyAt H e.2.1 e.1) ∧ KeyAt H T f ∧ xs.length < 1000000 ∧ Q (upd H d (NdO P w d (stoN xs f T va)))
theorem set_nd {X : Cx} (hu : X.A.units + 64 < cLine) : PSet X (rSetN X.prog X.w) := by
  intro pins s σ H o i v ov iv u Q I ro ri rv h
  obtain ⟨d, T, va, xs, f, rfl, rfl, rfl, hd, hk, hT, few, q⟩ := h
  cases ro
  cases ri
  cases rv
  have nd : NdP X.prog X.w d xs s.heap ∧ Mut (H d) := by
    rcases hd with ⟨hd, rfl⟩ | hd
    · exact ⟨empty_dT (I.hok d _ hd), by rw [hd]; trivial⟩
    · exact ⟨(I.hok d _ hd).1, by rw [hd]; trivial⟩
  obtain ⟨⟨sm, o, es, ep, h1, h2, h3, h4, h5⟩, mt⟩ := nd
  have dh : Heap.DictOfH (nestedKind X.prog X.w) s.heap d (xs.map rawE) := ⟨o, es, ep, h1, h2, h3, h4, fun x hx => by
    obtain ⟨e, he, rfl⟩ := List.mem_map.mp hx
    exact key_is I.hok (hk e he), h5⟩
  refine wpAny_setItem_heap (knd := nestedKind X.prog X.w) (show X.A.in1.units + 8 < cLine from by show X.A.units + 1 + 8 < cLine; omega) (key_is I.hok hT) dh (fun h' dd' hs => ?_) (by rw [List.length_map, sizeLine_eq]; omega)
  rw [stored_eq] at dd'
  obtain ⟨o', es', ep', g1, g2, g3, g4, g5, g6⟩ := dd'
  refine ⟨_, d_write I mt hs ⟨_, g1⟩ ?_, q⟩
  refine ⟨⟨sm, o', es', ep', g1, g2, g3, g4, g6⟩, ⟨_, g1⟩, fun a b z kp => ?_⟩
  obtain ⟨sm, o, es, ep, z1, z2⟩ := z
  exact ⟨sm, o, es, ep, kp _ z1, z2⟩
theorem kdl_valsRaw {prog : Program} {w : World} {d r : Addr} {es : Array DictEntry} {ep : Nat} : W.KdlSrc prog w "dict_values" r d es.size (fun i v => ∃ hi : i < es.size, v = es[i].val) fun h => h.IsValuesView r d ∧ h.DictRaw d es ep where
  type := fun x hm => Heap.IsValuesView.typeIs hm.1
  there := fun x hm => by
    obtain ⟨⟨o, ho, _⟩, ⟨o2, ho2, _⟩⟩ := hm
    exact ⟨Heap.lt_size ho, Heap.lt_size ho2⟩
  keep := fun x y hm hk => by
    obtain ⟨⟨o, ho, z⟩, ⟨o2, ho2, z2⟩⟩ := hm
    exact ⟨⟨o, hk r (.inl rfl) o ho, z⟩, ⟨o2, hk d (.inr rfl) o2 ho2, z2⟩⟩
  notList := by decide
  notTuple := by decide
  hint := fun x y z q hm hq => W.kdl_hint_values (Heap.IsValuesView.typeIs hm.1) hq
  iter := fun A s hh hm => by
    obtain ⟨hv, o2, ho2, z2⟩ := hm
    refine ⟨_, fun i h => h.IsValIter s.heap.objs.size d i es.size ep ∧ h.DictRaw d es ep, fun E Q hq => wpAny_pyIter_values_raw hv ⟨o2, ho2, z2⟩ hq, Walks.rawValues hh s.heap.objs.size d (Nat.ne_of_lt (Heap.lt_size ho2)) es ep, ⟨_, Heap.get?_push_size _ rfl, rfl, rfl⟩, ⟨o2, Heap.get?_push_of_some _ ho2, z2⟩⟩
def tListValsN (P : Program) (w : World) (te : TE) : TE := fun σ H Q => te σ H fun x H1 => ∃ (d : Addr) (xs : List Ent), x = .ref d ∧ ((H1 d = some (.dT []) ∧ xs = []) ∨ H1 d = some (NdO P w d xs)) ∧ xs.length < 1000000 ∧ ∀ p, H1 p = none → Q (.ref p) (upd H1 p (.lst (xs.map fun e => V.ref e.2.2)))
section
variable {X : Cx} {e : Expr} {te : TE} {p apos cpos pos : Pos}
/-- list(e.values()) -/
theorem pe_listValsN (hc : X.calm = true) (he : PE X e te) (hg : Gl X "list") (hm : X.mg "list" = none) (hv : bootBuiltins "list" = some (.type "list")) (hbase : attributeBase e "values" X.env (eval e X.env) = eval e X.env := by rfl) (hline : (apos.endLine == cpos.line) = true := by rfl)
    (hs : starEach [.Call (.Attribute e "values" apos) [] [] cpos] X.env = (false, eval (.Call (.Attribute e "values" apos) [] [] cpos) X.env) :: starEach [] X.env := by rfl) :
    PE X (.Call (.Name "list" p) [.Call (.Attribute e "values" apos) [] [] cpos] [] pos) (tListValsN X.prog X.w te) := by
  refine ⟨fun pins s σ H Q I hq => ?_⟩
  refine wpAny_Call_Name_kw (ld_blt I hg hm hv ?_)
  refine PyProof.Rows.callWith_type1 ?_ hs rfl
  rw [hs]
  show wpAny _ _ (spliced ((false, eval (.Call (.Attribute e "values" apos) [] [] cpos) X.env) :: backTo pos (starEach [] X.env))) _ _ s
  refine Calls.spliced_cons ?_
  refine wpAny_Call_method (T := "dict") (id := "dict.values") hbase rfl hline F.plainAttrs_dict F.slot_dict_values F.type_dict_values (thn (he.run pins s σ H _ I hq) fun u s1 ⟨x, H1, I1, rx, d, xs, ex, hd, few, q⟩ => ?_)
  subst ex
  obtain rfl : u = Value.ref d := rx
  have nd : NdP X.prog X.w d xs s1.heap := by
    rcases hd with ⟨hd, rfl⟩ | hd
    · exact empty_dT (I1.hok d _ hd)
    · exact (I1.hok d _ hd).1
  obtain ⟨hs0, o, es, ep, h1, h2, h3, h4, h5⟩ := nd
  have I2 : Inv X pins σ H1 { s1 with heap := s1.heap.push { cls := .type "dict_values", data := .fields #[.ref d] } } := I1.kept (t' := s1.toks) fun b ob q => Heap.get?_push_of_some _ q
  have ty : s1.TypeIs (Value.ref d) "dict" := ⟨o, h1, h2.1⟩
  refine ⟨ty, fun a e => by cases e; exact ⟨o, h1, h2.2.1⟩, ?_⟩
  have le : es.size = xs.length := by
    rw [← Array.length_toList, h4, List.length_map, List.length_map]
  show wpAny _ _ (callWith cpos (.builtin "dict.values") [.ref d] [] []) _ X.xe s1
  refine method_meetsIn F.slot_dict_values F.entry_dict_values rfl (PySem.evalArgs_none ⟨rfl, ty, F.args_dict_values_1 _, _, meets_dict_values_raw d hs0, ⟨es, ep, o, h1, h2, h3⟩, ?_⟩)
  refine Calls.spliced_nil ?_
  refine PySem.W.kdl_call (kdl_valsRaw (es := es) (ep := ep)) (I1.ok.hd hc) ⟨⟨_, Heap.get?_push_size _ rfl, rfl, rfl⟩, ⟨o, Heap.get?_push_of_some _ h1, h2, h3⟩⟩ (by rw [le, sizeLine_eq]; omega) fun h' tk acc c' hk hD hacc => ?_
  have hvl : Vals (xs.map fun e => V.ref e.2.2) acc.toList := by
    have ea : acc.toList = (xs.map fun e => e.2.2).map Value.ref := by
      refine List.ext_getElem? fun j => ?_
      by_cases hj : j < xs.length
      · have hj2 : j < acc.size := by rw [hacc.1, le]; exact hj
        obtain ⟨hi, ev⟩ := hacc.2 j acc[j] (Array.getElem?_eq_getElem hj2)
        rw [Array.getElem?_toList, Array.getElem?_eq_getElem hj2, ev, List.getElem?_map, List.getElem?_map, List.getElem?_eq_getElem hj]
        have h4' : es.toList[j]? = some (entryOfKey (nestedKind X.prog X.w) (rawE xs[j])) := by
          rw [h4, List.getElem?_map, List.getElem?_map, List.getElem?_eq_getElem hj]
          rfl
        rw [Array.getElem?_toList, Array.getElem?_eq_getElem hi] at h4'
        rw [Option.some.inj h4']
        rfl
      · rw [List.getElem?_eq_none (by rw [Array.length_toList, hacc.1, le]; omega), List.getElem?_eq_none (by rw [List.length_map, List.length_map]; omega)]
    rw [ea, show (xs.map fun e => V.ref e.2.2) = (xs.map fun e => e.2.2).map V.ref by rw [List.map_map]; rfl]
    exact vals_refs _
  refine ⟨.ref _, upd H1 _ (.lst (xs.map fun e => V.ref e.2.2)), I2.laid (t' := tk) hk (Nat.le_refl _)
    (show ObjOk X.prog X.w _ _ _ (.lst (xs.map fun e => V.ref e.2.2)) from ⟨by rw [List.length_map, sizeLine_eq]; omega, acc.toList, c', hvl, by rw [Array.toArray_toList]; exact hD⟩), rfl, q _ (I2.hok.fresh (Nat.le_refl _))⟩
end
end KxN
end
section
set_option maxRecDepth 100000
set_option maxHeartbeats 1000000
namespace Kx
open PySem PySem.Spec PyProof.Rows L2
/-! any(a list of whole numbers) -/
def rAnyI (K : PySem.W.Frag) : List V → Hp → VK → Prop := fun vs H Q => ∃ (a : Addr) (ns : List Int), vs = [V.ref a] ∧ SqL K H a (ns.map V.int) ∧ Q (.bl (ns.any fun z => z != 0)) H
theorem cr_anyI {X : Cx} (hc : X.calm = true) : CallR X (.builtin "any") (rAnyI X.K) := by
  intro pins s σ H vs us Q I r h
  obtain ⟨a, ns, rfl, hs, q⟩ := h
  obtain ⟨its, rv, hl, hz⟩ := I.list hs
  rw [Vals.ref1 r]
  have ln : its.length = ns.length := by
    have := rv.length
    rw [List.length_map] at this
    exact this.symm
  refine call_any_walk (iter_any hl.isList fun s2 e2 st hne => ?_)
  subst e2
  refine ⟨_, _, _, its.toArray.size, fun i v => its.toArray[i]? = some v, fun i h => h.IsListIter s.heap.objs.size a i ∧ h.IsList a its.toArray, fun i => ns.getD i 0 != 0, rfl, Walks.list (A := X.A.in1) (show X.A.in1.handled = none from I.ok.hd hc) s.heap.objs.size a hne its.toArray, st, ?_, fun h' tk hk => ?_⟩
  · intro i v s' Q' E' hv hq
    rw [List.getElem?_toArray] at hv
    obtain ⟨il, _⟩ := List.getElem?_eq_some_iff.mp hv
    have hg : (ns.map V.int)[i]? = some (.int (ns.getD i 0)) := by
      rw [List.getElem?_map, List.getD_eq_getElem?_getD, List.getElem?_eq_getElem (by omega)]
      rfl
    obtain ⟨w, ew, rw'⟩ := rv.get hg
    rw [hv] at ew
    obtain rfl := Option.some.inj ew
    obtain ⟨t, rfl⟩ := rw'
    exact P.truthy_int hq
  · refine ⟨.bl (ns.any fun z => z != 0), H, I.kept fun b o eo => hk b o (fun hm => ?_) (Heap.get?_push_of_some _ eo), ?_, q⟩
    · rcases List.mem_cons.mp hm with e | e
      · exact absurd (e ▸ Heap.lt_size eo) (Nat.lt_irrefl _)
      · cases e
    · show Value.bool _ = Value.bool _
      congr 1
      rw [List.size_toArray, ln]
      have e : ns = (List.range ns.length).map fun i => ns.getD i 0 := by
        apply List.ext_getElem (by simp)
        intro i h1 h2
        simp [List.getD_eq_getElem?_getD, List.getElem?_eq_getElem h1]
      conv => rhs; rw [e, List.any_map]
      rfl
end Kx
end
section
set_option maxRecDepth 100000
set_option maxHeartbeats 1000000
namespace Wd
open PySem L2
def iN (ns : List Nat) : List V := ns.map fun (n : Nat) => V.int (n : Int)
def iD (ns : List Nat) : List PyData := ns.map fun (n : Nat) => PyData.int (n : Int)
def Al {α : Type} (R : Addr → α → Prop) (As : List Addr) (xs : List α) : Prop := As.length = xs.length ∧ ∀ (i : Nat) A x, As[i]? = some A → xs[i]? = some x → R A x
theorem Al.mono {α : Type} {R R' : Addr → α → Prop} {As : List Addr} {xs : List α} (h : Al R As xs) (k : ∀ A x, R A x → R' A x) : Al R' As xs := ⟨h.1, fun i A x a b => k _ _ (h.2 i A x a b)⟩
theorem Al.snoc {α : Type} {R : Addr → α → Prop} {As : List Addr} {xs : List α} (h : Al R As xs) {A : Addr} {x : α} (r : R A x) : Al R (As ++ [A]) (xs ++ [x]) := by
  refine ⟨by rw [List.length_append, List.length_append, h.1]; rfl, fun i B y a b => ?_⟩
  rcases Nat.lt_or_ge i As.length with l | l
  · rw [List.getElem?_append_left l] at a
    rw [List.getElem?_append_left (by rw [← h.1]; exact l)] at b
    exact h.2 i B y a b
  · rw [List.getElem?_append_right l] at a
    rw [List.getElem?_append_right (by rw [← h.1]; exact l), ← h.1] at b
    cases e : i - As.length with
    | zero =>
      rw [e] at a b
      obtain rfl := Option.some.inj a
      obtain rfl := Option.some.inj b
      exact r
    | succ j =>
      rw [e] at a
      cases a
theorem Al.app {α : Type} {R : Addr → α → Prop} {As Bs : List Addr} {xs ys : List α} (h : Al R As xs) (g : Al R Bs ys) : Al R (As ++ Bs) (xs ++ ys) := by
  refine ⟨by rw [List.length_append, List.length_append, h.1, g.1], fun i B y a b => ?_⟩
  rcases Nat.lt_or_ge i As.length with l | l
  · rw [List.getElem?_append_left l] at a
    rw [List.getElem?_append_left (by rw [← h.1]; exact l)] at b
    exact h.2 i B y a b
  · rw [List.getElem?_append_right l] at a
    rw [List.getElem?_append_right (by rw [← h.1]; exact l), ← h.1] at b
    exact g.2 _ B y a b
theorem iN_at {p : List Nat} {z : Int} {i : Nat} (e : z = (i : Int)) (h : i < p.length) : atI (iN p) z = some (.int ((p.getD i 0 : Nat) : Int)) := by
  rw [e]
  refine atI_nat ?_
  unfold iN
  rw [List.getElem?_map, List.getElem?_eq_getElem h, List.getD_eq_getElem?_getD, List.getElem?_eq_getElem h]
  rfl
theorem iN_len (p : List Nat) : (iN p).length = p.length := List.length_map _
theorem foldl_next {α β : Type} {f : β → α → β} {l : List α} {i : Nat} {x : α} {z : β} (h : l[i]? = some x) : (l.take (i + 1)).foldl f z = f ((l.take i).foldl f z) x := by
  rw [take_next h, List.foldl_append]
  rfl
def tpR (H : Hp) (S : Addr) (p : List Nat) : Prop := H S = some (.tup (iN p))
def TpAt (H : Hp) (R : Addr) (pss : List (List Nat)) : Prop := ∃ Ss : List Addr, H R = some (.lst (Ss.map V.ref)) ∧ Al (tpR H) Ss pss
theorem tpR.ov {H : Hp} {S D : Addr} {p : List Nat} {xs : List V} {o : HO} (h : tpR H S p) (d : H D = some (.lst xs)) : tpR (upd H D o) S p := by
  have : D ≠ S := fun z => by
    unfold tpR at h
    rw [← z, d] at h
    cases h
  unfold tpR
  rw [upd_ne this.symm]
  exact h
def flL : Nat → List (List Nat)
  | 0 => [[]]
  | k + 1 => (flL k).map (· ++ [0]) ++ (flL k).map (· ++ [1])
theorem flL_len : ∀ k, (flL k).length = 2 ^ k
  | 0 => rfl
  | k + 1 => by
    show ((flL k).map _ ++ (flL k).map _).length = _
    rw [List.length_append, List.length_map, List.length_map, flL_len k, Nat.pow_succ]
    omega
theorem fl_few : ∀ k : Nat, k < 11 → ∀ p ∈ flL k, p.length < 100 := by decide +kernel
def spLst : Sp := fun vs H Q _ => ∃ n : Nat, vs = [.int (n : Int)] ∧ n ≤ 10 ∧ ∀ (H' : Hp) (R : Addr), Same H H' → TpAt H' R (flL n) → Q (.ref R) H'
section
variable {P : Program} {w : World} {K : PySem.W.Frag} {mg : Str → Option Value} {base : Heap}
theorem ok_lists {f : Addr} {fd : FuncData} (F : Fun K "_law_lists" "_law_lists" s_lists f fd) (T : Bt mg) : FnOk P w K mg base CX0 1 f fd ["_law_many"] spLst := by
  refine F.ok c_lists (fun vs H Q E h => ?_) (fun cdv A outer s H vs Q E hr h => ?_)
  · obtain ⟨_, rfl, _⟩ := h
    rfl
  · obtain ⟨n, rfl, n5, k⟩ := h
    refine ⟨_, pss_cons (ps_set (i := 1) c_lists.nd rfl (Or.inl rfl) (pe_lst (pa_cons (pe_tup pa_nil) pa_nil)))
      (pss_cons (ps_for PassesOwn.never rfl (pi_range1 rfl T.range (pa_cons (pv 0) pa_nil)) (pg_name (i := 2) c_lists.nd rfl (Or.inl rfl))
        (pss_one (ps_set (i := 1) c_lists.nd rfl (Or.inl rfl) (pe_op op_cat
          (pe_lc (own := [("_law_row", 3)]) (g := gName 3) (tt := tYes) rfl c_lists.nd (pi_list (pv 1)) (blkOk_by (N := ["_law_many", "_law_found", "_law_turn", "_law_row"]) (sc := defScope s_lists) (by decide +kernel)) (fun _ _ _ _ _ => pg_name (i := 3) c_lists.nd rfl (Or.inl rfl)) (fun _ _ _ _ _ => pts_nil) (fun _ _ _ _ _ => pe_op (r := rCatA K) op_catA (pv 3) (pe_tup (pa_cons pe_int pa_nil))))
          (pe_lc (own := [("_law_row", 3)]) (g := gName 3) (tt := tYes) rfl c_lists.nd (pi_list (pv 1)) (blkOk_by (N := ["_law_many", "_law_found", "_law_turn", "_law_row"]) (sc := defScope s_lists) (by decide +kernel)) (fun _ _ _ _ _ => pg_name (i := 3) c_lists.nd rfl (Or.inl rfl)) (fun _ _ _ _ _ => pts_nil) (fun _ _ _ _ _ => pe_op (r := rCatA K) op_catA (pv 3) (pe_tup (pa_cons pe_int pa_nil))))))))
      (pss_one (ps_ret (pv 1)))), ?_⟩
    refine ⟨by show 0 ≤ sizeLine; decide, fun T0 hT0 => ?_⟩
    have e1 := same_new (o := .tup []) hT0
    refine ⟨by show 1 ≤ sizeLine; decide, fun R0 hR0 => ?_⟩
    have e2 := same_new (o := .lst [.ref T0]) hR0
    have hR2 : upd (upd H T0 (.tup [])) R0 (.lst [.ref T0]) R0 = some (.lst [.ref T0]) := upd_same
    have hT2 := e2 _ _ (upd_same (H := H) (a := T0) (o := .tup []))
    have s2 := e1.trans e2
    generalize upd (upd H T0 (.tup [])) R0 (.lst [.ref T0]) = H2 at hR2 hT2 s2 ⊢
    refine ⟨_, rfl, (n : Int), rfl, by omega, by omega, ?_⟩
    refine for_range (lo := 0) (n := n) (fun j σ H' => (∃ (R : Addr) (v2 v3 : Option V), σ = [some (.int (n : Int)), some (.ref R), v2, v3] ∧ ∃ Rs : List Addr, H' R = some (.lst (Rs.map V.ref)) ∧ Al (tpR H') Rs (flL j)) ∧ Same H2 H')
      ⟨⟨R0, none, none, rfl, [T0], hR2, rfl, fun i A x a b => ?_⟩, Same.refl _⟩ ?_ ?_
    · cases i with
      | zero =>
        obtain rfl := Option.some.inj a
        obtain rfl := Option.some.inj b
        exact hT2
      | succ j => cases a
    · rintro j σ H3 jn ⟨⟨R, v2, v3, rfl, Rs, hR, ar⟩, s3⟩
      have jl : j < 10 := by omega
      have lj := flL_len j
      have pj : 2 ^ j ≤ 2 ^ 10 := Nat.pow_le_pow_right (by decide) (by omega)
      refine ⟨_, rfl, R, rfl, ⟨_, SqL.of hR⟩, fun D1 hD1 => ?_⟩
      have nD1 := hD1
      refine lc_list (xs := Rs.map V.ref) (fun q H' => Same H3 H' ∧ ∃ Us : List Addr, H' D1 = some (.lst (Us.map V.ref)) ∧ Al (tpR H') Us (((flL j).take q).map (· ++ [0]))) ⟨same_new hD1, [], upd_same, ⟨rfl, fun i A x a _ => nomatch a⟩⟩ (fun q H' _ z => SqL.of (z.1 _ _ hR)) ?_ ?_
      · rintro q v H5 hv ⟨s5, Us, hU, aU⟩
        rw [List.getElem?_map] at hv
        obtain ⟨S, hSq, rfl⟩ := Option.map_eq_some_iff.mp hv
        obtain ⟨p, hp⟩ : ∃ p, (flL j)[q]? = some p := ⟨_, List.getElem?_eq_getElem (by rw [← ar.1]; exact (List.getElem?_eq_some_iff.mp hSq).1)⟩
        have hS5 : tpR H5 S p := s5 _ _ (ar.2 q S p hSq hp)
        have few := fl_few j (by omega) p (List.mem_of_getElem? hp)
        refine ⟨rfl, _, rfl, by show 1 ≤ sizeLine; decide, fun Z hZ => ?_⟩
        have e6 := same_new (o := .tup [.int 0]) hZ
        have hU6 := e6 _ _ hU
        have fin : ∀ (H7 : Hp) (W : Addr), Same (upd H5 Z (.tup [.int 0])) H7 → tpR H7 W (p ++ [0]) → ∃ acc, H7 D1 = some (.lst acc) ∧ acc.length < sizeLine ∧ Same H3 (upd H7 D1 (.lst (acc ++ [.ref W]))) ∧ ∃ Us : List Addr, upd H7 D1 (.lst (acc ++ [.ref W])) D1 = some (.lst (Us.map V.ref)) ∧ Al (tpR (upd H7 D1 (.lst (acc ++ [.ref W])))) Us (((flL j).take (q + 1)).map (· ++ [0])) := by
          intro H7 W s7 hW
          have hU7 := s7 _ _ hU6
          refine ⟨_, hU7, ?_, same_over ((s5.trans e6).trans s7) hD1, Us ++ [W], by rw [upd_same, List.map_append]; rfl, ?_⟩
          · have := aU.1
            rw [List.length_map, List.length_take] at this
            have l2 := List.getElem?_eq_some_iff.mp hp
            have l3 := flL_len j
            have l4 : 2 ^ j ≤ 2 ^ 10 := Nat.pow_le_pow_right (by decide) (by omega)
            rw [List.length_map, sizeLine_eq]
            omega
          · rw [take_next hp, List.map_append]
            exact (aU.mono fun A x r => tpR.ov (show tpR H7 A x from s7 _ _ (e6 _ _ r)) hU7).snoc (hW.ov hU7)
        refine ⟨S, Z, iN p, [.int 0], rfl, rfl, SqT.of (e6 _ _ hS5), SqT.of upd_same, ?_, fun ep => ?_, fun _ e => (nomatch e), fun _ _ W hW => ?_⟩
        · rw [iN_len, sizeLine_eq]
          show p.length + 1 ≤ _
          omega
        · have ep : p = [] := by
            cases p with
            | nil => rfl
            | cons a b => cases ep
          subst ep
          exact fin _ Z (Same.refl _) upd_same
        · refine fin _ W (same_new hW) ?_
          unfold tpR
          rw [upd_same]
          unfold iN
          rw [List.map_append]
          rfl
      · rintro H5 ⟨s5, Us, hU, aU⟩
        rw [List.length_map, ar.1, List.take_length] at aU
        have hR5 := s5 _ _ hR
        have ar5 : Al (tpR H5) Rs (flL j) := ar.mono fun A x r => s5 _ _ r
        refine ⟨_, rfl, R, rfl, ⟨_, SqL.of hR5⟩, fun D2 hD2 => ?_⟩
        have nD2 := hD2
        refine lc_list (xs := Rs.map V.ref) (fun q H' => Same H5 H' ∧ ∃ Us : List Addr, H' D2 = some (.lst (Us.map V.ref)) ∧ Al (tpR H') Us (((flL j).take q).map (· ++ [1]))) ⟨same_new hD2, [], upd_same, ⟨rfl, fun i A x a _ => nomatch a⟩⟩ (fun q H' _ z => SqL.of (z.1 _ _ hR5)) ?_ ?_
        · rintro q v H6 hv ⟨s6, Us2, hU2, aU2⟩
          rw [List.getElem?_map] at hv
          obtain ⟨S, hSq, rfl⟩ := Option.map_eq_some_iff.mp hv
          obtain ⟨p, hp⟩ : ∃ p, (flL j)[q]? = some p := ⟨_, List.getElem?_eq_getElem (by rw [← ar.1]; exact (List.getElem?_eq_some_iff.mp hSq).1)⟩
          have hS6 : tpR H6 S p := s6 _ _ (ar5.2 q S p hSq hp)
          have few := fl_few j (by omega) p (List.mem_of_getElem? hp)
          refine ⟨rfl, _, rfl, by show 1 ≤ sizeLine; decide, fun Z hZ => ?_⟩
          have e6 := same_new (o := .tup [.int 1]) hZ
          have hU6 := e6 _ _ hU2
          have fin : ∀ (H7 : Hp) (W : Addr), Same (upd H6 Z (.tup [.int 1])) H7 → tpR H7 W (p ++ [1]) → ∃ acc, H7 D2 = some (.lst acc) ∧ acc.length < sizeLine ∧ Same H5 (upd H7 D2 (.lst (acc ++ [.ref W]))) ∧ ∃ Us : List Addr, upd H7 D2 (.lst (acc ++ [.ref W])) D2 = some (.lst (Us.map V.ref)) ∧ Al (tpR (upd H7 D2 (.lst (acc ++ [.ref W])))) Us (((flL j).take (q + 1)).map (· ++ [1])) := by
            intro H7 W s7 hW
            have hU7 := s7 _ _ hU6
            refine ⟨_, hU7, ?_, same_over ((s6.trans e6).trans s7) hD2, Us2 ++ [W], by rw [upd_same, List.map_append]; rfl, ?_⟩
            · have := aU2.1
              rw [List.length_map, List.length_take] at this
              have l2 := List.getElem?_eq_some_iff.mp hp
              have l3 := flL_len j
              have l4 : 2 ^ j ≤ 2 ^ 10 := Nat.pow_le_pow_right (by decide) (by omega)
              rw [List.length_map, sizeLine_eq]
              omega
            · rw [take_next hp, List.map_append]
              exact (aU2.mono fun A x r => tpR.ov (show tpR H7 A x from s7 _ _ (e6 _ _ r)) hU7).snoc (hW.ov hU7)
          refine ⟨S, Z, iN p, [.int 1], rfl, rfl, SqT.of (e6 _ _ hS6), SqT.of upd_same, ?_, fun ep => ?_, fun _ e => (nomatch e), fun _ _ W hW => ?_⟩
          · rw [iN_len, sizeLine_eq]
            show p.length + 1 ≤ _
            omega
          · have ep : p = [] := by
              cases p with
              | nil => rfl
              | cons a b => cases ep
            subst ep
            exact fin _ Z (Same.refl _) upd_same
          · refine fin _ W (same_new hW) ?_
            unfold tpR
            rw [upd_same]
            unfold iN
            rw [List.map_append]
            rfl
        · rintro H6 ⟨s6, Us2, hU2, aU2⟩
          rw [List.length_map, ar.1, List.take_length] at aU2
          refine ⟨D1, D2, _, _, rfl, rfl, s6 _ _ hU, hU2, ?_, fun R9 hR9 => ?_⟩
          · rw [List.length_map, List.length_map, aU.1, aU2.1, List.length_map, List.length_map, lj, sizeLine_eq]
            omega
          · have e9 := same_new (o := .lst (Us.map V.ref ++ Us2.map V.ref)) hR9
            have s39 := (s5.trans s6).trans e9
            refine ⟨⟨R9, _, _, rfl, Us ++ Us2, by rw [upd_same, List.map_append], ?_⟩, s3.trans s39⟩
            exact (aU.mono fun A x r => e9 _ _ (s6 _ _ r)).app (aU2.mono fun A x r => e9 _ _ r)
    · rintro σ H3 ⟨⟨R, v2, v3, rfl, Rs, hR, ar⟩, s3⟩
      exact ⟨_, rfl, k _ R (s2.trans s3) ⟨Rs, hR, ar⟩⟩
end
end Wd
end
section
set_option maxRecDepth 100000
set_option maxHeartbeats 2000000
namespace KxZ
open PySem PySem.Spec PyProof.Rows L2
/-! zip of any two things of which each gives its items one by one: a list or a tuple -/
/-- `it` walks over what stands at l: St k tells that k items are given -/
structure Src (P : Program) (w : World) (it l : Addr) (xs : Array Value) (St : Nat → Heap → Prop) : Prop where
  ob : ∀ k h, St k h → ∃ (o : Obj) (vs : Array Value), h.get? it = some o ∧ o.data = .fields vs
  src : ∀ k h, St k h → ∃ o, h.get? l = some o
  keep : ∀ k h h', St k h → (∀ o, h.get? it = some o → h'.get? it = some o) → (∀ o, h.get? l = some o → h'.get? l = some o) → St k h'
  item : ∀ (A : Around) (E : Value → Shared → Prop) (s : Shared) (k : Nat) (x : Value) (Q : Value → Shared → Prop), xs[k]? = some x → St k s.heap → (∀ h', St (k + 1) h' → Heap.SameBut it s.heap h' → Q x { s with heap := h' }) →
    wpAny (model P w) A (Builtin.SmallTypes.nextOf (.ref it)) Q E s
  fin : ∀ (A : Around) (E : Value → Shared → Prop) (s : Shared) (k : Nat) (Q : Value → Shared → Prop), A.handled = none → xs[k]? = none → St k s.heap →
    (∀ h' e, Heap.ExtBut it s.heap h' → (∃ o, h'.get? e = some o ∧ o.cls = .type "StopIteration") → E (.ref e) { s with heap := h' }) → wpAny (model P w) A (Builtin.SmallTypes.nextOf (.ref it)) Q E s
section
variable {P : Program} {w : World}
theorem srcT {it l : Addr} (ne : l ≠ it) (xs : Array Value) : Src P w it l xs (fun k h => h.IsTupleIter it l k ∧ h.IsTuple l xs) where
  ob := fun k h ⟨⟨o, e, _, d⟩, _⟩ => ⟨o, _, e, d⟩
  src := fun k h ⟨_, ⟨o, e, _⟩⟩ => ⟨o, e⟩
  keep := fun k h h' ⟨a, ⟨o, e, r⟩⟩ k1 k2 => ⟨a.at k1, ⟨o, k2 o e, r⟩⟩
  item := fun A E s k x Q hx st hQ => RZ.nextOf_tuple_item st.1 st.2 hx fun h' a b => hQ h' ⟨a, st.2.extBut b.extBut ne⟩ b
  fin := fun A E s k Q hh hx st hE => RZ.nextOf_tuple_end hh st.1 st.2 hx hE
theorem srcL {it l : Addr} (ne : l ≠ it) (xs : Array Value) : Src P w it l xs (fun k h => h.IsListIter it l k ∧ h.IsList l xs) where
  ob := fun k h ⟨⟨o, e, _, d⟩, _⟩ => ⟨o, _, e, d⟩
  src := fun k h ⟨_, ⟨o, e, _⟩⟩ => ⟨o, e⟩
  keep := fun k h h' ⟨a, ⟨o, e, r⟩⟩ k1 k2 => ⟨a.at k1, ⟨o, k2 o e, r⟩⟩
  item := fun A E s k x Q hx st hQ => wpAny_nextOf_list_item st.1 st.2 hx fun h' a b => hQ h' ⟨a, st.2.extBut b.extBut ne⟩ b
  fin := fun A E s k Q hh hx st hE => wpAny_nextOf_list_end hh st.1 st.2 hx hE

variable {A : Around} {E : Value → Shared → Prop} {s : Shared} {z TI TO i1 i2 l1 l2 : Addr} {xs ys : Array Value} {S1 S2 : Nat → Heap → Prop} {k1 k2 : Nat}
/-- what a step leaves as it was -/
abbrev Left (z TO i1 i2 : Addr) (h h' : Heap) : Prop := ∀ c o, c ≠ z → c ≠ TO → c ≠ i1 → c ≠ i2 → h.get? c = some o → h'.get? c = some o
theorem Src.but {it l : Addr} {St : Nat → Heap → Prop} (T : Src P w it l xs St) {k : Nat} {h h' : Heap} {a : Addr} (st : St k h) (b : Heap.SameBut a h h') (n1 : it ≠ a) (n2 : l ≠ a) : St k h' :=
  T.keep k h h' st (fun _ e => b.extBut _ _ n1 e) fun _ e => b.extBut _ _ n2 e
/-- one more pair -/
theorem next_item (D : ZipApart z TI TO i1 i2 l1 l2) (T1 : Src P w i1 l1 xs S1) (T2 : Src P w i2 l2 ys S2) {a b x y : Value} {Q : Value → Shared → Prop}
    (hz : IsZip s.heap z TI TO .none) (hTI : IsPair s.heap TI (.ref i1) (.ref i2)) (hTO : IsPair s.heap TO a b) (h1 : S1 k1 s.heap) (h2 : S2 k2 s.heap) (hx : xs[k1]? = some x) (hy : ys[k2]? = some y)
    (hQ : ∀ h', IsZip h' z TI TO (rawInt s.heap.objs.size) → IsPair h' TO x y → S1 (k1 + 1) h' → S2 (k2 + 1) h' → IsPair h' s.heap.objs.size x y → Left z TO i1 i2 s.heap h' → Q (.ref s.heap.objs.size) { s with heap := h' }) :
    wpAny (model P w) A (Builtin.«zip.__next__» ⟨[.ref z], []⟩) (fun fin s' => ∃ v, fin = .done (.ret v) ∧ Q v s') E s := by
  show wpAny _ _ (field (.ref z) 2 >>= _) _ _ _
  refine wpAny_bind (wpAny_field hz rfl (x := .bool false) rfl ?_)
  show wpAny _ _ (field (.ref z) 3 >>= _) _ _ _
  refine wpAny_bind (wpAny_field hz rfl (x := .ref TI) rfl (wpAny_bind (wpAny_seqItems hTI rfl ?_)))
  show wpAny _ _ (Builtin.SmallTypes.ownedTupleIsFree (.ref z) >>= _) _ _ _
  refine wpAny_bind ?_
  unfold Builtin.SmallTypes.ownedTupleIsFree
  refine wpAny_bind (wpAny_field hz rfl (x := .none) rfl (wpAny_pure ?_))
  simp only [if_true]
  refine wpAny_bind (wpAny_rule (wpAny_bind (wpAny_field hz rfl (x := .ref TO) rfl (wpAny_bind (wpAny_setField_rec hz (by simp) fun g1 zz1 b1 => wpAny_bind ?_)))))
  have zz1 : IsZip g1 z TI TO .ellipsis := zz1
  simp only [List.zipIdx_cons, List.zipIdx_nil, List.forIn_cons, List.forIn_nil]
  refine wpAny_bind (wpAny_bind (wpAny_onRaise ?_))
  show wpAny _ _ (Builtin.SmallTypes.nextOf (.ref i1) >>= _) _ _ _
  refine wpAny_bind (T1.item _ _ _ _ _ _ hx (T1.but h1 b1 D.i1z D.l1z) fun g2 u1 b2 => wpAny_pure ?_)
  have t2 : IsPair g2 TO a b := b2.extBut _ _ D.TOi1 (b1.extBut _ _ D.TOz hTO)
  refine wpAny_bind (wpAny_seqItems t2 rfl (wpAny_bind (wpAny_updateSeq_pair t2 fun g3 t3 b3 => wpAny_bind (wpAny_letGo (wpAny_pure ?_)))))
  have t3 : IsPair g3 TO x b := t3
  have u1 := T1.but u1 b3 D.TOi1.symm D.l1TO
  have u2 := T2.but (T2.but (T2.but h2 b1 D.i2z D.l2z) b2 D.i12.symm D.l2i1) b3 D.TOi2.symm D.l2TO
  refine wpAny_bind (wpAny_bind (wpAny_onRaise ?_))
  show wpAny _ _ (Builtin.SmallTypes.nextOf (.ref i2) >>= _) _ _ _
  refine wpAny_bind (T2.item _ _ { s with heap := g3 } _ _ _ hy u2 fun g4 v2 b4 => wpAny_pure ?_)
  have u1 := T1.but u1 b4 D.i12 D.l1i2
  have t4 : IsPair g4 TO x b := b4.extBut _ _ D.TOi2 t3
  refine wpAny_bind (wpAny_seqItems t4 rfl (wpAny_bind (wpAny_updateSeq_pair t4 fun g5 t5 b5 => wpAny_bind (wpAny_letGo (wpAny_pure (wpAny_pure ?_))))))
  have t5 : IsPair g5 TO x y := t5
  have u1 := T1.but u1 b5 D.TOi1.symm D.l1TO
  have v2 := T2.but v2 b5 D.TOi2.symm D.l2TO
  have size : g5.objs.size = s.heap.objs.size := ((((b5.1.trans b4.1).trans b3.1).trans b2.1).trans b1.1)
  have left : Left z TO i1 i2 s.heap g5 := fun c o c1 c2 c3 c4 e => b5.extBut _ _ c2 (b4.extBut _ _ c4 (b3.extBut _ _ c2 (b2.extBut _ _ c3 (b1.extBut _ _ c1 e))))
  have zz5 : IsZip g5 z TI TO .ellipsis := b5.extBut _ _ D.TOz.symm (b4.extBut _ _ D.i2z.symm (b3.extBut _ _ D.TOz.symm (b2.extBut _ _ D.i1z.symm zz1)))
  have zl : z < g5.objs.size := Heap.lt_size zz5
  refine wpAny_bind (wpAny_seqItems t5 rfl (wpAny_bind (wpAny_newTuple ?_)))
  show wpAny _ _ (Builtin.SmallTypes.ownedTupleHandOut (.ref z) (.ref g5.objs.size) >>= _) _ _ _
  refine wpAny_bind ?_
  unfold Builtin.SmallTypes.ownedTupleHandOut
  have zz6 : IsZip (g5.push { cls := .type "tuple", data := .seq #[x, y] }) z TI TO .ellipsis := Heap.get?_push_of_some _ zz5
  refine wpAny_bind (wpAny_setField_rec zz6 (by simp) fun g7 zz7 b7 => ?_)
  have zz7 : IsZip g7 z TI TO (rawInt g5.objs.size) := zz7
  refine wpAny_setField_rec zz7 (by simp) fun g8 zz8 b8 => ?_
  have zz8 : IsZip g8 z TI TO (rawInt g5.objs.size) := zz8
  have up : ∀ c o, c ≠ z → g5.get? c = some o → g8.get? c = some o := fun c o n e => b8.extBut _ _ n (b7.extBut _ _ n (Heap.get?_push_of_some _ e))
  have pr : IsPair g8 g5.objs.size x y := b8.extBut _ _ (Nat.ne_of_gt zl) (b7.extBut _ _ (Nat.ne_of_gt zl) (Heap.get?_push_size _ rfl))
  rw [size] at zz8 pr
  refine wpAny_pure ⟨_, rfl, ?_⟩
  show Q (.ref g5.objs.size) _
  rw [size]
  exact hQ g8 zz8 (up _ _ D.TOz t5) (T1.keep _ _ _ u1 (fun o e => up _ o D.i1z e) fun o e => up _ o D.l1z e) (T2.keep _ _ _ v2 (fun o e => up _ o D.i2z e) fun o e => up _ o D.l2z e) pr fun c o c1 c2 c3 c4 e => up c o c1 (left c o c1 c2 c3 c4 e)
theorem next_end (hh : A.handled = none) (D : ZipApart z TI TO i1 i2 l1 l2) (T1 : Src P w i1 l1 xs S1) (T2 : Src P w i2 l2 ys S2) {a b : Value} {Q : Fin → Shared → Prop}
    (hz : IsZip s.heap z TI TO .none) (hTI : IsPair s.heap TI (.ref i1) (.ref i2)) (hTO : IsPair s.heap TO a b) (h1 : S1 k1 s.heap) (h2 : S2 k2 s.heap) (hend : xs[k1]? = none ∨ ys[k2]? = none)
    (hE : ∀ h' e, Left z TO i1 i2 s.heap h' → (∃ o, h'.get? e = some o ∧ o.cls = .type "StopIteration") → E (.ref e) { s with heap := h' }) :
    wpAny (model P w) A (Builtin.«zip.__next__» ⟨[.ref z], []⟩) Q E s := by
  have fin : ∀ (g : Heap) (e : Addr), IsZip g z TI TO .ellipsis → Left z TO i1 i2 s.heap g → (∃ o, g.get? e = some o ∧ o.cls = .type "StopIteration") →
      wpAny (model P w) A (setField (.ref z) 0 .none) (fun _ s' => E (.ref e) s') E { s with heap := g } := fun g e zz left ⟨oe, he, hc⟩ => by
    have ez : e ≠ z := fun q => by
      subst q
      rw [zz] at he
      cases he
      simp at hc
    exact wpAny_setField_rec zz (by simp) fun g' _ b' => hE g' e (fun c o c1 c2 c3 c4 q => b'.extBut _ _ c1 (left c o c1 c2 c3 c4 q)) ⟨oe, b'.extBut _ _ ez he, hc⟩
  show wpAny _ _ (field (.ref z) 2 >>= _) _ _ _
  refine wpAny_bind (wpAny_field hz rfl (x := .bool false) rfl ?_)
  show wpAny _ _ (field (.ref z) 3 >>= _) _ _ _
  refine wpAny_bind (wpAny_field hz rfl (x := .ref TI) rfl (wpAny_bind (wpAny_seqItems hTI rfl ?_)))
  show wpAny _ _ (Builtin.SmallTypes.ownedTupleIsFree (.ref z) >>= _) _ _ _
  refine wpAny_bind ?_
  unfold Builtin.SmallTypes.ownedTupleIsFree
  refine wpAny_bind (wpAny_field hz rfl (x := .none) rfl (wpAny_pure ?_))
  simp only [if_true]
  refine wpAny_bind (wpAny_rule (wpAny_bind (wpAny_field hz rfl (x := .ref TO) rfl (wpAny_bind (wpAny_setField_rec hz (by simp) fun g1 zz1 b1 => wpAny_bind ?_)))))
  have zz1 : IsZip g1 z TI TO .ellipsis := zz1
  simp only [List.zipIdx_cons, List.zipIdx_nil, List.forIn_cons, List.forIn_nil]
  refine wpAny_bind (wpAny_bind (wpAny_onRaise ?_))
  show wpAny _ _ (Builtin.SmallTypes.nextOf (.ref i1) >>= _) _ _ _
  cases hx : xs[k1]? with
  | none =>
    refine wpAny_bind (T1.fin _ _ { s with heap := g1 } _ _ hh hx (T1.but h1 b1 D.i1z D.l1z) fun g2 e b2 he => ?_)
    exact fin g2 e (b2 _ _ D.i1z.symm zz1) (fun c o c1 _ c3 _ q => b2 _ _ c3 (b1.extBut _ _ c1 q)) he
  | some x =>
    have hy : ys[k2]? = none := hend.elim (fun q => by rw [hx] at q; cases q) id
    refine wpAny_bind (T1.item _ _ { s with heap := g1 } _ _ _ hx (T1.but h1 b1 D.i1z D.l1z) fun g2 u1 b2 => wpAny_pure ?_)
    have t2 : IsPair g2 TO a b := b2.extBut _ _ D.TOi1 (b1.extBut _ _ D.TOz hTO)
    refine wpAny_bind (wpAny_seqItems t2 rfl (wpAny_bind (wpAny_updateSeq_pair t2 fun g3 t3 b3 => wpAny_bind (wpAny_letGo (wpAny_pure ?_)))))
    have u2 := T2.but (T2.but (T2.but h2 b1 D.i2z D.l2z) b2 D.i12.symm D.l2i1) b3 D.TOi2.symm D.l2TO
    refine wpAny_bind (wpAny_bind (wpAny_onRaise ?_))
    show wpAny _ _ (Builtin.SmallTypes.nextOf (.ref i2) >>= _) _ _ _
    refine wpAny_bind (T2.fin _ _ { s with heap := g3 } _ _ hh hy u2 fun g4 e b4 he => ?_)
    exact fin g4 e (b4 _ _ D.i2z.symm (b3.extBut _ _ D.TOz.symm (b2.extBut _ _ D.i1z.symm zz1))) (fun c o c1 c2 c3 c4 q => b4 _ _ c4 (b3.extBut _ _ c2 (b2.extBut _ _ c3 (b1.extBut _ _ c1 q)))) he
theorem py_item (D : ZipApart z TI TO i1 i2 l1 l2) (T1 : Src P w i1 l1 xs S1) (T2 : Src P w i2 l2 ys S2) {a b x y : Value} {Q : Option Value → Shared → Prop}
    (hz : IsZip s.heap z TI TO .none) (hTI : IsPair s.heap TI (.ref i1) (.ref i2)) (hTO : IsPair s.heap TO a b) (h1 : S1 k1 s.heap) (h2 : S2 k2 s.heap) (hx : xs[k1]? = some x) (hy : ys[k2]? = some y)
    (hQ : ∀ h', IsZip h' z TI TO (rawInt s.heap.objs.size) → IsPair h' TO x y → S1 (k1 + 1) h' → S2 (k2 + 1) h' → IsPair h' s.heap.objs.size x y → Left z TO i1 i2 s.heap h' → Q (some (.ref s.heap.objs.size)) { s with heap := h' }) :
    wpAny (model P w) A (pyNext (.ref z)) Q E s := by
  have hT : s.TypeIs (.ref z) "zip" := ⟨_, hz, rfl⟩
  unfold pyNext
  exact wpAny_bind (wpAny_attempt (wpAny_callSpecial?_slot (name := Str.ofString "__next__") hT F.slot_zip_next (wpAny_call_entry F.slot_zip_next hT F.entry_zip_next
    (next_item D T1 T2 hz hTI hTO h1 h2 hx hy fun h' q1 q2 q3 q4 q5 q6 => wpAny_pure (hQ h' q1 q2 q3 q4 q5 q6)) (F.args_zip_next_1 _))))
theorem py_end (hh : A.handled = none) (D : ZipApart z TI TO i1 i2 l1 l2) (T1 : Src P w i1 l1 xs S1) (T2 : Src P w i2 l2 ys S2) {a b : Value} {Q : Option Value → Shared → Prop}
    (hz : IsZip s.heap z TI TO .none) (hTI : IsPair s.heap TI (.ref i1) (.ref i2)) (hTO : IsPair s.heap TO a b) (h1 : S1 k1 s.heap) (h2 : S2 k2 s.heap) (hend : xs[k1]? = none ∨ ys[k2]? = none)
    (hQ : ∀ h', Left z TO i1 i2 s.heap h' → Q none { s with heap := h' }) : wpAny (model P w) A (pyNext (.ref z)) Q E s := by
  have hT : s.TypeIs (.ref z) "zip" := ⟨_, hz, rfl⟩
  unfold pyNext
  refine wpAny_bind (wpAny_attempt (wpAny_callSpecial?_slot (name := Str.ofString "__next__") hT F.slot_zip_next (wpAny_call_entry F.slot_zip_next hT F.entry_zip_next
    (next_end (A := A.in1) (show A.in1.handled = none from hh) D T1 T2 hz hTI hTO h1 h2 hend fun h' e left he => ?_) (F.args_zip_next_1 _))))
  obtain ⟨o, ho, hc⟩ := he
  exact wpAny_bind (wpAny_isInstance (T := "StopIteration") (b := true) ⟨o, ho, hc⟩ isSubtype_stop (wpAny_pure (hQ _ left)))
end
end KxZ
end
section
set_option maxRecDepth 100000
set_option maxHeartbeats 2000000
namespace KxZ
open PySem PySem.Spec PyProof.Rows L2
/-! a tuple (true) or a list (false), at each of the two places -/
def icls : Bool → String
  | true => "tuple_iterator"
  | false => "list_iterator"
def SoK (k : Bool) (h : Heap) (l : Addr) (xs : Array Value) : Prop := if k = true then h.IsTuple l xs else h.IsList l xs
def ItK (k : Bool) (h : Heap) (it l : Addr) (n : Nat) : Prop := if k = true then h.IsTupleIter it l n else h.IsListIter it l n
def SqK (k : Bool) (K : PySem.W.Frag) (H : Hp) (l : Addr) (xs : List V) : Prop := if k = true then SqT K H l xs else SqL K H l xs
theorem ItK.at {k : Bool} {h h' : Heap} {it l : Addr} {n : Nat} (a : ItK k h it l n) (e : ∀ o, h.get? it = some o → h'.get? it = some o) : ItK k h' it l n := by
  cases k with
  | true => exact Heap.IsTupleIter.at (show h.IsTupleIter it l n from a) e
  | false => exact Heap.IsListIter.at (show h.IsListIter it l n from a) e
theorem ItK.ob {k : Bool} {h : Heap} {it l : Addr} {n : Nat} (a : ItK k h it l n) : ∃ (o : Obj) (vs : Array Value), h.get? it = some o ∧ o.data = .fields vs := by
  cases k with
  | true =>
    obtain ⟨o, e, _, d⟩ := (show h.IsTupleIter it l n from a)
    exact ⟨o, _, e, d⟩
  | false =>
    obtain ⟨o, e, _, d⟩ := (show h.IsListIter it l n from a)
    exact ⟨o, _, e, d⟩
theorem SoK.lt {k : Bool} {h : Heap} {l : Addr} {xs : Array Value} (a : SoK k h l xs) : l < h.objs.size := by
  cases k with
  | true =>
    obtain ⟨o, e, _⟩ := (show h.IsTuple l xs from a)
    exact Heap.lt_size e
  | false =>
    obtain ⟨o, e, _⟩ := (show h.IsList l xs from a)
    exact Heap.lt_size e
theorem SoK.push {k : Bool} {h : Heap} {l : Addr} {xs : Array Value} (a : SoK k h l xs) (o : Obj) : SoK k (h.push o) l xs := by
  cases k with
  | true => exact Heap.IsTuple.push (show h.IsTuple l xs from a) o
  | false => exact Heap.IsList.push (show h.IsList l xs from a) o
abbrev itOb (k : Bool) (l : Addr) : Obj := { cls := .type (icls k), data := .fields #[.ref l, .int 0 0] }
section
variable {P : Program} {w : World} {A : Around} {E : Value → Shared → Prop} {s : Shared}
theorem srcK (k : Bool) {it l : Addr} (ne : l ≠ it) (xs : Array Value) : Src P w it l xs (fun n h => ItK k h it l n ∧ SoK k h l xs) := by
  cases k with
  | true => exact srcT ne xs
  | false => exact srcL ne xs
theorem iterK {k : Bool} {l : Addr} {xs : Array Value} {Q : Value → Shared → Prop} (a : SoK k s.heap l xs) (q : Q (.ref s.heap.objs.size) { s with heap := s.heap.push (itOb k l) }) : wpAny (model P w) A (pyIter (.ref l)) Q E s := by
  cases k with
  | true => exact wpAny_pyIter_tuple (show s.heap.IsTuple l xs from a) q
  | false => exact wpAny_pyIter_list (show s.heap.IsList l xs from a) q
abbrev zA (k1 : Bool) (h : Heap) (l1 : Addr) : Heap := h.push (itOb k1 l1)
abbrev zB (k1 k2 : Bool) (h : Heap) (l1 l2 : Addr) : Heap := (zA k1 h l1).push (itOb k2 l2)
abbrev zC (k1 k2 : Bool) (h : Heap) (l1 l2 : Addr) : Heap := (zB k1 k2 h l1 l2).push { cls := .type "tuple", data := .seq #[.ref h.objs.size, .ref (zA k1 h l1).objs.size] }
abbrev zD (k1 k2 : Bool) (h : Heap) (l1 l2 : Addr) : Heap := (zC k1 k2 h l1 l2).push { cls := .type "tuple", data := .seq #[.none, .none] }
abbrev zE (k1 k2 : Bool) (h : Heap) (l1 l2 : Addr) : Heap := (zD k1 k2 h l1 l2).push { cls := .type "zip", data := .fields #[.none, .bool false, .bool false, .ref (zB k1 k2 h l1 l2).objs.size, .ref (zC k1 k2 h l1 l2).objs.size] }
theorem meetsK (k1 k2 : Bool) (l1 l2 : Addr) (xs ys : Array Value) : Meets (Builtin.«zip.__new__» ⟨[.type "zip", .ref l1, .ref l2], []⟩) (fun _ R s => SoK k1 s.heap l1 xs ∧ SoK k2 s.heap l2 ys ∧ R (.ok (.ret (.ref (zD k1 k2 s.heap l1 l2).objs.size))) { s with heap := zE k1 k2 s.heap l1 l2 }) :=
  .of_wp fun P w A R s h => by
    obtain ⟨hp, g, d, tk, os⟩ := s
    obtain ⟨a1, a2, h⟩ := h
    have hsub := sub_zip
    have b1 : SoK k1 (Shared.heap ⟨hp, g, d, tk, os⟩) l1 xs := a1
    have b2 : SoK k2 (Shared.heap ⟨hp.push (itOb k1 l1), g, d, tk, os⟩) l2 ys := a2.push _
    wp_walk using iterK b1, iterK b2
    exact ⟨_, rfl, h⟩
theorem callK {k1 k2 : Bool} {l1 l2 : Addr} {xs ys : Array Value} {Q : Value → Shared → Prop} (a1 : SoK k1 s.heap l1 xs) (a2 : SoK k2 s.heap l2 ys)
    (h : ∀ h', IsZip h' (s.heap.objs.size + 4) (s.heap.objs.size + 2) (s.heap.objs.size + 3) .none → IsPair h' (s.heap.objs.size + 2) (.ref s.heap.objs.size) (.ref (s.heap.objs.size + 1)) → IsPair h' (s.heap.objs.size + 3) .none .none →
      ItK k1 h' s.heap.objs.size l1 0 → ItK k2 h' (s.heap.objs.size + 1) l2 0 → (∀ c o, s.heap.get? c = some o → h'.get? c = some o) → Q (.ref (s.heap.objs.size + 4)) { s with heap := h' }) :
    wpAny (model P w) A (call (.type "zip") [.ref l1, .ref l2]) Q E s := by
  refine callType_new F.called_zip (by decide) (F.typeCall_zip_2 _ _) (F.newCall_zip_2 _ _) (fun obj => F.args_object_init_3 obj _ _) F.entry_zip_new (meetsK k1 k2 l1 l2 xs ys) ⟨a1, a2, ?_⟩
  have n1 : (zA k1 s.heap l1).objs.size = s.heap.objs.size + 1 := Heap.size_push ..
  have n2 : (zB k1 k2 s.heap l1 l2).objs.size = s.heap.objs.size + 2 := by rw [Heap.size_push, n1]
  have n3 : (zC k1 k2 s.heap l1 l2).objs.size = s.heap.objs.size + 3 := by rw [Heap.size_push, n2]
  have n4 : (zD k1 k2 s.heap l1 l2).objs.size = s.heap.objs.size + 4 := by rw [Heap.size_push, n3]
  have g5 : (zE k1 k2 s.heap l1 l2).get? (zD k1 k2 s.heap l1 l2).objs.size = some _ := Heap.get?_push_size _ rfl
  have g4 : (zE k1 k2 s.heap l1 l2).get? (zC k1 k2 s.heap l1 l2).objs.size = some _ := Heap.get?_push_of_some _ (Heap.get?_push_size _ rfl)
  have g3 : (zE k1 k2 s.heap l1 l2).get? (zB k1 k2 s.heap l1 l2).objs.size = some _ := Heap.get?_push_of_some _ (Heap.get?_push_of_some _ (Heap.get?_push_size _ rfl))
  have g2 : (zE k1 k2 s.heap l1 l2).get? (zA k1 s.heap l1).objs.size = some (itOb k2 l2) := Heap.get?_push_of_some _ (Heap.get?_push_of_some _ (Heap.get?_push_of_some _ (Heap.get?_push_size _ rfl)))
  have g1 : (zE k1 k2 s.heap l1 l2).get? s.heap.objs.size = some (itOb k1 l1) := Heap.get?_push_of_some _ (Heap.get?_push_of_some _ (Heap.get?_push_of_some _ (Heap.get?_push_of_some _ (Heap.get?_push_size _ rfl))))
  show _ ∧ _
  rw [n2, n3, n4] at g5
  rw [n1, n2] at g3
  rw [n3] at g4
  rw [n1] at g2
  rw [n4]
  have i1 : ItK k1 (zE k1 k2 s.heap l1 l2) s.heap.objs.size l1 0 := by
    cases k1 with
    | true => exact (⟨_, g1, rfl, rfl⟩ : Heap.IsTupleIter _ _ _ _)
    | false => exact (⟨_, g1, rfl, rfl⟩ : Heap.IsListIter _ _ _ _)
  have i2 : ItK k2 (zE k1 k2 s.heap l1 l2) (s.heap.objs.size + 1) l2 0 := by
    cases k2 with
    | true => exact (⟨_, g2, rfl, rfl⟩ : Heap.IsTupleIter _ _ _ _)
    | false => exact (⟨_, g2, rfl, rfl⟩ : Heap.IsListIter _ _ _ _)
  exact ⟨⟨_, g5, rfl⟩, h _ g5 g3 g4 i1 i2 fun c o x => Heap.get?_push_of_some _ (Heap.get?_push_of_some _ (Heap.get?_push_of_some _ (Heap.get?_push_of_some _ (Heap.get?_push_of_some _ x))))⟩
end
end KxZ
end
section
set_option maxRecDepth 100000
set_option maxHeartbeats 2000000
namespace KxZ
open PySem PySem.Spec PyProof.Rows L2
section
variable {X : Cx} {pins : List (Addr × Obj)} {σ : L2.St} {H : Hp} {s : Shared}
theorem soK_of {k : Bool} {l : Addr} {xs : List V} (I : Inv X pins σ H s) (q : SqK k X.K H l xs) : ∃ its : List Value, Vals xs its ∧ SoK k s.heap l its.toArray := by
  cases k with
  | true =>
    obtain ⟨its, rv, p, _⟩ := I.tuple (show SqT X.K H l xs from q)
    exact ⟨its, rv, p⟩
  | false =>
    obtain ⟨its, rv, p, _⟩ := I.list (show SqL X.K H l xs from q)
    exact ⟨its, rv, p.isList⟩
theorem sqK_inj {k : Bool} {l : Addr} {xs ys : List V} (I : Inv X pins σ H s) (a : SqK k X.K H l xs) (b : SqK k X.K H l ys) : xs = ys := by
  cases k with
  | true => exact I.tuple_inj (show SqT X.K H l xs from a) (show SqT X.K H l ys from b)
  | false => exact I.list_inj (show SqL X.K H l xs from a) (show SqL X.K H l ys from b)
end
/-- a tuple or a list at a and one at b, the items in new pairs -/
def ItzK (K : PySem.W.Frag) (k1 k2 : Bool) (a b : Addr) : It :=
  ⟨fun i H => ∃ (xs ys : List V) (x y : V), SqK k1 K H a xs ∧ SqK k2 K H b ys ∧ xs[i]? = some x ∧ ys[i]? = some y,
    fun i H v H' => ∃ T x y, v = .ref T ∧ H T = none ∧ H' = upd H T (.tup [x, y]) ∧ (∀ xs, SqK k1 K H a xs → xs[i]? = some x) ∧ ∀ ys, SqK k2 K H b ys → ys[i]? = some y,
    fun i H => ∃ xs ys : List V, SqK k1 K H a xs ∧ SqK k2 K H b ys ∧ (xs.length ≤ i ∨ ys.length ≤ i)⟩
theorem five {P : Addr → Prop} {z TI TO i1 i2 : Addr} (a : P z) (b : P TI) (c : P TO) (d : P i1) (e : P i2) : ∀ x ∈ [z, TI, TO, i1, i2], P x := by
  intro x hx
  simp only [List.mem_cons, List.not_mem_nil, or_false] at hx
  rcases hx with q | q | q | q | q <;> subst q <;> assumption
theorem turnK {P : Program} {w : World} {K : PySem.W.Frag} {k1 k2 : Bool} {elts : List Expr} {kk : Nat} {tpos : Pos} {a b z TI TO i1 i2 : Addr} (D : ZipApart z TI TO i1 i2 a b) :
    Turn P w K (.Tuple elts kk tpos) (ItzK K k1 k2 a b) [z, TI, TO, i1, i2] z (fun i h => IsZip h z TI TO .none ∧ IsPair h TI (.ref i1) (.ref i2) ∧ (∃ x y, IsPair h TO x y) ∧ ItK k1 h i1 a i ∧ ItK k2 h i2 b i) where
  mem := List.mem_cons_self
  obj := fun i h ⟨hz, hTI, ⟨x, y, hTO⟩, h1, h2⟩ => by
    obtain ⟨o1, _, e1, d1⟩ := h1.ob
    obtain ⟨o2, _, e2, d2⟩ := h2.ob
    exact five (P := fun c => ∃ o, h.get? c = some o ∧ ∀ v : Option Value, o.data ≠ .cell v) ⟨_, hz, fun v q => nomatch q⟩ ⟨_, hTI, fun v q => nomatch q⟩ ⟨_, hTO, fun v q => nomatch q⟩ ⟨o1, e1, fun v q => by rw [d1] at q; cases q⟩ ⟨o2, e2, fun v q => by rw [d2] at q; cases q⟩
  keep := fun i h h' ⟨hz, hTI, ⟨x, y, hTO⟩, h1, h2⟩ k =>
    ⟨k z (by simp) _ hz, k TI (by simp) _ hTI, ⟨x, y, k TO (by simp) _ hTO⟩, h1.at fun o q => k i1 (by simp) o q, h2.at fun o q => k i2 (by simp) o q⟩
  item := by
    intro X hP hw hK hc i pins s σ H E I hf st hg
    subst hP hw hK
    obtain ⟨hz, hTI, ⟨x0, y0, hTO⟩, h1, h2⟩ := st
    obtain ⟨xs, ys, x, y, qx, qy, hx, hy⟩ := hg
    obtain ⟨its, rv, p1⟩ := soK_of I qx
    obtain ⟨its2, rv2, p2⟩ := soK_of I qy
    obtain ⟨u, hu, ru⟩ := rv.get hx
    obtain ⟨u2, hu2, ru2⟩ := rv2.get hy
    have zl : z < s.heap.objs.size := Heap.lt_size hz
    refine py_item D (srcK k1 D.l1i1 its.toArray) (srcK k2 D.l2i2 its2.toArray) hz hTI hTO ⟨h1, p1⟩ ⟨h2, p2⟩ (x := u) (y := u2) (by simpa using hu) (by simpa using hu2) fun h' z' t' n1 n2 hT left => ?_
    refine ⟨_, rfl, wpAny_letOwnedTupleGo_zip (s := { s with heap := h' }) z' fun g z2 sb => ?_⟩
    have hT2 : g.get? s.heap.objs.size = some { cls := .type "tuple", data := .seq #[u, u2] } := (sb.2 _ (Nat.ne_of_gt zl)).trans hT
    have new : ObjOk X.prog X.w (upd H s.heap.objs.size (.tup [x, y])) g s.heap.objs.size (.tup [x, y]) := ⟨by show 2 ≤ sizeLine; decide, [u, u2], .cons ru (.cons ru2 .nil), ⟨_, hT2, rfl, _, rfl⟩⟩
    have I1 : Inv X pins σ (upd H s.heap.objs.size (.tup [x, y])) { s with heap := g } := I.turnedNew (t' := s.toks) (ch := [z, TI, TO, i1, i2]) (fun c o hb q => by
      simp only [List.mem_cons, List.not_mem_nil, or_false, not_or] at hb
      exact (sb.2 c hb.1).trans (left c o hb.1 hb.2.2.1 hb.2.2.2.1 hb.2.2.2.2 q)) hf (Nat.le_refl _) new
    have low : ∀ c ∈ [z, TI, TO, i1, i2], c < s.heap.objs.size := by
      obtain ⟨_, _, e1, _⟩ := h1.ob
      obtain ⟨_, _, e2, _⟩ := h2.ob
      exact five zl (Heap.lt_size hTI) (Heap.lt_size hTO) (Heap.lt_size e1) (Heap.lt_size e2)
    refine ⟨.ref s.heap.objs.size, _, I1, rfl, ⟨_, x, y, rfl, I.hok.fresh (Nat.le_refl _), rfl, fun l hl => by rw [sqK_inj I hl qx]; exact hx, fun l hl => by rw [sqK_inj I hl qy]; exact hy⟩, ⟨z2, ?_, ⟨u, u2, ?_⟩, ?_, ?_⟩, fun c hcm => ?_⟩
    · exact (sb.2 _ D.TIz).trans (left _ _ D.TIz D.TITO D.TIi1 D.TIi2 hTI)
    · exact (sb.2 _ D.TOz).trans t'
    · exact n1.1.at fun o q => (sb.2 _ D.i1z).trans q
    · exact n2.1.at fun o q => (sb.2 _ D.i2z).trans q
    · rw [upd_ne (Nat.ne_of_lt (low c hcm))]
      exact (hf c hcm).1
  done := by
    intro X hP hw hK hc i pins s σ H E I hf st hg
    subst hP hw hK
    obtain ⟨hz, hTI, ⟨x0, y0, hTO⟩, h1, h2⟩ := st
    obtain ⟨xs, ys, qx, qy, hend⟩ := hg
    obtain ⟨its, rv, p1⟩ := soK_of I qx
    obtain ⟨its2, rv2, p2⟩ := soK_of I qy
    have l1 := rv.length
    have l2 := rv2.length
    have he : its.toArray[i]? = none ∨ its2.toArray[i]? = none := by
      rcases hend with q | q
      · exact .inl (by simp; omega)
      · exact .inr (by simp; omega)
    refine py_end (I.ok.hd hc) D (srcK k1 D.l1i1 its.toArray) (srcK k2 D.l2i2 its2.toArray) hz hTI hTO ⟨h1, p1⟩ ⟨h2, p2⟩ he fun h' left => ⟨rfl, I.turnedL (t' := s.toks) (ch := [z, TI, TO, i1, i2]) (fun c o hb q => ?_) hf⟩
    simp only [List.mem_cons, List.not_mem_nil, or_false, not_or] at hb
    exact left c o hb.1 hb.2.2.1 hb.2.2.2.1 hb.2.2.2.2 q
  self := fun A i s Q E st h => wpAny_pyIter_zip st.1 h
/-- zip(e, e2), each a tuple or a list -/
def iZipK (K : PySem.W.Frag) (ta : TA) : TI := fun σ H R => ta σ H fun vs H1 => ∃ (k1 k2 : Bool) (a b : Addr) (xs ys : List V), vs = [.ref a, .ref b] ∧ SqK k1 K H1 a xs ∧ SqK k2 K H1 b ys ∧ R (ItzK K k1 k2 a b) H1
theorem pi_zipK {X : Cx} {e e2 : Expr} {ta : TA} {p pos tpos : Pos} {elts : List Expr} {kk : Nat} (hg : Gl X "zip") (hm : X.mg "zip" = none) (ha : PA X [e, e2] ta)
    (hs : starEach [e, e2] X.env = (false, eval e X.env) :: starEach [e2] X.env := by rfl) (hpl : (backTo pos (starEach [e2] X.env)).any (·.1) = false := by rfl) :
    PI X (.Tuple elts kk tpos) (.Call (.Name "zip" p) [e, e2] [] pos) (iZipK X.K ta) := by
  refine ⟨fun pins s σ H R I h => ?_⟩
  refine Call_ (ld_blt I hg hm PyProof.Rows.boot_zip (PyProof.Rows.callWith_type1 (thn (ha.run pos pins s σ H _ I h) fun us s1 ⟨vs, H1, I1, r1, q1⟩ => ?_) hs hpl))
  obtain ⟨k1, k2, a, b, xs, ys, ex, qx, qy, q⟩ := q1
  subst ex
  cases r1 with
  | cons r rr =>
    cases rr with
    | cons r' rr =>
      cases rr
      cases r
      cases r'
      obtain ⟨its, rv, p1⟩ := soK_of I1 qx
      obtain ⟨its2, rv2, p2⟩ := soK_of I1 qy
      have up : ∀ c, s1.heap.objs.size ≤ c → FpOk X pins H1 c := fun c hle => I1.fpOk hle (I1.hok.fresh hle)
      refine callK p1 p2 fun h' hz hTI hTO j1 j2 hk => wpAny_pyIter_zip hz ?_
      have I2 : Inv X pins σ H1 { s1 with heap := h' } := I1.kept (t' := s1.toks) hk
      exact ⟨s1.heap.objs.size + 4, [s1.heap.objs.size + 4, s1.heap.objs.size + 2, s1.heap.objs.size + 3, s1.heap.objs.size, s1.heap.objs.size + 1], _, _, H1, rfl, I2, turnK (PySem.W.ktu_apart s1.heap.objs.size a b p1.lt p2.lt), ⟨hz, hTI, ⟨_, _, hTO⟩, j1, j2⟩,
        five (up _ (Nat.le_add_right _ _)) (up _ (Nat.le_add_right _ _)) (up _ (Nat.le_add_right _ _)) (up _ (Nat.le_refl _)) (up _ (Nat.le_add_right _ _)), q⟩
theorem walk_zipK {K : PySem.W.Frag} {k1 k2 : Bool} {a b : Addr} {xs ys : List V} {n : Nat} (hn : n = min xs.length ys.length) : Walk (ItzK K k1 k2 a b) n (fun H => SqK k1 K H a xs ∧ SqK k2 K H b ys) (YPair (fun i => xs[i]?) (fun i => ys[i]?)) := by
  subst hn
  refine ⟨fun i H hi q => ?_, fun H q => ⟨xs, ys, q.1, q.2, by omega⟩, fun i H v H' hi q y => ?_⟩
  · exact ⟨xs, ys, xs[i]'(by omega), ys[i]'(by omega), q.1, q.2, List.getElem?_eq_getElem _, List.getElem?_eq_getElem _⟩
  · obtain ⟨T, x, z, h1, h2, h3, h4, h5⟩ := y
    exact ⟨T, x, z, h1, h2, h3, h4 xs q.1, h5 ys q.2⟩
end KxZ
end
section
set_option maxRecDepth 100000
set_option maxHeartbeats 1000000
namespace Wd
open PySem L2
def spSz : Sp := fun vs H Q _ => ∃ n : Int, vs = [.int n] ∧ 0 ≤ n ∧ Q .non H
def spEF : Sp := fun vs H Q _ => ∃ n s : Nat, vs = [.int (n : Int), .int (s : Int)] ∧ 1 ≤ n ∧ n ≤ 15 ∧ s ≤ 15 ∧ Q (.int (famI n s)) H
def dfR (p q : List Nat) : List Nat := List.zipWith (fun a b => if a = b then 0 else 1) p q
def shS (p q : List Nat) : Nat := (List.zipWith (fun a b => a * b) p q).sum
def shR (p q : List Nat) : Nat := shS p q % 2
def spDf : Sp := fun vs H Q _ => ∃ (a b : Addr) (p q : List Nat), vs = [.ref a, .ref b] ∧ tpR H a p ∧ tpR H b q ∧ p.length = q.length ∧ p.length ≤ 20 ∧ ∀ (H' : Hp) (T : Addr), Same H H' → tpR H' T (dfR p q) → Q (.ref T) H'
def smR (K : PySem.W.Frag) (H : Hp) (S : Addr) (p : List Nat) : Prop := SqT K H S (iN p)
def spShG (K : PySem.W.Frag) : Sp := fun vs H Q _ => ∃ (a b : Addr) (p q : List Nat), vs = [.ref a, .ref b] ∧ tpR H a p ∧ (tpR H b q ∨ H b = some (.lst (iN q))) ∧ p.length = q.length ∧ p.length ≤ 20 ∧ (∀ z ∈ p, z ≤ 1) ∧ (∀ z ∈ q, z ≤ 1) ∧ ∀ H', Same H H' → Q (.int (shR p q : Nat)) H'
theorem dfR_len {p q : List Nat} (h : p.length = q.length) : (dfR p q).length = p.length := by
  unfold dfR
  rw [List.length_zipWith]
  omega
section
variable {P : Program} {w : World} {K : PySem.W.Frag} {mg : Str → Option Value} {base : Heap}
theorem ok_check_size {f : Addr} {fd : FuncData} (F : Fun K "check_size" "check_size" sp_check_size f fd) (CC : Has P w K mg base 1 "is_count" ["value"] spIsCnt) : FnOk P w K mg base CX0 2 f fd ["size"] spSz := by
  obtain ⟨f1, d1, G1, m1, k1, b1⟩ := CC
  refine F.ok cp_check_size (fun vs H Q E h => ?_) (fun cdv A outer s H vs Q E hr h => ?_)
  · obtain ⟨_, rfl, _⟩ := h
    rfl
  · obtain ⟨n, rfl, hn, k⟩ := h
    refine ⟨_, pss_one (ps_if (pt_not (pt_val (pe_call G1 hr rfl m1 k1 b1 .nil pass0 (pa_cons (pv 0) pa_nil)))) (pss_one ps_never) pss_nil), ?_⟩
    exact ⟨_, rfl, n, rfl, hn, _, rfl, iteF k⟩
theorem ok_even_families {f : Addr} {fd : FuncData} (F : Fun K "even_families" "even_families" sp_even_families f fd) (C1 : Has P w K mg base 2 "check_many" ["many"] spMany) (C2 : Has P w K mg base 2 "check_size" ["size"] spSz)
    (C3 : Has P w K mg base 2 "family_number" ["many", "size"] (fun vs H Q _ => ∃ n s : Nat, vs = [.int (n : Int), .int (s : Int)] ∧ n ≤ 15 ∧ s ≤ 15 ∧ Q (.int (famI n s)) H)) : FnOk P w K mg base CX0 3 f fd ["many", "size"] spEF := by
  obtain ⟨f1, d1, G1, m1, k1, b1⟩ := C1
  obtain ⟨f2, d2, G2, m2, k2, b2⟩ := C2
  obtain ⟨f3, d3, G3, m3, k3, b3⟩ := C3
  refine F.ok cp_even_families (fun vs H Q E h => ?_) (fun cdv A outer s H vs Q E hr h => ?_)
  · obtain ⟨_, _, rfl, _⟩ := h
    rfl
  · obtain ⟨n, z, rfl, n1, n15, z15, k⟩ := h
    refine ⟨_, pss_cons (ps_expr (pe_call G1 hr rfl m1 k1 b1 .nil pass0 (pa_cons (pv 0) pa_nil)))
      (pss_cons (ps_expr (pe_call G2 hr rfl m2 k2 b2 .nil pass0 (pa_cons (pv 1) pa_nil)))
      (pss_one (ps_ret (pe_call G3 hr rfl m3 k3 b3 .nil pass0 (pa_cons (pv 0) (pa_cons (pv 1) pa_nil)))))), ?_⟩
    refine ⟨_, rfl, (n : Int), rfl, by omega, ?_⟩
    refine ⟨_, rfl, (z : Int), rfl, by omega, ?_⟩
    exact ⟨_, rfl, _, rfl, n, z, rfl, n15, z15, k⟩
theorem ok_untied_companies {f : Addr} {fd : FuncData} (F : Fun K "untied_companies" "untied_companies" sp_untied_companies f fd) (C2 : Has P w K mg base 2 "check_size" ["size"] spSz) (C3 : Has P w K mg base 1 "untied_number" ["size"] (spN1 15 unI)) : FnOk P w K mg base CX0 3 f fd ["size"] (spN1 15 unI) := by
  obtain ⟨f2, d2, G2, m2, k2, b2⟩ := C2
  obtain ⟨f3, d3, G3, m3, k3, b3⟩ := C3
  refine F.ok cp_untied_companies (fun vs H Q E h => ?_) (fun cdv A outer s H vs Q E hr h => ?_)
  · obtain ⟨_, rfl, _⟩ := h
    rfl
  · obtain ⟨n, rfl, n15, k⟩ := h
    have hr1 : Room 1 _ := hr.mono (by decide)
    refine ⟨_, pss_cons (ps_expr (pe_call G2 hr rfl m2 k2 b2 .nil pass0 (pa_cons (pv 0) pa_nil)))
      (pss_one (ps_ret (pe_call G3 hr1 rfl m3 k3 b3 .nil pass0 (pa_cons (pv 0) pa_nil)))), ?_⟩
    refine ⟨_, rfl, (n : Int), rfl, by omega, ?_⟩
    exact ⟨_, rfl, n, rfl, n15, k⟩
theorem ok_differ {f : Addr} {fd : FuncData} (F : Fun K "_law_differ" "_law_differ" s_differ f fd) (T : Bt mg) : FnOk P w K mg base CX0 1 f fd ["_law_first", "_law_second"] spDf := by
  refine F.ok c_differ (fun vs H Q E h => ?_) (fun cdv A outer s H vs Q E hr h => ?_)
  · obtain ⟨_, _, _, _, rfl, _⟩ := h
    rfl
  · obtain ⟨a, b, p, q, rfl, ha, hb, lpq, l20, k⟩ := h
    refine ⟨_, pss_one (ps_ret (pe_callTy call_tuple_of (by rfl) T.tuple (by decide +kernel) (pa_cons (pe_lc (own := [("_law_one", 2), ("_law_late", 3)]) (g := gTup K 2 (gCons (gName 2) (gCons (gName 3) gNil))) (tt := tYes) rfl c_differ.nd (RZ.pi_zipA (by rfl) T.zip (pa_cons (pv 0) (pa_cons (pv 1) pa_nil)))
      (blkOk_by (N := ["_law_first", "_law_second", "_law_one", "_law_late"]) (sc := defScope s_differ) (by decide +kernel)) (fun _ _ _ _ _ => pg_tup rfl (pgs_cons (pg_name (i := 2) c_differ.nd rfl (Or.inl rfl)) (pgs_cons (pg_name (i := 3) c_differ.nd rfl (Or.inl rfl)) pgs_nil))) (fun _ _ _ _ _ => pts_nil)
      (fun _ _ _ _ _ => pe_callTy call_int1 (by rfl) T.int (by decide +kernel) (pa_cons (pe_cmpR op_ne (pv 2) (pv 3) (nomark _)) pa_nil))) pa_nil))), ?_⟩
    refine ⟨_, rfl, _, rfl, a, b, _, _, rfl, .inr ⟨SqT.of ha, SqT.of hb, fun R hR => ?_⟩⟩
    refine lc_it (walk_zipT (K := K) (a := a) (b := b) (xs := iN p) (ys := iN q) (n := p.length) (iN_len p) (by rw [iN_len]; exact lpq.symm)) (fun i H' => Same H H' ∧ H' R = some (.lst (iN ((dfR p q).take i)))) ⟨same_new hR, upd_same⟩ (fun i H' _ z => ⟨SqT.of (z.1 _ _ ha), SqT.of (z.1 _ _ hb)⟩) ?_ ?_
    · rintro i v H1 H2 hi ⟨s2, hr2⟩ ⟨T0, x1, x2, rfl, nT, rfl, ep, eq⟩
      have ep : (iN p)[i]? = some x1 := ep
      have eq : (iN q)[i]? = some x2 := eq
      unfold iN at ep eq
      rw [List.getElem?_map] at ep eq
      obtain ⟨y, hy, rfl⟩ := Option.map_eq_some_iff.mp ep
      obtain ⟨z, hz, rfl⟩ := Option.map_eq_some_iff.mp eq
      have e3 : Same H1 (upd H1 T0 (.tup [.int (y : Int), .int (z : Int)])) := same_new nT
      have hx : (dfR p q)[i]? = some (if y = z then 0 else 1) := by
        unfold dfR
        rw [List.getElem?_zipWith, hy, hz]
      refine ⟨T0, _, rfl, SqT.of upd_same, rfl, _, _, rfl, _, _, rfl, rfl, rfl, ?_⟩
      refine ⟨_, rfl, _, rfl, rfl, .inr ⟨_, rfl, _, e3 _ _ hr2, ?_, same_over (s2.trans e3) hR, ?_⟩⟩
      · rw [iN_len, List.length_take, sizeLine_eq]; omega
      · rw [upd_same, take_next hx]
        unfold iN
        rw [List.map_append]
        refine congrArg (fun l => some (HO.lst (_ ++ l))) ?_
        show [V.int (if (!decide (V.int (y : Int) = V.int (z : Int))) = true then 1 else 0)] = [V.int ((if y = z then 0 else 1 : Nat) : Int)]
        by_cases c : y = z
        · subst c
          rw [if_pos rfl, decide_eq_true rfl]
          rfl
        · have e : decide (V.int (y : Int) = V.int (z : Int)) = false := decide_eq_false fun w => c (by have := V.int.inj w; omega)
          rw [if_neg c, e]
          rfl
    · rintro H1 ⟨s1, hr1⟩
      rw [show p.length = (dfR p q).length from (dfR_len lpq).symm, List.take_length] at hr1
      refine ⟨R, _, rfl, .inl ⟨SqL.of hr1, fun L hL => k _ L (s1.trans (same_new hL)) upd_same⟩⟩
theorem ok_share {f : Addr} {fd : FuncData} (F : Fun K "_law_share" "_law_share" s_share f fd) (T : Bt mg) : FnOk P w K mg base CX0 1 f fd ["_law_first", "_law_second"] (spShG K) := by
  refine F.ok c_share (fun vs H Q E h => ?_) (fun cdv A outer s H vs Q E hr h => ?_)
  · obtain ⟨_, _, _, _, rfl, _⟩ := h
    rfl
  · obtain ⟨a, b, p, q, rfl, ha, hb, lpq, l20, p1, q1, k⟩ := h
    refine ⟨_, pss_one (ps_ret (pe_op op_mod (pe_callTy call_int1 (by rfl) T.int (by decide +kernel) (pa_cons (pe_callB (r := rSum K) (cr_sum rfl) (by rfl) T.sum (by decide +kernel) (pa_cons (pe_lc (own := [("_law_one", 2), ("_law_late", 3)]) (g := gTup K 2 (gCons (gName 2) (gCons (gName 3) gNil))) (tt := tYes) rfl c_share.nd (KxZ.pi_zipK (by rfl) T.zip (pa_cons (pv 0) (pa_cons (pv 1) pa_nil)))
      (blkOk_by (N := ["_law_first", "_law_second", "_law_one", "_law_late"]) (sc := defScope s_share) (by decide +kernel)) (fun _ _ _ _ _ => pg_tup rfl (pgs_cons (pg_name (i := 2) c_share.nd rfl (Or.inl rfl)) (pgs_cons (pg_name (i := 3) c_share.nd rfl (Or.inl rfl)) pgs_nil))) (fun _ _ _ _ _ => pts_nil)
      (fun _ _ _ _ _ => pe_op op_mul (pv 2) (pv 3))) pa_nil)) pa_nil)) pe_int)), ?_⟩
    have hb' : ∃ kb : Bool, KxZ.SqK kb K H b (iN q) := by
      rcases hb with e | e
      · exact ⟨true, SqT.of e⟩
      · exact ⟨false, SqL.of e⟩
    have keepB : ∀ (H' : Hp), Same H H' → (tpR H' b q ∨ H' b = some (.lst (iN q))) := fun H' s' => hb.elim (fun e => .inl (s' _ _ e)) fun e => .inr (s' _ _ e)
    obtain ⟨kb, hkb⟩ : ∃ kb : Bool, ∀ H', Same H H' → KxZ.SqK kb K H' b (iN q) := by
      rcases hb with e | e
      · exact ⟨true, fun H' s' => SqT.of (s' _ _ e)⟩
      · exact ⟨false, fun H' s' => SqL.of (s' _ _ e)⟩
    have hka : ∀ H', Same H H' → KxZ.SqK true K H' a (iN p) := fun H' s' => SqT.of (s' _ _ ha)
    refine ⟨_, rfl, _, rfl, true, kb, a, b, _, _, rfl, hka H (Same.refl _), hkb H (Same.refl _), fun R hR => ?_⟩
    refine lc_it (KxZ.walk_zipK (K := K) (k1 := true) (k2 := kb) (a := a) (b := b) (xs := iN p) (ys := iN q) (n := p.length) (by rw [iN_len, iN_len, lpq]; omega)) (fun i H' => Same H H' ∧ H' R = some (.lst (iN ((List.zipWith (fun a b => a * b) p q).take i)))) ⟨same_new hR, upd_same⟩ (fun i H' _ z => ⟨hka H' z.1, hkb H' z.1⟩) ?_ ?_
    · rintro i v H1 H2 hi ⟨s2, hr2⟩ ⟨T0, x1, x2, rfl, nT, rfl, ep, eq⟩
      have ep : (iN p)[i]? = some x1 := ep
      have eq : (iN q)[i]? = some x2 := eq
      unfold iN at ep eq
      rw [List.getElem?_map] at ep eq
      obtain ⟨y, hy, rfl⟩ := Option.map_eq_some_iff.mp ep
      obtain ⟨z, hz, rfl⟩ := Option.map_eq_some_iff.mp eq
      have y1 := p1 y (List.mem_of_getElem? hy)
      have e3 : Same H1 (upd H1 T0 (.tup [.int (y : Int), .int (z : Int)])) := same_new nT
      have hx : (List.zipWith (fun a b => a * b) p q)[i]? = some (y * z) := by rw [List.getElem?_zipWith, hy, hz]
      refine ⟨T0, _, rfl, SqT.of upd_same, rfl, _, _, rfl, _, _, rfl, rfl, rfl, ?_⟩
      refine ⟨_, rfl, _, rfl, _, _, rfl, rfl, .inl ⟨by omega, by omega⟩, _, e3 _ _ hr2, ?_, same_over (s2.trans e3) hR, ?_⟩
      · rw [iN_len, List.length_take, sizeLine_eq]; omega
      · rw [upd_same, take_next hx]
        unfold iN
        rw [List.map_append]
        show some (HO.lst (_ ++ [V.int ((y : Int) * (z : Int))])) = some (HO.lst (_ ++ [V.int ((y * z : Nat) : Int)]))
        rw [Int.natCast_mul]
    · rintro H1 ⟨s1, hr1⟩
      have ll : (List.zipWith (fun a b => a * b) p q).length = p.length := by rw [List.length_zipWith]; omega
      rw [show p.length = (List.zipWith (fun a b => a * b) p q).length from ll.symm, List.take_length] at hr1
      have hr1' : H1 R = some (.lst (((List.zipWith (fun a b => a * b) p q).map fun (z : Nat) => (z : Int)).map V.int)) := by
        rw [hr1, List.map_map]
        rfl
      have es : ∀ l : List Nat, (l.map fun (z : Nat) => (z : Int)).sum = ((l.sum : Nat) : Int) := fun l => by
        induction l with
        | nil => rfl
        | cons a r ih =>
          rw [List.map_cons, List.sum_cons, ih, List.sum_cons]
          omega
      refine ⟨R, _, rfl, SqL.of hr1', .inl ⟨_, rfl, _, _, rfl, rfl, (by show (0 : Int) < 2; decide), ?_⟩⟩
      have q := k H1 s1
      rw [es]
      unfold shR shS at q
      rw [Int.natCast_emod] at q
      exact q
end
end Wd
end
section
set_option maxRecDepth 100000
set_option maxHeartbeats 1000000
namespace Kx
open PySem PySem.Spec PyProof.Rows L2
/-! sum(a tuple of whole numbers) -/
def rSumT (K : PySem.W.Frag) : List V → Hp → VK → Prop := fun vs H Q => ∃ (a : Addr) (ns : List Int), vs = [V.ref a] ∧ SqT K H a (ns.map V.int) ∧ Q (.int ns.sum) H
theorem cr_sumT {X : Cx} (hc : X.calm = true) : CallR X (.builtin "sum") (rSumT X.K) := by
  intro pins s σ H vs us Q I r h
  obtain ⟨a, ns, rfl, hs, q⟩ := h
  obtain ⟨its, rv, hl, hz⟩ := I.tuple hs
  rw [Vals.ref1 r]
  obtain ⟨xs, e⟩ := rv.ints.allInts.items
  have hn : numsOf (intItems xs).toList = ns := by rw [← e]; exact rv.ints.numsOf
  rw [nums_intItems] at hn
  have hl2 : s.heap.IsTuple a (intItems xs) := by
    rw [← e]
    exact hl
  refine PySem.W.ktm_sumG (I.ok.hd hc) hl2 fun h' tk t' hk => ?_
  refine ⟨.int ns.sum, H, I.kept hk, ⟨t', ?_⟩, q⟩
  rw [preSum_eq, List.take_of_length_le (by simp), hn]
end Kx
end
section
set_option maxRecDepth 100000
set_option maxHeartbeats 1000000
namespace Wd
open PySem L2
/-! families: rows of rows of noughts and ones, put together layer by layer -/
def leR : List Nat → List Nat → Bool
  | [], _ => true
  | _ :: _, [] => false
  | a :: p, b :: q => Nat.blt a b || (Nat.beq a b && leR p q)
def eqR : List Nat → List Nat → Bool
  | [], [] => true
  | a :: p, b :: q => Nat.beq a b && eqR p q
  | _, _ => false
def eqF : List (List Nat) → List (List Nat) → Bool
  | [], [] => true
  | a :: p, b :: q => eqR a b && eqF p q
  | _, _ => false
theorem eqR_iff : ∀ {p q : List Nat}, eqR p q = true ↔ p = q
  | [], [] => by simp [eqR]
  | [], _ :: _ => by simp [eqR]
  | _ :: _, [] => by simp [eqR]
  | a :: p, b :: q => by
    rw [eqR, Bool.and_eq_true, Nat.beq_eq, eqR_iff]
    simp
theorem eqF_iff : ∀ {p q : List (List Nat)}, eqF p q = true ↔ p = q
  | [], [] => by simp [eqF]
  | [], _ :: _ => by simp [eqF]
  | _ :: _, [] => by simp [eqF]
  | a :: p, b :: q => by
    rw [eqF, Bool.and_eq_true, eqR_iff, eqF_iff]
    simp
def putR (r : List Nat) : List (List Nat) → List (List Nat)
  | [] => [r]
  | a :: l => if leR r a = true then r :: a :: l else a :: putR r l
def srtR (l : List (List Nat)) : List (List Nat) := l.foldr putR []
def hasR (r : List Nat) : List (List Nat) → Bool
  | [] => false
  | a :: l => eqR a r || hasR r l
def hasF (k : List (List Nat)) : List (List (List Nat)) → Bool
  | [] => false
  | a :: l => eqF a k || hasF k l
theorem hasR_iff {r : List Nat} : ∀ {l : List (List Nat)}, hasR r l = true ↔ r ∈ l
  | [] => by simp [hasR]
  | a :: l => by
    rw [hasR, Bool.or_eq_true, eqR_iff, hasR_iff, List.mem_cons]
    exact ⟨fun h => h.imp Eq.symm id, fun h => h.imp Eq.symm id⟩
theorem hasF_iff {k : List (List Nat)} : ∀ {l : List (List (List Nat))}, hasF k l = true ↔ k ∈ l
  | [] => by simp [hasF]
  | a :: l => by
    rw [hasF, Bool.or_eq_true, eqF_iff, hasF_iff, List.mem_cons]
    exact ⟨fun h => h.imp Eq.symm id, fun h => h.imp Eq.symm id⟩
theorem leR_iff : ∀ {p q : List Nat}, leR p q = true ↔ p ≤ q
  | [], q => by
    rw [leR]
    exact ⟨fun _ => List.nil_le q, fun _ => rfl⟩
  | a :: p, [] => by
    rw [leR]
    exact ⟨fun h => (nomatch h), fun h => absurd (List.nil_lt_cons a p) h⟩
  | a :: p, b :: q => by
    rw [leR, Bool.or_eq_true, Bool.and_eq_true, Nat.beq_eq, leR_iff (p := p) (q := q), List.cons_le_cons_iff]
    have e : Nat.blt a b = true ↔ a < b := by
      unfold Nat.blt
      rw [Nat.ble_eq]
      exact Iff.rfl
    rw [e]
theorem putR_perm (r : List Nat) : ∀ l, (putR r l).Perm (r :: l)
  | [] => .refl _
  | a :: l => by
    rw [putR]
    split
    · exact .refl _
    · exact ((putR_perm r l).cons a).trans (.swap r a l)
theorem srtR_perm : ∀ l, (srtR l).Perm l
  | [] => .refl _
  | a :: l => (putR_perm a _).trans ((srtR_perm l).cons a)
theorem putR_asc {r : List Nat} : ∀ {l : List (List Nat)}, l.Pairwise (· ≤ ·) → (putR r l).Pairwise (· ≤ ·)
  | [], _ => List.pairwise_singleton _ _
  | a :: l, h => by
    obtain ⟨h1, h2⟩ := List.pairwise_cons.mp h
    rw [putR]
    split
    · rename_i c
      have c := leR_iff.mp c
      refine List.pairwise_cons.mpr ⟨fun b hb => ?_, h⟩
      rcases List.mem_cons.mp hb with rfl | hb
      · exact c
      · exact List.le_trans c (h1 b hb)
    · rename_i c
      have c : a ≤ r := (List.le_total r a).resolve_left fun z => c (leR_iff.mpr z)
      refine List.pairwise_cons.mpr ⟨fun b hb => ?_, putR_asc h2⟩
      rcases List.mem_cons.mp ((putR_perm r l).mem_iff.mp hb) with rfl | hb
      · exact c
      · exact h1 b hb
theorem srtR_asc : ∀ l, (srtR l).Pairwise (· ≤ ·)
  | [] => .nil
  | a :: l => putR_asc (srtR_asc l)
/-- the even rows of so many -/
def evL (n : Nat) : List (List Nat) := (flL n).filter fun p => Nat.beq (p.sum % 2) 0
def freeR (r : List Nat) (fam : List (List Nat)) : Bool := !hasR r fam && !fam.any fun l => !Nat.beq (shR r l) 0
def moreR (r : List Nat) (fam : List (List Nat)) : List (List Nat) := fam ++ fam.map (dfR r)
def insF (ks : List (List (List Nat))) (k : List (List Nat)) : List (List (List Nat)) := if hasF k ks = true then ks else ks ++ [k]
def stepF (fam : List (List Nat)) (ks : List (List (List Nat))) (r : List Nat) : List (List (List Nat)) := if freeR r fam = true then insF ks (srtR (moreR r fam)) else ks
def turnF (ev : List (List Nat)) (ks : List (List (List Nat))) (fam : List (List Nat)) : List (List (List Nat)) := ev.foldl (stepF fam) ks
def nextF (ev : List (List Nat)) (lay : List (List (List Nat))) : List (List (List Nat)) := lay.foldl (turnF ev) []
theorem insF_len (ks : List (List (List Nat))) (k : List (List Nat)) : (insF ks k).length ≤ ks.length + 1 := by
  unfold insF
  split
  · omega
  · rw [List.length_append]; exact Nat.le_refl _
theorem turnF_len {fam : List (List Nat)} : ∀ (l : List (List Nat)) (ks : List (List (List Nat))), (l.foldl (stepF fam) ks).length ≤ ks.length + l.length
  | [], ks => Nat.le_refl _
  | r :: l, ks => by
    have h := turnF_len (fam := fam) l (stepF fam ks r)
    have h2 : (stepF fam ks r).length ≤ ks.length + 1 := by
      unfold stepF
      split
      · exact insF_len _ _
      · omega
    rw [List.foldl_cons, List.length_cons]
    omega
theorem foldF_len {ev : List (List Nat)} : ∀ (l : List (List (List Nat))) (ks : List (List (List Nat))), (l.foldl (turnF ev) ks).length ≤ ks.length + l.length * ev.length
  | [], ks => by simp
  | f :: l, ks => by
    have h := foldF_len (ev := ev) l (turnF ev ks f)
    have h2 : (turnF ev ks f).length ≤ ks.length + ev.length := turnF_len ev ks
    rw [List.foldl_cons, List.length_cons, Nat.add_mul]
    omega
/-- what holds of every family of a layer -/
def famB (n : Nat) (fam : List (List Nat)) : Bool := Nat.blt 0 fam.length && Nat.blt fam.length 30 && fam.all fun r => Nat.beq r.length n && r.all fun z => Nat.ble z 1
def chkF (n : Nat) (ev : List (List Nat)) : Nat → List (List (List Nat)) → List Nat → Bool
  | 0, _, _ => false
  | f + 1, lay, ns => match lay with
    | [] => Nat.blt ns.length 10 && decide ((ns.map (fun (z : Nat) => (z : Int)) ++ List.replicate 6 0).take 5 = (List.range 5).map (famI n))
    | _ :: _ => Nat.blt lay.length 1000 && lay.all (famB n) && Nat.blt ns.length 10 && chkF n ev f (nextF ev lay) (ns ++ [lay.length])
def evB (n : Nat) : Bool := match evL n with
  | [] => false
  | r :: _ => ((evL n).all fun r => Nat.beq r.length n && r.all fun z => Nat.ble z 1) && Nat.blt (evL n).length 100 && chkF n (evL n) 8 [[r]] []
theorem ev5 : ∀ n : Nat, n < 6 → 1 ≤ n → evB n = true := by decide +kernel
theorem ev6 : evB 6 = true := by decide +kernel
end Wd
end
section
set_option maxRecDepth 100000
set_option maxHeartbeats 1000000
namespace Wd
open PySem L2
/-! the law, over what its two countings give -/
def five5 (n : Nat) : List Int := (List.range 5).map (famI n)
/-- the families of so many people, counted: how many of each size there are, until there are none -/
def spCF : Sp := fun vs H Q _ => ∃ n : Nat, vs = [.int (n : Int)] ∧ 1 ≤ n ∧ n ≤ 6 ∧ ∀ (H' : Hp) (L : Addr) (ns : List Int), Same H H' → H' L = some (.lst (ns.map V.int)) → ns.length ≤ 10 → (ns ++ List.replicate 6 0).take 5 = five5 n → Q (.ref L) H'
def spCU : Sp := fun vs H Q _ => ∃ n : Nat, vs = [.int (n : Int)] ∧ n ≤ 4 ∧ ∀ H', Same H H' → Q (.int (unI n)) H'
theorem fw_eq : ∀ m : Nat, m < 15 → ∀ s : Nat, s < 10 → 1 ≤ m → fW m s = famI m s := by decide +kernel
theorem un_ut : ∀ m : Nat, m < 15 → (utF 14).getD m 0 = unI m := by decide +kernel
theorem last_ok : [famI 2 1, famI 4 2, famI 6 3, famI 5 3, unI 4, unI 6] = [1, 3, 15, 0, 28, 13888] := by decide +kernel
theorem PurseAt.less {H : Hp} {p : Addr} {c : Int} {n m : Nat} (h : PurseAt H p c n) (l : m ≤ n) : PurseAt H p c m := by
  obtain ⟨b, t, z, e, h1, h2, h3, h4, r⟩ := h
  exact ⟨b, t, z, e, h1, h2, h3, by omega, r⟩
theorem cutV_lo (xs : List V) (k : Nat) : cutV xs none (some (k : Int)) = xs.take k := by
  have e0 : HT.sIx xs.length 0 none = 0 := rfl
  unfold cutV
  rw [sIx_n, e0, List.drop_zero, Nat.sub_zero]
  by_cases h : k ≤ xs.length
  · rw [Nat.min_eq_left h]
  · rw [Nat.min_eq_right (by omega), List.take_of_length_le (Nat.le_refl _), List.take_of_length_le (by omega)]
theorem sm_intL {H : Hp} {a b : Addr} {l : List Int} (n : Nat) (ha : H a = some (.lst (l.map V.int))) (hb : H b = some (.lst (l.map V.int))) (few : l.length ≤ 100) : Sm H (n + 1) (.ref a) (.ref b) :=
  .lst ha hb rfl (by rw [List.length_map]; exact few) fun i p q hp hq => by
    have e : p = q := Option.some.inj (hp.symm.trans hq)
    subst e
    rw [List.getElem?_map] at hp
    obtain ⟨z, _, rfl⟩ := Option.map_eq_some_iff.mp hp
    exact .atom _ (.inl ⟨_, rfl⟩)
def spLaw (K : PySem.W.Frag) : Sp := fun vs H Q _ => ∃ (a : Addr) (ns : List Int), vs = [.ref a] ∧ SqL K H a (ns.map V.int) ∧ ns.length ≤ 63 ∧ ∀ H', Q (.bl true) H'
abbrev nLw : List Str := ["_law_script", "_law_purse_here", "_law_many", "_law_numbers", "_law_size", "_law_untied", "_law_turn", "_law_told"]
section
variable {P : Program} {w : World} {K : PySem.W.Frag} {mg : Str → Option Value} {base : Heap}
theorem ok_law {f : Addr} {fd : FuncData} (F : Fun K "law" "law" s_law f fd) (T : Bt mg) (C1 : Has P w K mg base 2 "_law_purses" ["_law_script", "_law_few"] (spPurses K)) (C2 : Has P w K mg base 2 "_law_draw" ["_law_purse_here", "_law_many"] spDraw) (C3 : Has P w K mg base 5 "_law_counted_families" ["_law_many"] spCF)
    (C4 : Has P w K mg base 3 "even_families" ["many", "size"] spEF) (C5 : Has P w K mg base 2 "_law_exact" ["_law_mine", "_law_theirs"] (spExact 1)) (C6 : Has P w K mg base 3 "untied_companies" ["size"] (spN1 15 unI)) (C7 : Has P w K mg base 5 "_law_counted_untied" ["_law_size"] spCU)
    (C8 : Has P w K mg base 2 "_law_untied_to" ["_law_most"] spUt) (C9 : Has P w K mg base 3 "_law_families" ["_law_many", "_law_size"] spFW) : FnOk P w K mg base CX0 6 f fd ["_law_script"] (spLaw K) := by
  obtain ⟨f1, d1, G1, m1, k1, b1⟩ := C1
  obtain ⟨f2, d2, G2, m2, k2, b2⟩ := C2
  obtain ⟨f3, d3, G3, m3, k3, b3⟩ := C3
  obtain ⟨f4, d4, G4, m4, k4, b4⟩ := C4
  obtain ⟨f5, d5, G5, m5, k5, b5⟩ := C5
  obtain ⟨f6, d6, G6, m6, k6, b6⟩ := C6
  obtain ⟨f7, d7, G7, m7, k7, b7⟩ := C7
  obtain ⟨f8, d8, G8, m8, k8, b8⟩ := C8
  obtain ⟨f9, d9, G9, m9, k9, b9⟩ := C9
  refine F.ok c_law (fun vs H Q E h => ?_) (fun cdv A outer s H vs Q E hr h => ?_)
  · obtain ⟨_, _, rfl, _⟩ := h
    rfl
  · obtain ⟨a, ns, rfl, hS, l63, k⟩ := h
    have hr3 : Room 3 _ := hr.mono (by decide)
    have hr2 : Room 2 _ := hr.mono (by decide)
    refine ⟨_, pss_cons (ps_for PassesOwn.never rfl (pi_list (pe_call G1 hr2 rfl m1 k1 b1 .nil pass0 (pa_cons (pv 0) (pa_cons pe_int pa_nil)))) (pg_name (i := 1) c_law.nd rfl (Or.inl rfl))
        (pss_cons (ps_set (i := 2) c_law.nd rfl (Or.inr rfl) (pe_ifExp (pt_cmpR op_eq (pe_call G2 hr2 rfl m2 k2 b2 .nil pass0 (pa_cons (pv 1) (pa_cons pe_int pa_nil))) pe_int (nomark _)) pe_int (pe_op op_add pe_int (pe_call G2 hr2 rfl m2 k2 b2 .nil pass0 (pa_cons (pv 1) (pa_cons pe_int pa_nil))))))
        (pss_cons (ps_set (i := 3) c_law.nd rfl (Or.inl rfl) (pe_op op_cat (pe_call G3 hr rfl m3 k3 b3 .nil pass0 (pa_cons (pv 2) pa_nil)) (pe_op op_rep (pe_lst (pa_cons pe_int pa_nil)) pe_int)))
        (pss_cons (ps_if (pt_not (pt_val (pe_call G5 hr2 rfl m5 k5 b5 .nil pass0 (pa_cons (pe_lc (own := [("_law_size", 4)]) (g := gName 4) (tt := tYes) rfl c_law.nd (pi_range1 rfl T.range (pa_cons pe_int pa_nil))
            (blkOk_by (N := nLw) (sc := defScope s_law) (by decide +kernel)) (fun _ _ _ _ _ => pg_name (i := 4) c_law.nd rfl (Or.inl rfl)) (fun _ _ _ _ _ => pts_nil) (fun _ _ _ _ _ => pe_call G4 hr3 rfl m4 k4 b4 .nil pass0 (pa_cons (pv 2) (pa_cons (pv 4) pa_nil))))
            (pa_cons (pe_slice sl_list (pv 3) po_none (po_some pe_int)) pa_nil))))) (pss_one ps_never) pss_nil)
        (pss_cons (ps_set (i := 4) c_law.nd rfl (Or.inl rfl) (pe_ifExp (pt_cmpR op_eq (pe_call G2 hr2 rfl m2 k2 b2 .nil pass0 (pa_cons (pv 1) (pa_cons pe_int pa_nil))) pe_int (nomark _)) pe_int (pe_call G2 hr2 rfl m2 k2 b2 .nil pass0 (pa_cons (pv 1) (pa_cons pe_int pa_nil)))))
        (pss_cons (ps_if (pt_not (pt_val (pe_call G5 hr2 rfl m5 k5 b5 .nil pass0 (pa_cons (pe_call G6 hr3 rfl m6 k6 b6 .nil pass0 (pa_cons (pv 4) pa_nil)) (pa_cons (pe_call G7 hr rfl m7 k7 b7 .nil pass0 (pa_cons (pv 4) pa_nil)) pa_nil))))) (pss_one ps_never) pss_nil)
        (pss_cons (ps_set (i := 5) c_law.nd rfl (Or.inl rfl) (pe_call G8 hr2 rfl m8 k8 b8 .nil pass0 (pa_cons pe_int pa_nil)))
        (pss_one (ps_for PassesOwn.never rfl (pi_range1 rfl T.range (pa_cons pe_int pa_nil)) (pg_name (i := 6) c_law.nd rfl (Or.inl rfl))
          (pss_cons (ps_asg (pe_tup (pa_cons (pe_op op_add pe_int (pe_call G2 hr2 rfl m2 k2 b2 .nil pass0 (pa_cons (pv 1) (pa_cons pe_int pa_nil)))) (pa_cons (pe_call G2 hr2 rfl m2 k2 b2 .nil pass0 (pa_cons (pv 1) (pa_cons pe_int pa_nil))) pa_nil)))
            (pg_tup rfl (pgs_cons (pg_name (i := 2) c_law.nd rfl (Or.inr rfl)) (pgs_cons (pg_name (i := 4) c_law.nd rfl (Or.inl rfl)) pgs_nil))))
          (pss_one (ps_if (pt_not (pt_val (pe_call G5 hr2 rfl m5 k5 b5 .nil pass0 (pa_cons (pe_lst (pa_cons (pe_call G4 hr3 rfl m4 k4 b4 .nil pass0 (pa_cons (pv 2) (pa_cons (pv 4) pa_nil))) (pa_cons (pe_call G6 hr3 rfl m6 k6 b6 .nil pass0 (pa_cons (pv 2) pa_nil)) pa_nil)))
            (pa_cons (pe_lst (pa_cons (pe_call G9 hr3 rfl m9 k9 b9 .nil pass0 (pa_cons (pv 2) (pa_cons (pv 4) pa_nil))) (pa_cons (pe_ix ix_list (pv 5) (pv 2) (fun _ _ => rfl)) pa_nil))) pa_nil))))) (pss_one ps_never) pss_nil))))))))))))
      (pss_cons (ps_set (i := 7) c_law.nd rfl (Or.inl rfl) (pe_lst (pa_cons (pe_call G4 hr3 rfl m4 k4 b4 .nil pass0 (pa_cons pe_int (pa_cons pe_int pa_nil))) (pa_cons (pe_call G4 hr3 rfl m4 k4 b4 .nil pass0 (pa_cons pe_int (pa_cons pe_int pa_nil))) (pa_cons (pe_call G4 hr3 rfl m4 k4 b4 .nil pass0 (pa_cons pe_int (pa_cons pe_int pa_nil))) (pa_cons (pe_call G4 hr3 rfl m4 k4 b4 .nil pass0 (pa_cons pe_int (pa_cons pe_int pa_nil)))
        (pa_cons (pe_call G6 hr3 rfl m6 k6 b6 .nil pass0 (pa_cons pe_int pa_nil)) (pa_cons (pe_call G6 hr3 rfl m6 k6 b6 .nil pass0 (pa_cons pe_int pa_nil)) pa_nil))))))))
      (pss_one (ps_ret (pe_call G5 hr2 rfl m5 k5 b5 .nil pass0 (pa_cons (pv 7) (pa_cons (pe_lst (pa_cons pe_int (pa_cons pe_int (pa_cons pe_int (pa_cons pe_int (pa_cons pe_int (pa_cons pe_int pa_nil))))))) pa_nil)))))), ?_⟩
    refine ⟨_, rfl, a, ns, 1, rfl, hS, by decide, fun H1 D ps s1 nD hD nd lps hp => ?_⟩
    refine ⟨D, rfl, ⟨_, SqL.of hD⟩, ?_⟩
    refine for_list (xs := ps.map V.ref) (fun i σ H' => (∃ v1 v2 v3 v4 v5 v6 v7 : Option V, σ = [some (.ref a), v1, v2, v3, v4, v5, v6, v7]) ∧ H' D = some (.lst (ps.map V.ref)) ∧ (∀ (j : Nat) q, i ≤ j → ps[j]? = some q → ∃ c, PurseAt H' q c 1000000))
      ⟨⟨none, none, none, none, none, none, none, rfl⟩, hD, fun j q _ hq => (hp q (List.mem_of_getElem? hq)).2⟩ (fun i σ H' _ z => SqL.of z.2.1) ?_ ?_
    · rintro i0 v σ H2 hv ⟨⟨v1, v2, v3, v4, v5, v6, v7, rfl⟩, hd, hp2⟩
      rw [List.getElem?_map] at hv
      obtain ⟨q, hq, rfl⟩ := Option.map_eq_some_iff.mp hv
      obtain ⟨c0, pa⟩ := hp2 i0 q (Nat.le_refl _) hq
      have pa2 := pa.less (m := 1000) (by decide)
      refine ⟨_, rfl, q, 12, c0, 999, rfl, pa2, by decide, by decide, fun H3 r r0 r12 sx3 pa3 => ⟨rfl, _, rfl, ?_⟩⟩
      refine ite2 (fun _ => ?_) (fun _ => ?_)
      case' _ =>
        obtain ⟨N, hN, n1, n6⟩ : ∃ N : Nat, (6 : Int) = (N : Int) ∧ 1 ≤ N ∧ N ≤ 6 := ⟨6, rfl, by decide, by decide⟩
        have sxF := sx3
        have paF : PurseAt H3 q c0 900 := pa3.less (by decide)
        show gName 2 (V.int 6) _ _ _
        conv => arg 2; rw [hN]
        clear hN
      rotate_left
      refine ⟨_, rfl, q, 5, c0, 900, rfl, pa3.less (by decide), by decide, by decide, fun H4 r2 r20 r25 sx4 paF => ⟨_, _, rfl, rfl, ?_⟩⟩
      obtain ⟨N, hN⟩ : ∃ N : Nat, 1 + r2 = (N : Int) := ⟨(1 + r2).toNat, by omega⟩
      have n1 : 1 ≤ N := by omega
      have n6 : N ≤ 6 := by omega
      have sxF := sx3.trans sx4
      show gName 2 (V.int (1 + r2)) _ _ _
      rw [hN]
      clear hN
      rotate_left
      all_goals
        refine ⟨_, rfl, N, rfl, n1, n6, fun H5 L ns4 s5 hL lns h5 => ?_⟩
        refine ⟨by show 1 ≤ sizeLine; decide, fun A0 hA0 => ⟨A0, 6, [.int 0], rfl, rfl, upd_same, by decide, by decide, by decide, fun B hB => ?_⟩⟩
        have e6 := same_new (o := .lst [.int 0]) hA0
        have e7 := same_new (o := .lst (List.replicate (6 : Int).toNat [V.int 0]).flatten) hB
        refine ⟨L, B, _, _, rfl, rfl, e7 _ _ (e6 _ _ hL), upd_same, ?_, fun C hC => ?_⟩
        · rw [List.length_map, sizeLine_eq]
          show ns4.length + 6 ≤ _
          omega
        have e8 := same_new (o := .lst (ns4.map V.int ++ (List.replicate (6 : Int).toNat [V.int 0]).flatten)) hC
        have hC8 : upd (upd (upd H5 A0 (.lst [.int 0])) B (.lst (List.replicate (6 : Int).toNat [V.int 0]).flatten)) C (.lst (ns4.map V.int ++ (List.replicate (6 : Int).toNat [V.int 0]).flatten)) C = some (.lst ((ns4 ++ List.replicate 6 0).map V.int)) := by
          rw [upd_same, List.map_append]
          rfl
        have s8 := s5.trans (e6.trans (e7.trans e8))
        generalize upd (upd (upd H5 A0 (.lst [.int 0])) B (.lst (List.replicate (6 : Int).toNat [V.int 0]).flatten)) C (.lst (ns4.map V.int ++ (List.replicate (6 : Int).toNat [V.int 0]).flatten)) = H8 at hC8 s8 ⊢
        refine ⟨5, rfl, by decide, by decide, fun Y hY => ?_⟩
        refine lc_range (lo := 0) (n := 5) (fun i H' => Same H8 H' ∧ H' Y = some (.lst (((List.range i).map (famI N)).map V.int))) ⟨same_new hY, upd_same⟩ ?_ ?_
        · rintro i H9 hi ⟨s9, hd9⟩
          rw [Int.zero_add]
          refine ⟨rfl, _, rfl, _, rfl, N, i, rfl, n1, by omega, by omega, _, hd9, ?_, same_over s9 hY, ?_⟩
          · rw [List.length_map, List.length_map, List.length_range, sizeLine_eq]; omega
          · rw [upd_same, List.range_succ, List.map_append, List.map_append]
            rfl
        rintro H9 ⟨s9, hY9⟩
        refine ⟨_, rfl, _, rfl, C, _, rfl, SqL.of (s9 _ _ hC8), fun Z hZ => ?_⟩
        have e10 := same_new (o := .lst (cutV ((ns4 ++ List.replicate 6 0).map V.int) none (some 5))) hZ
        have hZ10 : upd H9 Z (.lst (cutV ((ns4 ++ List.replicate 6 0).map V.int) none (some 5))) Z = some (.lst ((five5 N).map V.int)) := by
          have ec : cutV ((ns4 ++ List.replicate 6 0).map V.int) none (some 5) = ((ns4 ++ List.replicate 6 0).map V.int).take 5 := cutV_lo _ 5
          rw [upd_same, ec, ← List.map_take, h5]
        refine ⟨_, _, rfl, sm_intL 0 (e10 _ _ hY9) hZ10 (by rw [List.length_map, List.length_range]; decide), fun H11 s11 => ⟨_, rfl, iteF ?_⟩⟩
        have sF11 := ((s8.trans s9).trans e10).trans s11
        have sx11 := sxF.trans (SameX.of sF11)
        have pa11 := paF.same sF11
        refine ⟨_, rfl, q, 6, c0, 890, rfl, pa11.less (by decide), by decide, by decide, fun H12 r3 r30 r36 sx12 pa12 => ⟨rfl, _, rfl, ?_⟩⟩
        refine ite2 (fun _ => ?_) (fun _ => ?_)
        have sxG := sx11.trans sx12
        have paG : PurseAt H12 q c0 880 := pa12.less (by decide)
        refine ⟨_, rfl, 4, rfl, by decide, _, rfl, 4, rfl, by decide, fun H13 s13 => ⟨_, _, rfl, .atom _ (.inl ⟨_, rfl⟩), fun H14 s14 => ⟨_, rfl, iteF ?_⟩⟩⟩
        have sF14 := s13.trans s14
        rotate_left
        refine ⟨_, rfl, q, 4, c0, 880, rfl, pa12.less (by decide), by decide, by decide, fun H12' r4 r40 r44 sx12' paG => ?_⟩
        obtain ⟨z, rfl⟩ : ∃ z : Nat, r4 = (z : Int) := ⟨r4.toNat, by omega⟩
        have sxG := (sx11.trans sx12).trans sx12'
        refine ⟨_, rfl, z, rfl, by omega, _, rfl, z, rfl, by omega, fun H13 s13 => ⟨_, _, rfl, .atom _ (.inl ⟨_, rfl⟩), fun H14 s14 => ⟨_, rfl, iteF ?_⟩⟩⟩
        have sF14 := s13.trans s14
        rotate_left
        all_goals
          have sx14 := sxG.trans (SameX.of sF14)
          have pa14 := paG.same sF14
          refine ⟨14, rfl, by decide, fun H15 U s15 hU => ?_⟩
          have sx15 := sx14.trans (SameX.of s15)
          have pa15 := pa14.same s15
          have ul : (utF 14).length = 15 := utF_len 14
          have u0 : ∀ b c t z : Int, (utF 14).map V.int ≠ [.int b, .int c, .int t, .int z] := fun b c t z e => by
            have := congrArg List.length e
            rw [List.length_map, ul] at this
            cases this
          have nUq : U ≠ q := purse_ne pa15 hU fun b c t z e => u0 b c t z (HO.lst.inj e)
          refine ⟨4, rfl, by decide, by decide, ?_⟩
          refine for_range (lo := 0) (n := 4) (fun i σ H' => (∃ v2 v3 v4 v6 v7 : Option V, σ = [some (.ref a), some (.ref q), v2, v3, v4, some (.ref U), v6, v7]) ∧ SameX q H2 H' ∧ PurseAt H' q c0 (800 - 4 * i) ∧ H' U = some (.lst ((utF 14).map V.int))) ⟨⟨_, _, _, _, _, rfl⟩, sx15, pa15.less (by decide), hU⟩ ?_ ?_
          · rintro i σ H16 hi ⟨⟨v2, v3, v4, v6, v7, rfl⟩, sx16, pa16, hU16⟩
            refine ⟨_, rfl, q, 14, c0, 800 - 4 * i - 1, rfl, pa16.less (by omega), by decide, by decide, fun H17 r5 r50 r514 sx17 pa17 => ⟨_, _, rfl, rfl, _, rfl, q, 10, c0, 800 - 4 * i - 2, rfl, pa17.less (by omega), by decide, by decide, fun H18 r6 r60 r610 sx18 pa18 => ⟨by show 2 ≤ sizeLine; decide, fun TT hTT => ⟨TT, _, rfl, SqT.of upd_same, rfl, _, _, rfl, _, _, rfl, rfl, ?_⟩⟩⟩⟩
            obtain ⟨M, hM⟩ : ∃ M : Nat, 1 + r5 = (M : Int) := ⟨(1 + r5).toNat, by omega⟩
            obtain ⟨z, rfl⟩ : ∃ z : Nat, r6 = (z : Int) := ⟨r6.toNat, by omega⟩
            have e19 := same_new (o := .tup [.int (1 + r5), .int (z : Int)]) hTT
            have hU18 := sx18 _ _ nUq (sx17 _ _ nUq hU16)
            have hU19 := e19 _ _ hU18
            refine ⟨_, rfl, _, rfl, M, z, by show [V.int (1 + r5), V.int _] = _; rw [hM], by omega, by omega, by omega, ?_⟩
            refine ⟨_, rfl, M, by show [V.int (1 + r5)] = _; rw [hM], by omega, by show 2 ≤ sizeLine; decide, fun X1 hX1 => ?_⟩
            have e20 := same_new (o := .lst [.int (famI M z), .int (unI M)]) hX1
            refine ⟨_, rfl, _, rfl, M, z, by show [V.int (1 + r5), V.int _] = _; rw [hM], by omega, by omega, by omega, fun H21 s21 => ?_⟩
            have hX21 := s21 _ _ (upd_same (H := upd H18 TT (.tup [.int (1 + r5), .int (z : Int)])) (a := X1) (o := .lst [.int (famI M z), .int (unI M)]))
            refine ⟨_, rfl, _, rfl, U, _, _, _, rfl, rfl, SqL.of (s21 _ _ (e20 _ _ hU19)), ints_atZ (i := M) hM (by omega), by show 2 ≤ sizeLine; decide, fun X2 hX2 => ?_⟩
            have e22 := same_new (o := .lst [.int (fW M z), .int ((utF 14).getD M 0)]) hX2
            refine ⟨_, _, rfl, .lst (e22 _ _ hX21) upd_same rfl (by show 2 ≤ 100; decide) fun j x y hx hy => ?_, fun H23 s23 => ⟨_, rfl, iteF ?_⟩⟩
            · match j, hx, hy with
              | 0, hx, hy =>
                obtain rfl := Option.some.inj hx
                obtain rfl := Option.some.inj hy
                rw [fw_eq M (by omega) z (by omega) (by omega)]
                exact .atom _ (.inl ⟨_, rfl⟩)
              | 1, hx, hy =>
                obtain rfl := Option.some.inj hx
                obtain rfl := Option.some.inj hy
                rw [un_ut M (by omega)]
                exact .atom _ (.inl ⟨_, rfl⟩)
            · have sF := ((e19.trans e20).trans s21).trans (e22.trans s23)
              exact ⟨⟨_, _, _, _, _, rfl⟩, ((sx16.trans sx17).trans sx18).trans (SameX.of sF), (pa18.same sF).less (by omega), sF _ _ hU18⟩
          · rintro σ H16 ⟨⟨v2, v3, v4, v6, v7, rfl⟩, sx16, pa16, hU16⟩
            have refs : ∀ x ∈ ps.map V.ref, ∀ i : Int, x ≠ .int i := fun x hx i z => by
              obtain ⟨_, _, e⟩ := List.mem_map.mp hx
              rw [z] at e
              cases e
            refine ⟨⟨_, _, _, _, _, _, _, rfl⟩, sameX_lst pa sx16 hd refs, fun j q' hj hq' => ?_⟩
            obtain ⟨c', b, t, z, e, r⟩ := hp2 j q' (by omega) hq'
            have ne : q' ≠ q := fun z => by
              have := nd_inj nd hq (by rw [hq', z])
              omega
            exact ⟨c', b, t, z, sx16 q' _ ne e, r⟩
    · rintro σ H2 ⟨⟨v1, v2, v3, v4, v5, v6, v7, rfl⟩, _, _⟩
      refine ⟨2, 1, rfl, by decide, by decide, by decide, 4, 2, rfl, by decide, by decide, by decide, 6, 3, rfl, by decide, by decide, by decide, 5, 3, rfl, by decide, by decide, by decide, 4, rfl, by decide, 6, rfl, by decide, by show 6 ≤ sizeLine; decide, fun X1 hX1 => ?_⟩
      have e1 := same_new (o := .lst ([famI 2 1, famI 4 2, famI 6 3, famI 5 3, unI 4, unI 6].map V.int)) hX1
      have hX : upd H2 X1 (.lst ([famI 2 1, famI 4 2, famI 6 3, famI 5 3, unI 4, unI 6].map V.int)) X1 = some (.lst (([1, 3, 15, 0, 28, 13888] : List Int).map V.int)) := by
        rw [upd_same, last_ok]
      refine ⟨_, rfl, by show 6 ≤ sizeLine; decide, fun X2 hX2 => ?_⟩
      exact ⟨_, _, rfl, sm_intL 0 (same_new hX2 _ _ hX) upd_same (by decide), fun H' _ => k H'⟩
end
end Wd
end
section
set_option maxRecDepth 100000
set_option maxHeartbeats 1000000
namespace Wd
open PySem L2
def tD (p : List Nat) : PyData := .tuple (iD p)
def fD (fam : List (List Nat)) : PyData := .list (fam.map tD)
def lD (lay : List (List (List Nat))) : PyData := .list (lay.map fD)
theorem dp_Ns {K : PySem.W.Frag} {H : Hp} : ∀ ns : List Nat, DpAll K H (iN ns) (iD ns)
  | [] => .nil
  | n :: r => .cons (.int _) (dp_Ns r)
theorem dp_tp {K : PySem.W.Frag} {H : Hp} {S : Addr} {p : List Nat} (h : tpR H S p) : Dp K H (.ref S) (tD p) := .tup (SqT.of h) (dp_Ns _)
theorem dp_tps {K : PySem.W.Frag} {H : Hp} : ∀ {As : List Addr} {L : List (List Nat)}, Al (tpR H) As L → DpAll K H (As.map V.ref) (L.map tD)
  | [], [], _ => .nil
  | [], _ :: _, h => by cases h.1
  | _ :: _, [], h => by cases h.1
  | A :: As, x :: L, h => .cons (dp_tp (h.2 0 A x rfl rfl)) (dp_tps ⟨Nat.succ.inj h.1, fun i B y a b => h.2 (i + 1) B y a b⟩)
theorem dp_fam {K : PySem.W.Frag} {H : Hp} {A : Addr} {fam : List (List Nat)} (h : TpAt H A fam) : Dp K H (.ref A) (fD fam) := by
  obtain ⟨Ss, a, b⟩ := h
  exact .lst (SqL.of a) (dp_tps b)
theorem dp_fams {K : PySem.W.Frag} {H : Hp} : ∀ {As : List Addr} {L : List (List (List Nat))}, Al (TpAt H) As L → DpAll K H (As.map V.ref) (L.map fD)
  | [], [], _ => .nil
  | [], _ :: _, h => by cases h.1
  | _ :: _, [], h => by cases h.1
  | A :: As, x :: L, h => .cons (dp_fam (h.2 0 A x rfl rfl)) (dp_fams ⟨Nat.succ.inj h.1, fun i B y a b => h.2 (i + 1) B y a b⟩)
theorem lay_all {α : Type} {d : α → PyData} (h : ∀ x, (d x).canLay0 = true) : ∀ l : List α, PyData.canLayAll0 (l.map d) = true
  | [] => by simp [PyData.canLayAll0]
  | a :: l => by
    rw [List.map_cons, PyData.canLayAll0, h a, lay_all h l]
    rfl
theorem depth_all {α : Type} {d : α → PyData} {b : Nat} (h : ∀ x, (d x).depth ≤ b) : ∀ l : List α, PyData.depthAll (l.map d) ≤ b
  | [] => by simp [PyData.depthAll]
  | a :: l => by
    have h1 := h a
    have h2 := depth_all h l
    rw [List.map_cons, PyData.depthAll]
    omega
theorem lay_t (p : List Nat) : (tD p).canLay0 = true := by
  unfold tD iD
  rw [PyData.canLay0]
  exact lay_all (fun x => by simp [PyData.canLay0]) p
theorem lay_f (p : List (List Nat)) : (fD p).canLay0 = true := by
  unfold fD
  rw [PyData.canLay0]
  exact lay_all lay_t p
theorem lay_l (p : List (List (List Nat))) : (lD p).canLay0 = true := by
  unfold lD
  rw [PyData.canLay0]
  exact lay_all lay_f p
theorem dep_t (p : List Nat) : (tD p).depth ≤ 1 := by
  unfold tD iD
  have := depth_all (d := fun (n : Nat) => PyData.int (n : Int)) (b := 0) (fun x => by simp [PyData.depth]) p
  simp only [PyData.depth]
  omega
theorem dep_f (p : List (List Nat)) : (fD p).depth ≤ 2 := by
  unfold fD
  have := depth_all (d := tD) dep_t p
  simp only [PyData.depth]
  omega
theorem dep_l (p : List (List (List Nat))) : (lD p).depth ≤ 3 := by
  unfold lD
  have := depth_all (d := fD) dep_f p
  simp only [PyData.depth]
  omega
theorem sh_of {d : PyData} {b : Nat} (h : d.canLay0 = true) (g : d.depth ≤ b) (l : b ≤ 64 := by decide) : SeqAt.shaped d = true := by
  unfold SeqAt.shaped
  rw [h, Bool.true_and]
  exact decide_eq_true (by omega)
theorem eqv_Ns : ∀ p q : List Nat, PyData.eqvAll (iD p) (iD q) = eqR p q
  | [], [] => by simp [iD, PyData.eqvAll, eqR]
  | [], _ :: _ => by simp [iD, PyData.eqvAll, eqR]
  | _ :: _, [] => by simp [iD, PyData.eqvAll, eqR]
  | a :: p, b :: q => by
    have ih := eqv_Ns p q
    unfold iD at ih ⊢
    rw [List.map_cons, List.map_cons, PyData.eqvAll, ih, eqR]
    refine congrArg (· && eqR p q) ?_
    rw [PyData.eqv, Bool.eq_iff_iff, beq_iff_eq, Nat.beq_eq]
    omega
theorem eqv_t (p q : List Nat) : PyData.eqv (tD p) (tD q) = eqR p q := by
  unfold tD
  rw [PyData.eqv]
  exact eqv_Ns p q
theorem any_t (r : List Nat) : ∀ fam : List (List Nat), (fam.map tD).any (fun z => PyData.eqv z (tD r)) = hasR r fam
  | [] => rfl
  | a :: l => by
    rw [List.map_cons, List.any_cons, any_t r l, eqv_t]
    rfl
theorem eqv_lay : ∀ lay : List (List (List Nat)), PyData.eqv (lD lay) (.list []) = lay.isEmpty
  | [] => by simp [lD, PyData.eqv, PyData.eqvAll]
  | a :: l => by simp [lD, PyData.eqv, PyData.eqvAll]
theorem lt_cast : ∀ p q : List Nat, (p.map fun (n : Nat) => (n : Int)) < (q.map fun (n : Nat) => (n : Int)) ↔ p < q
  | _, [] => by simp
  | [], b :: q => by simp
  | a :: p, b :: q => by
    rw [List.map_cons, List.map_cons, List.cons_lt_cons_iff, List.cons_lt_cons_iff, lt_cast p q, Int.ofNat_lt, Int.natCast_inj]
theorem srt_tup {K : PySem.W.Frag} {H : Hp} {a : Addr} {Ls : List Addr} {kss : List (List Nat)} {Q : VK} (ha : H a = some (.lst (Ls.map V.ref))) (hR : Al (tpR H) Ls kss) (ne : ∀ k ∈ kss, k ≠ [])
    (q : ∀ (D : Addr) (Us : List Addr), H D = none → Al (tpR H) Us (srtR kss) → Q (.ref D) (upd H D (.lst (Us.map V.ref)))) : Kx.rSortedD K [.ref a] H Q := by
  let zt : Addr × List Nat → Kx.DV := fun q => (.ref q.1, tD q.2)
  have lT : Ls.length = kss.length := hR.1
  have e1 : ((Ls.zip kss).map zt).map (fun b => b.1) = Ls.map V.ref := by
    rw [List.map_map]
    have : ((fun b : Kx.DV => b.1) ∘ zt) = V.ref ∘ Prod.fst := rfl
    rw [this, ← List.map_map, List.map_fst_zip (by omega)]
  have snd : (Ls.zip kss).map Prod.snd = kss := List.map_snd_zip (by omega)
  have at_ : ∀ z ∈ Ls.zip kss, tpR H z.1 z.2 := fun z hz => by
    obtain ⟨j, hj, e⟩ := List.getElem_of_mem hz
    obtain ⟨z1, z2⟩ := List.getElem?_zip_eq_some.mp (show (Ls.zip kss)[j]? = some z by rw [List.getElem?_eq_getElem hj, e])
    exact hR.2 j z.1 _ z1 z2
  have le_ : ∀ x ∈ Ls.zip kss, ∀ y ∈ Ls.zip kss, (decide (x.2 ≤ y.2)) = PySem.W.dataLe false (fun b : Kx.DV => b.2) (zt x) (zt y) := fun x hx y hy => by
    rw [PySem.W.dataLe_eq]
    show _ = !PySem.W.dataLt (.tuple (iD y.2)) (.tuple (iD x.2))
    rw [PySem.W.dataLt_tuple]
    have e := PySem.W.dataLt_ints (y.2.map fun (n : Nat) => (n : Int)) (x.2.map fun (n : Nat) => (n : Int))
    unfold PySem.W.rowLt at e
    have e3 : ∀ p : List Nat, iD p = (p.map fun (n : Nat) => (n : Int)).map PyData.int := fun p => by
      rw [List.map_map]
      rfl
    rw [e3, e3, e, ← decide_not]
    exact decide_eq_decide.mpr (not_congr (lt_cast _ _)).symm
  let zs := (Ls.zip kss).mergeSort fun x y => decide (x.2 ≤ y.2)
  have e2 : Kx.sortedD ((Ls.zip kss).map zt) = zs.map zt := (List.map_mergeSort le_).symm
  have pz : zs.Perm (Ls.zip kss) := List.mergeSort_perm _ _
  have ps : (zs.map Prod.snd).Perm kss := by
    have := pz.map Prod.snd
    rw [snd] at this
    exact this
  have pw := List.pairwise_mergeSort (le := fun x y : Addr × List Nat => decide (x.2 ≤ y.2)) (fun a b c h1 h2 => by
      rw [decide_eq_true_eq] at h1 h2 ⊢
      exact List.le_trans h1 h2) (fun a b => by
      rw [Bool.or_eq_true, decide_eq_true_eq, decide_eq_true_eq]
      exact List.le_total a.2 b.2) (Ls.zip kss)
  have es : zs.map Prod.snd = srtR kss := (ps.trans (srtR_perm kss).symm).eq_of_pairwise (le := fun a b => a ≤ b) (fun a b _ _ x y => List.le_antisymm x y) (List.pairwise_map.mpr (List.Pairwise.imp (fun {a b} h => of_decide_eq_true h) pw)) (srtR_asc kss)
  have e3 : (zs.map zt).map (fun b => b.1) = (zs.map Prod.fst).map V.ref := by
    rw [List.map_map, List.map_map]
    rfl
  have row : Al (tpR H) (zs.map Prod.fst) (srtR kss) := by
    refine ⟨by rw [← es]; simp only [List.length_map], fun i T vs a b => ?_⟩
    rw [← es] at b
    rw [List.getElem?_map] at a b
    obtain ⟨z, hz, rfl⟩ := Option.map_eq_some_iff.mp a
    rw [hz] at b
    obtain rfl := Option.some.inj b
    exact at_ z (pz.mem_iff.mp (List.mem_of_getElem? hz))
  refine ⟨a, (Ls.zip kss).map zt, rfl, by rw [e1]; exact SqL.of ha, fun b hb => ?_, ?_, ?_, fun D hD => ?_⟩
  · obtain ⟨z, hz, rfl⟩ := List.mem_map.mp hb
    exact ⟨dp_tp (at_ z hz), Nat.le_trans (dep_t z.2) (by decide)⟩
  · rw [List.map_map]
    refine PySem.W.AllAlike.of fun b b' => ?_
    show PySem.W.alike (.tuple (iD b.2)) (.tuple (iD b'.2)) = true
    rw [PySem.W.alike]
    have e3 : ∀ p : List Nat, iD p = (p.map fun (n : Nat) => (n : Int)).map PyData.int := fun p => by
      rw [List.map_map]
      rfl
    rw [e3, e3]
    exact PySem.W.alike_ints _ _
  · refine .inl fun d hd => ?_
    rw [List.map_map] at hd
    obtain ⟨z, hz, rfl⟩ := List.mem_map.mp hd
    have hn := ne z.2 (by rw [← snd]; exact List.mem_map.mpr ⟨z, hz, rfl⟩)
    cases hz2 : z.2 with
    | nil => exact absurd hz2 hn
    | cons x r => exact ⟨.int (x : Int), iD r, by show tD z.2 = _; rw [hz2]; rfl⟩
  · rw [e2, e3]
    exact q D _ hD row
/-- what the dictionary's writes keep -/
theorem tpR.at {H : Hp} {S D : Addr} {p : List Nat} {o : HO} (h : tpR H S p) (d : ∀ xs, H D ≠ some (.tup xs)) : tpR (upd H D o) S p := by
  have : D ≠ S := fun z => by
    unfold tpR at h
    rw [← z] at h
    exact d _ h
  unfold tpR
  rw [upd_ne this.symm]
  exact h
theorem TpAt.at {H : Hp} {A D : Addr} {fam : List (List Nat)} {o : HO} (h : TpAt H A fam) (d : ∀ xs, H D ≠ some (.tup xs)) (d2 : D ≠ A) : TpAt (upd H D o) A fam := by
  obtain ⟨Ss, a, b⟩ := h
  exact ⟨Ss, by rw [upd_ne d2.symm]; exact a, b.mono fun S p r => r.at d⟩
theorem TpAt.same {H H' : Hp} {A : Addr} {fam : List (List Nat)} (h : TpAt H A fam) (s : Same H H') : TpAt H' A fam := by
  obtain ⟨Ss, a, b⟩ := h
  exact ⟨Ss, s _ _ a, b.mono fun S p r => s _ _ r⟩
theorem KeyAt.same {H H' : Hp} {A : Addr} {fam : List (List Nat)} (h : KxN.KeyAt H A fam) (s : Same H H') : KxN.KeyAt H' A fam := by
  obtain ⟨Ss, a, b, c⟩ := h
  exact ⟨Ss, s _ _ a, b, fun i U r x y => s _ _ (c i U r x y)⟩
theorem KeyAt.at {H : Hp} {A D : Addr} {fam : List (List Nat)} {o : HO} (h : KxN.KeyAt H A fam) (d : ∀ xs, H D ≠ some (.tup xs)) : KxN.KeyAt (upd H D o) A fam := by
  obtain ⟨Ss, a, b, c⟩ := h
  refine ⟨Ss, ?_, b, fun i U r x y => ?_⟩
  · have : D ≠ A := fun z => by
      rw [← z] at a
      exact d _ a
    rw [upd_ne this.symm]
    exact a
  · have g := c i U r x y
    have : D ≠ U := fun z => by
      rw [← z] at g
      exact d _ g
    rw [upd_ne this.symm]
    exact g
/-- the dictionary of what is found, and what its values are -/
structure FndAt (P : Program) (w : World) (H : Hp) (Fd Na : Addr) (ks : List (List (List Nat))) (xs : List KxN.Ent) : Prop where
  at_ : (H Fd = some (.dT []) ∧ xs = []) ∨ H Fd = some (KxN.NdO P w Fd xs)
  keys : xs.map (fun e => e.1) = ks
  key : ∀ e ∈ xs, KxN.KeyAt H e.2.1 e.1
  val : ∀ e ∈ xs, e.2.2 ≠ Na ∧ e.2.2 ≠ Fd ∧ TpAt H e.2.2 e.1
theorem FndAt.same {P : Program} {w : World} {H H' : Hp} {Fd Na : Addr} {ks : List (List (List Nat))} {xs : List KxN.Ent} (h : FndAt P w H Fd Na ks xs) (s : Same H H') : FndAt P w H' Fd Na ks xs :=
  ⟨h.at_.imp (fun z => ⟨s _ _ z.1, z.2⟩) (fun z => s _ _ z), h.keys, fun e he => KeyAt.same (h.key e he) s, fun e he => ⟨(h.val e he).1, (h.val e he).2.1, (h.val e he).2.2.same s⟩⟩
theorem FndAt.no {P : Program} {w : World} {H : Hp} {Fd Na : Addr} {ks : List (List (List Nat))} {xs : List KxN.Ent} (h : FndAt P w H Fd Na ks xs) (ys : List V) : H Fd ≠ some (.tup ys) ∧ H Fd ≠ some (.lst ys) := by
  refine ⟨fun z => ?_, fun z => ?_⟩ <;>
  · rcases h.at_ with ⟨a, _⟩ | a <;>
    · rw [a] at z
      cases z
theorem FndAt.put {P : Program} {w : World} {H : Hp} {Fd Na T A : Addr} {ks : List (List (List Nat))} {xs : List KxN.Ent} {k : List (List Nat)} (h : FndAt P w H Fd Na ks xs) (hT : KxN.KeyAt H T k) (nA : A ≠ Na) (hA : TpAt H A k) :
    FndAt P w (upd H Fd (KxN.NdO P w Fd (KxN.stoN xs k T A))) Fd Na (insF ks k) (KxN.stoN xs k T A) := by
  have nT := fun ys => (h.no ys).1
  have nF : ∀ {B : Addr} {f : List (List Nat)}, TpAt H B f → Fd ≠ B := fun {B f} ⟨Ss, a, _⟩ z => (h.no _).2 (z ▸ a)
  have hh : hasF k ks = xs.any fun e => decide (e.1 = k) := by
    rw [Bool.eq_iff_iff, hasF_iff, ← h.keys, List.any_eq_true, List.mem_map]
    exact ⟨fun ⟨e, a, b⟩ => ⟨e, a, decide_eq_true b⟩, fun ⟨e, a, b⟩ => ⟨e, a, of_decide_eq_true b⟩⟩
  refine ⟨.inr upd_same, ?_, fun e he => ?_, fun e he => ?_⟩
  · unfold KxN.stoN insF
    rw [hh]
    split
    · rw [List.map_map, ← h.keys]
      refine List.map_congr_left fun e _ => ?_
      show (if e.1 = k then _ else e).1 = e.1
      split <;> rfl
    · rw [List.map_append, h.keys]
      rfl
  · unfold KxN.stoN at he
    split at he
    · obtain ⟨e0, m0, rfl⟩ := List.mem_map.mp he
      have := KeyAt.at (o := KxN.NdO P w Fd (KxN.stoN xs k T A)) (h.key e0 m0) nT
      split <;> exact this
    · rcases List.mem_append.mp he with m | m
      · exact KeyAt.at (h.key e m) nT
      · obtain rfl := List.mem_singleton.mp m
        exact KeyAt.at hT nT
  · unfold KxN.stoN at he
    split at he
    · obtain ⟨e0, m0, rfl⟩ := List.mem_map.mp he
      split
      · rename_i c
        refine ⟨nA, (nF hA).symm, ?_⟩
        show TpAt _ A e0.1
        rw [c]
        exact hA.at nT (nF hA)
      · exact ⟨(h.val e0 m0).1, (h.val e0 m0).2.1, (h.val e0 m0).2.2.at nT (nF (h.val e0 m0).2.2)⟩
    · rcases List.mem_append.mp he with m | m
      · exact ⟨(h.val e m).1, (h.val e m).2.1, (h.val e m).2.2.at nT (nF (h.val e m).2.2)⟩
      · obtain rfl := List.mem_singleton.mp m
        exact ⟨nA, (nF hA).symm, hA.at nT (nF hA)⟩
end Wd
end
section
set_option maxRecDepth 100000
set_option maxHeartbeats 1000000
namespace Wd
open PySem L2
/-! companies written as rows of friends -/
def prJ (n : Nat) : List (Nat × Nat) := (List.range n).flatMap fun a => ((List.range n).filter fun b => Nat.blt a b).map fun b => (a, b)
def pvJ (p : Nat × Nat) : V × V := (.int (p.1 : Int), .int (p.2 : Int))
theorem prs_rng : ∀ n : Nat, n < 5 → prs (rgV 0 (n : Int)) = (prJ n).map pvJ := by decide +kernel
theorem prJ_ok : ∀ n : Nat, n < 5 → (prJ n).length < 7 ∧ (rgV 0 (n : Int)).length ≤ 50 ∧ ∀ p ∈ prJ n, p.1 < n ∧ p.2 < n := by decide +kernel
/-- one place of a row of rows is written -/
def setM (m : List (List Nat)) (a b x : Nat) : List (List Nat) := m.set a ((m.getD a []).set b x)
def wrM (n : Nat) (fl : List Nat) (m : List (List Nat)) (i : Nat) : List (List Nat) :=
  let p := (prJ n).getD i (0, 0)
  setM (setM m p.1 p.2 (fl.getD i 0)) p.2 p.1 (fl.getD i 0)
def zeM (n : Nat) : List (List Nat) := List.replicate n (List.replicate n 0)
def matF (n : Nat) (fl : List Nat) : Nat → List (List Nat)
  | 0 => zeM n
  | i + 1 => wrM n fl (matF n fl i) i
def liF (n : Nat) : List (List Nat) := (flL n).filter fun p => Nat.blt 0 p.sum
def okM (n : Nat) (m : List (List Nat)) : Bool := (liF n).all fun r => m.any fun l => !Nat.beq (shR r l) 0
def cntM (n : Nat) (ls : List (List Nat)) : Nat := ls.foldl (fun z fl => z + if okM n (matF n fl (prJ n).length) = true then 1 else 0) 0
theorem cnt_ok : ∀ n : Nat, n < 5 → ((cntM n (flL (prJ n).length) : Nat) : Int) = unI n := by decide +kernel
theorem liF_ok : ∀ n : Nat, n < 5 → (liF n).length < 100 ∧ ∀ r ∈ liF n, r.length = n ∧ ∀ z ∈ r, z ≤ 1 := by decide +kernel
theorem flF_ok : ∀ n : Nat, n < 7 → (flL n).length < 100 ∧ ∀ r ∈ flL n, r.length = n ∧ ∀ z ∈ r, z ≤ 1 := by decide +kernel
def goodM (n : Nat) (m : List (List Nat)) : Prop := m.length = n ∧ ∀ r ∈ m, r.length = n ∧ ∀ z ∈ r, z ≤ 1
theorem goodM.set {n : Nat} {m : List (List Nat)} {a b x : Nat} (h : goodM n m) (ha : a < n) (hx : x ≤ 1) : goodM n (setM m a b x) := by
  refine ⟨by unfold setM; rw [List.length_set, h.1], fun r hr => ?_⟩
  unfold setM at hr
  rcases List.mem_or_eq_of_mem_set hr with hr | rfl
  · exact h.2 r hr
  · have hm : m.getD a [] ∈ m := by
      rw [List.getD_eq_getElem?_getD, List.getElem?_eq_getElem (by rw [h.1]; exact ha)]
      exact List.getElem_mem _
    refine ⟨by rw [List.length_set]; exact (h.2 _ hm).1, fun z hz => ?_⟩
    rcases List.mem_or_eq_of_mem_set hz with hz | rfl
    · exact (h.2 _ hm).2 z hz
    · exact hx
theorem zeM_good (n : Nat) : goodM n (zeM n) := by
  refine ⟨List.length_replicate, fun r hr => ?_⟩
  obtain rfl := List.eq_of_mem_replicate hr
  refine ⟨List.length_replicate, fun z hz => ?_⟩
  rw [List.eq_of_mem_replicate hz]
  decide
def rwR (H : Hp) (R : Addr) (r : List Nat) : Prop := H R = some (.lst (iN r))
/-- rows that can be written, one by one -/
structure MatAt (H0 H : Hp) (Fa : Addr) (Rs : List Addr) (m : List (List Nat)) : Prop where
  same : Same H0 H
  fa : H Fa = some (.lst (Rs.map V.ref))
  nod : Rs.Nodup
  off : Fa ∉ Rs
  new : ∀ R ∈ Rs, H0 R = none
  al : Al (rwR H) Rs m
theorem iN_set (r : List Nat) (b x : Nat) : iN (r.set b x) = (iN r).set b (.int (x : Int)) := by
  unfold iN
  rw [List.map_set]
theorem MatAt.set {H0 H : Hp} {Fa R : Addr} {Rs : List Addr} {m : List (List Nat)} {a b x : Nat} (h : MatAt H0 H Fa Rs m) (hR : Rs[a]? = some R) : MatAt H0 (upd H R (.lst ((iN (m.getD a [])).set b (.int (x : Int))))) Fa Rs (setM m a b x) := by
  have mR := List.mem_of_getElem? hR
  have hl := (List.getElem?_eq_some_iff.mp hR).1
  refine ⟨same_over h.same (h.new R mR), ?_, h.nod, h.off, h.new, ?_⟩
  · rw [upd_ne (show Fa ≠ R from fun z => h.off (z ▸ mR))]
    exact h.fa
  · refine ⟨by unfold setM; rw [List.length_set]; exact h.al.1, fun i S r hi hr => ?_⟩
    unfold setM at hr
    by_cases c : i = a
    · subst c
      obtain rfl := Option.some.inj (hR.symm.trans hi)
      rw [List.getElem?_set_self (by rw [← h.al.1]; exact hl)] at hr
      obtain rfl := Option.some.inj hr
      unfold rwR
      rw [upd_same, iN_set]
    · rw [List.getElem?_set_ne (Ne.symm c)] at hr
      have ne : S ≠ R := fun z => c (by
        subst z
        exact (List.getElem?_inj (List.getElem?_eq_some_iff.mp hi).1 h.nod).mp (hi.trans hR.symm))
      unfold rwR
      rw [upd_ne ne]
      exact h.al.2 i S r hi hr
theorem MatAt.row {H0 H : Hp} {Fa : Addr} {Rs : List Addr} {m : List (List Nat)} {n a : Nat} (h : MatAt H0 H Fa Rs m) (g : goodM n m) (ha : a < n) : ∃ R, Rs[a]? = some R ∧ H R = some (.lst (iN (m.getD a []))) ∧ (iN (m.getD a [])).length = n := by
  have hm : m[a]? = some (m.getD a []) := by rw [List.getD_eq_getElem?_getD, List.getElem?_eq_getElem (by rw [g.1]; exact ha)]; rfl
  obtain ⟨R, hR⟩ : ∃ R, Rs[a]? = some R := ⟨_, List.getElem?_eq_getElem (by rw [h.al.1, g.1]; exact ha)⟩
  exact ⟨R, hR, h.al.2 a R _ hR hm, by rw [iN_len]; exact (g.2 _ (List.mem_of_getElem? hm)).1⟩
theorem ixN_in {n b : Nat} (h : b < n) : ixN n (b : Int) = some b := by
  unfold ixN
  rw [if_pos (by omega), if_pos (by omega)]
  simp
theorem refs_at {Rs : List Addr} {a : Nat} {R : Addr} (h : Rs[a]? = some R) : atI (Rs.map V.ref) (a : Int) = some (.ref R) := atI_nat (by rw [List.getElem?_map, h]; rfl)
theorem flat_ze (n : Nat) : (List.replicate ((n : Nat) : Int).toNat [V.int 0]).flatten = iN (List.replicate n 0) := by
  rw [Int.toNat_natCast]
  unfold iN
  induction n with
  | zero => rfl
  | succ k ih =>
    rw [List.replicate_succ, List.flatten_cons, ih, List.replicate_succ]
    rfl
theorem sum_cast (p : List Nat) : (p.map fun (z : Nat) => (z : Int)).sum = ((p.sum : Nat) : Int) := by
  induction p with
  | nil => rfl
  | cons a r ih =>
    rw [List.map_cons, List.sum_cons, ih, List.sum_cons]
    omega
theorem iN_cast (p : List Nat) : iN p = (p.map fun (z : Nat) => (z : Int)).map V.int := by
  rw [List.map_map]
  rfl
end Wd
end
section
set_option maxRecDepth 100000
set_option maxHeartbeats 1000000
namespace Wd
open PySem L2
theorem room65 {k : Nat} {A : Around} (r : Room k A) : A.units + 65 < cLine := by
  have := r.un
  omega
theorem ev_facts {n : Nat} (h1 : 1 ≤ n) (h6 : n ≤ 6) : (∃ r rest, evL n = r :: rest ∧ chkF n (evL n) 8 [[r]] [] = true) ∧ (∀ r ∈ evL n, r.length = n ∧ ∀ z ∈ r, z ≤ 1) ∧ (evL n).length < 100 := by
  have h : evB n = true := by
    rcases Nat.lt_or_ge n 6 with l | l
    · exact ev5 n l h1
    · obtain rfl : n = 6 := by omega
      exact ev6
  unfold evB at h
  split at h
  · cases h
  · rename_i r rest e
    rw [Bool.and_eq_true, Bool.and_eq_true, List.all_eq_true] at h
    obtain ⟨⟨a, b⟩, c⟩ := h
    refine ⟨⟨r, rest, e, c⟩, fun q hq => ?_, ?_⟩
    · have := a q hq
      rw [Bool.and_eq_true, List.all_eq_true] at this
      exact ⟨Nat.eq_of_beq_eq_true this.1, fun z hz => Nat.le_of_ble_eq_true (this.2 z hz)⟩
    · exact Nat.le_of_ble_eq_true b
theorem famB_of {n : Nat} {fam : List (List Nat)} (h : famB n fam = true) : 0 < fam.length ∧ fam.length < 30 ∧ ∀ r ∈ fam, r.length = n ∧ ∀ z ∈ r, z ≤ 1 := by
  unfold famB at h
  rw [Bool.and_eq_true, Bool.and_eq_true, List.all_eq_true] at h
  refine ⟨Nat.le_of_ble_eq_true h.1.1, Nat.le_of_ble_eq_true h.1.2, fun r hr => ?_⟩
  have := h.2 r hr
  rw [Bool.and_eq_true, List.all_eq_true] at this
  exact ⟨Nat.eq_of_beq_eq_true this.1, fun z hz => Nat.le_of_ble_eq_true (this.2 z hz)⟩
theorem rd_nilK {Q : List V → Hp → Prop} {σ : St} {H : Hp} (h : Q [] H) : tNil σ H Q := h
abbrev nCF : List Str := ["_law_many", "_law_row", "_law_even", "_law_layer", "_law_numbers", "_law_found", "_law_family", "_law_late", "_law_more"]
section
variable {P : Program} {w : World} {K : PySem.W.Frag} {mg : Str → Option Value} {base : Heap}
theorem ok_counted_families {f : Addr} {fd : FuncData} (F : Fun K "_law_counted_families" "_law_counted_families" s_counted_families f fd) (T : Bt mg) (Ta : mg "any" = none) (C1 : Has P w K mg base 1 "_law_lists" ["_law_many"] spLst) (C2 : Has P w K mg base 1 "_law_share" ["_law_first", "_law_second"] (spShG K)) (C3 : Has P w K mg base 1 "_law_differ" ["_law_first", "_law_second"] spDf) : FnOk P w K mg base CX0 5 f fd ["_law_many"] spCF := by
  obtain ⟨f1, d1, G1, m1, k1, b1⟩ := C1
  obtain ⟨f2, d2, G2, m2, k2, b2⟩ := C2
  obtain ⟨f3, d3, G3, m3, k3, b3⟩ := C3
  refine F.ok c_counted_families (fun vs H Q E h => ?_) (fun cdv A outer s H vs Q E hr h => ?_)
  · obtain ⟨_, rfl, _⟩ := h
    rfl
  · obtain ⟨n, rfl, n1, n6, k⟩ := h
    have hr1 : Room 1 _ := hr.mono (by decide)
    refine ⟨_, pss_cons (ps_setLc (i := 2) (own := [("_law_row", 1)]) (g := gName 1) rfl c_counted_families.nd rfl rfl (sw_true rfl rfl rfl (by decide +kernel)) (pi_list (pe_call G1 hr1 rfl m1 k1 b1 .nil pass0 (pa_cons (pv 0) pa_nil)))
        (blkOk_by (N := nCF) (sc := defScope s_counted_families) (by decide +kernel)) (fun _ _ _ _ _ => pg_name (i := 1) c_counted_families.nd rfl (by first | exact Or.inl rfl | exact Or.inr rfl)) (fun _ _ _ _ _ => pts_one (pt_cmpR op_eq (pe_op op_mod (pe_callTy call_int1 (by rfl) T.int (by decide +kernel) (pa_cons (pe_callB (r := Kx.rSumT K) (Kx.cr_sumT rfl) (by rfl) T.sum (by decide +kernel) (pa_cons (pv 1) pa_nil)) pa_nil)) pe_int) pe_int (nomark _)))
        (fun _ _ _ _ _ => pv 1))
      (pss_cons (ps_par (i := 3) (j := 4) rfl c_counted_families.nd rfl rfl (by decide) rfl rfl (pa_cons (pe_lst (pa_cons (pe_lst (pa_cons (pe_ix ix_list (pv 2) pe_int (fun _ _ => rfl)) pa_nil)) pa_nil)) (pa_cons (pe_lst pa_nil) pa_nil)) (by rfl))
      (pss_cons (ps_while PassesOwn.never (pt_cmpR (op_neD hr.units) (pv 3) (pe_lst pa_nil) (nomark _))
        (pss_cons (ps_expr (pe_bm PySem.F.plainAttrs_list PySem.F.slot_list_append PySem.F.type_list_append mt_append (pv 4) (pa_cons (pe_callB call_len_seq (by rfl) T.len PySem.boot_len (pa_cons (pv 3) pa_nil)) pa_nil)))
        (pss_cons (ps_set (i := 5) c_counted_families.nd rfl (by first | exact Or.inl rfl | exact Or.inr rfl) pe_dnewT)
        (pss_cons (ps_for PassesOwn.never rfl (pi_list (pv 3)) (pg_name (i := 6) c_counted_families.nd rfl (by first | exact Or.inl rfl | exact Or.inr rfl))
          (pss_one (ps_for PassesOwn.never rfl (pi_list (pv 2)) (pg_name (i := 1) c_counted_families.nd rfl (by first | exact Or.inl rfl | exact Or.inr rfl))
            (pss_one (ps_if (PW.pt (pw_and (pt_cmpR (r := rNotInD K) (op_notInD (room65 hr)) (pv 1) (pv 6) rfl) (pw_and1 (pt_not (pt_val (pe_callB (r := Kx.rAnyI K) (Kx.cr_anyI rfl) (by rfl) Ta (by decide +kernel) (pa_cons
              (pe_lc (own := [("_law_late", 7)]) (g := gName 7) (tt := tYes) rfl c_counted_families.nd (pi_list (pv 6)) (blkOk_by (N := nCF) (sc := defScope s_counted_families) (by decide +kernel)) (fun _ _ _ _ _ => pg_name (i := 7) c_counted_families.nd rfl (by first | exact Or.inl rfl | exact Or.inr rfl)) (fun _ _ _ _ _ => pts_nil)
                (fun _ _ _ _ _ => pe_call G2 hr1 rfl m2 k2 b2 .nil pass0 (pa_cons (pv 1) (pa_cons (pv 7) pa_nil)))) pa_nil)))))))
              (pss_cons (ps_set (i := 8) c_counted_families.nd rfl (by first | exact Or.inl rfl | exact Or.inr rfl) (pe_callB (r := Kx.rSortedD K) (Kx.cr_sortedD hr.units) (by rfl) T.sorted (by decide +kernel) (pa_cons (pe_op op_cat (pv 6)
                (pe_lc (own := [("_law_late", 7)]) (g := gName 7) (tt := tYes) rfl c_counted_families.nd (pi_list (pv 6)) (blkOk_by (N := nCF) (sc := defScope s_counted_families) (by decide +kernel)) (fun _ _ _ _ _ => pg_name (i := 7) c_counted_families.nd rfl (by first | exact Or.inl rfl | exact Or.inr rfl)) (fun _ _ _ _ _ => pts_nil)
                  (fun _ _ _ _ _ => pe_call G3 hr1 rfl m3 k3 b3 .nil pass0 (pa_cons (pv 1) (pa_cons (pv 7) pa_nil))))) pa_nil)))
              (pss_one (ps_asg (pv 8) (pg_sub (pv 5) (pe_callTy call_tuple_of (by rfl) T.tuple (by decide +kernel) (pa_cons (pv 8) pa_nil)) (KxN.set_nd hr.units))))) pss_nil)))))
        (pss_one (ps_set (i := 3) c_counted_families.nd rfl (by first | exact Or.inl rfl | exact Or.inr rfl) (KxN.pe_listValsN rfl (pv 5) (by rfl) T.list (by decide +kernel))))))))
      (pss_one (ps_ret (pv 4))))), ?_⟩
    obtain ⟨hs5, hn5, hf5⟩ := ev_facts n1 n6
    refine ⟨_, rfl, n, rfl, by omega, fun H1 R s1 ⟨Ss, hR, aR⟩ => ?_⟩
    refine ⟨R, rfl, ⟨_, SqL.of hR⟩, fun Ea hEa => ?_⟩
    refine lc_list (xs := Ss.map V.ref) (fun i H' => Same H1 H' ∧ ∃ Es : List Addr, H' Ea = some (.lst (Es.map V.ref)) ∧ Al (tpR H') Es (((flL n).take i).filter fun p => Nat.beq (p.sum % 2) 0)) ⟨same_new hEa, [], upd_same, ⟨rfl, fun i A x a _ => nomatch a⟩⟩ (fun i H' _ z => SqL.of (z.1 _ _ hR)) ?_ ?_
    · rintro i v H2 hv ⟨s2, Es, hE, aE⟩
      rw [List.getElem?_map] at hv
      obtain ⟨S, hSq, rfl⟩ := Option.map_eq_some_iff.mp hv
      obtain ⟨p, hp⟩ : ∃ p, (flL n)[i]? = some p := ⟨_, List.getElem?_eq_getElem (by rw [← aR.1]; exact (List.getElem?_eq_some_iff.mp hSq).1)⟩
      have hS2 : tpR H2 S p := s2 _ _ (aR.2 i S p hSq hp)
      have hp1 : (iN p) = (p.map fun (z : Nat) => (z : Int)).map V.int := by
        rw [List.map_map]
        rfl
      refine ⟨rfl, _, rfl, S, _, rfl, by rw [← hp1]; exact SqT.of hS2, .inl ⟨_, rfl, _, _, rfl, rfl, (by show (0 : Int) < 2; decide), rfl, _, rfl, ?_⟩⟩
      have es : (p.map fun (z : Nat) => (z : Int)).sum = ((p.sum : Nat) : Int) := by
        clear hp hS2 hp1
        induction p with
        | nil => rfl
        | cons a r ih =>
          rw [List.map_cons, List.sum_cons, ih, List.sum_cons]
          omega
      rw [es]
      refine ite2 (fun hb => ?_) (fun hb => ?_)
      · have hb : ((p.sum : Nat) : Int) % 2 = 0 := V.int.inj (of_decide_eq_true hb)
        have nb : Nat.beq (p.sum % 2) 0 = true := Nat.beq_eq.mpr (by omega)
        refine ⟨_, rfl, _, hE, ?_, same_over s2 hEa, Es ++ [S], by rw [upd_same, List.map_append]; rfl, ?_⟩
        · have l1 := aE.1
          have l2 := List.length_filter_le (fun p : List Nat => Nat.beq (p.sum % 2) 0) ((flL n).take i)
          have l3 := flL_len n
          have l4 : 2 ^ n ≤ 2 ^ 10 := Nat.pow_le_pow_right (by decide) (by omega)
          rw [List.length_take] at l2
          rw [List.length_map, sizeLine_eq]
          omega
        · rw [take_next hp, List.filter_append, List.filter_cons_of_pos (p := fun p : List Nat => Nat.beq (p.sum % 2) 0) nb]
          exact (aE.mono fun A x r => tpR.ov r hE).snoc (hS2.ov hE)
      · have hb : ¬ ((p.sum : Nat) : Int) % 2 = 0 := fun z => hb (decide_eq_true (congrArg V.int z))
        have nb : ¬ Nat.beq (p.sum % 2) 0 = true := fun z => hb (by have := Nat.beq_eq.mp z; omega)
        refine ⟨s2, Es, hE, ?_⟩
        rw [take_next hp, List.filter_append, List.filter_cons_of_neg (p := fun p : List Nat => Nat.beq (p.sum % 2) 0) nb, List.filter_nil, List.append_nil]
        exact aE
    · rintro H2 ⟨s2, Es, hE, aE⟩
      rw [List.length_map, aR.1, List.take_length] at aE
      obtain ⟨⟨r0, rest, ev0, ck⟩, evs, evl⟩ := And.intro hs5 (And.intro hn5 hf5)
      have aE : Al (tpR H2) Es (evL n) := aE
      obtain ⟨E0, hE0⟩ : ∃ E0, Es[0]? = some E0 := ⟨_, List.getElem?_eq_getElem (by rw [aE.1, ev0]; exact Nat.succ_pos _)⟩
      have hE0t : tpR H2 E0 r0 := aE.2 0 E0 r0 hE0 (by rw [ev0]; rfl)
      refine ⟨_, rfl, Ea, _, 0, .ref E0, rfl, rfl, SqL.of hE, atI_nat (j := 0) (by rw [List.getElem?_map, hE0]; rfl), by show 1 ≤ sizeLine; decide, fun F0 hF0 => ?_⟩
      have e3 := same_new (o := .lst [.ref E0]) hF0
      have hF3 : upd H2 F0 (.lst [.ref E0]) F0 = some (.lst [.ref E0]) := upd_same
      generalize upd H2 F0 (.lst [.ref E0]) = H3 at e3 hF3 ⊢
      refine ⟨by show 1 ≤ sizeLine; decide, fun Ly hLy => ?_⟩
      have e4 := same_new (o := .lst [.ref F0]) hLy
      have hL4 : upd H3 Ly (.lst [.ref F0]) Ly = some (.lst [.ref F0]) := upd_same
      have hF4 := e4 _ _ hF3
      have hE04 : tpR (upd H3 Ly (.lst [.ref F0])) E0 r0 := e4 _ _ (e3 _ _ hE0t)
      have hE4 := e4 _ _ (e3 _ _ hE)
      have aE4 := aE.mono fun A x r => e4 _ _ (e3 _ _ r)
      have s4 := (s1.trans s2).trans (e3.trans e4)
      generalize upd H3 Ly (.lst [.ref F0]) = H4 at e4 hL4 hF4 hE04 hE4 aE4 s4 ⊢
      refine ⟨by show 0 ≤ sizeLine; decide, fun Na hNa => ?_⟩
      have e5 := same_new (o := .lst []) hNa
      have nH : H Na = none := same_none s4 hNa
      have hN5 : upd H4 Na (.lst []) Na = some (.lst []) := upd_same
      have nL : Ly ≠ Na := ne_of_none hL4 hNa
      have nF : F0 ≠ Na := ne_of_none hF4 hNa
      refine ⟨_, _, rfl, ?_⟩
      refine ⟨fun fu σ H' => ∃ (v1 v5 v6 v7 v8 : Option V) (Ly : Addr) (lay : List (List (List Nat))) (ns : List Nat) (Fs : List Addr), σ = [some (.int (n : Int)), v1, some (.ref Ea), some (.ref Ly), some (.ref Na), v5, v6, v7, v8] ∧ chkF n (evL n) fu lay ns = true ∧
        Same H4 H' ∧ H' Na = some (.lst (iN ns)) ∧ Ly ≠ Na ∧ H' Ly = some (.lst (Fs.map V.ref)) ∧ Al (fun A fam => A ≠ Na ∧ TpAt H' A fam) Fs lay, ⟨8, none, none, none, none, none, Ly, [[r0]], [], [F0], rfl, ck, e5, hN5, nL, e5 _ _ hL4, rfl, fun i A x a b => ?_⟩, ?_⟩
      · cases i with
        | zero =>
          obtain rfl := Option.some.inj a
          obtain rfl := Option.some.inj b
          refine ⟨nF, [E0], e5 _ _ hF4, rfl, fun i A x a b => ?_⟩
          cases i with
          | zero =>
            obtain rfl := Option.some.inj a
            obtain rfl := Option.some.inj b
            exact e5 _ _ hE04
          | succ j => cases a
        | succ j => cases a
      · clear hL4 nL Ly hLy
        rintro fu σ H5 ⟨v1, v5, v6, v7, v8, Ly, lay, ns, Fs, rfl, ck, s5, hN, nL, hL, aL⟩
        refine ⟨_, rfl, by show 0 ≤ sizeLine; decide, fun Z hZ => ?_⟩
        have e6 := same_new (o := .lst []) hZ
        have aLd : Al (TpAt (upd H5 Z (.lst []))) Fs lay := aL.mono fun A x r => r.2.same e6
        refine ⟨_, _, Dp.lst (SqL.of (e6 _ _ hL)) (dp_fams aLd), Dp.lst (SqL.of upd_same) .nil, sh_of (lay_l lay) (dep_l lay), by decide +kernel, _, rfl, ?_⟩
        have aL : Al (fun A fam => A ≠ Na ∧ TpAt (upd H5 Z (.lst [])) A fam) Fs lay := aL.mono fun A x r => ⟨r.1, r.2.same e6⟩
        have hN := e6 _ _ hN
        have hL := e6 _ _ hL
        have s5 := s5.trans e6
        generalize upd H5 Z (.lst []) = H5 at aL hN hL s5 ⊢
        show if (!PyData.eqv (lD lay) (.list [])) = true then _ else _
        rw [eqv_lay]
        cases fu with
        | zero => cases ck
        | succ g =>
          cases lay with
          | nil =>
            refine ite_f rfl ?_
            unfold chkF at ck
            rw [Bool.and_eq_true, decide_eq_true_eq] at ck
            refine ⟨_, rfl, k H5 Na (ns.map fun (z : Nat) => (z : Int)) (s4.trans s5) ?_ ?_ ck.2⟩
            · rw [hN, List.map_map]
              rfl
            · rw [List.length_map]
              have := Nat.le_of_ble_eq_true ck.1
              omega
          | cons fam0 lay0 =>
            refine ite_t rfl ⟨_, fun σ' H' z => ⟨g, by omega, z⟩, ?_⟩
            have ck : (Nat.blt (fam0 :: lay0).length 1000 && (fam0 :: lay0).all (famB n) && Nat.blt ns.length 10 && chkF n (evL n) g (nextF (evL n) (fam0 :: lay0)) (ns ++ [(fam0 :: lay0).length])) = true := ck
            generalize fam0 :: lay0 = lay at ck aL
            rw [Bool.and_eq_true, Bool.and_eq_true, Bool.and_eq_true, List.all_eq_true] at ck
            obtain ⟨⟨⟨cl, cf⟩, cn⟩, ck⟩ := ck
            have cn := Nat.le_of_ble_eq_true cn
            have cl := Nat.le_of_ble_eq_true cl
            refine ⟨_, rfl, .inl ⟨rfl, _, SqL.of hN⟩, _, rfl, Ly, _, rfl, .inl (SqL.of hL), Na, _, _, rfl, rfl, hN, by rw [iN_len, sizeLine_eq]; omega, ?_⟩
            have hN6 : upd H5 Na (.lst (iN ns ++ [V.int ((Fs.map V.ref).length : Nat)])) Na = some (.lst (iN (ns ++ [lay.length]))) := by
              rw [upd_same, List.length_map, aL.1]
              unfold iN
              rw [List.map_append]
              rfl
            have hL6 : upd H5 Na (.lst (iN ns ++ [V.int ((Fs.map V.ref).length : Nat)])) Ly = some (.lst (Fs.map V.ref)) := by rw [upd_ne nL]; exact hL
            have aL6 : Al (fun A fam => A ≠ Na ∧ TpAt (upd H5 Na (.lst (iN ns ++ [V.int ((Fs.map V.ref).length : Nat)]))) A fam) Fs lay := aL.mono fun A x r => ⟨r.1, r.2.at (fun ys z => by rw [hN] at z; cases z) r.1.symm⟩
            have s6 := same_over (o := .lst (iN ns ++ [V.int ((Fs.map V.ref).length : Nat)])) s5 hNa
            generalize upd H5 Na (.lst (iN ns ++ [V.int ((Fs.map V.ref).length : Nat)])) = H6 at hN6 hL6 aL6 s6 ⊢
            intro Fd hFd
            have nFN : Na ≠ Fd := ne_of_none hN6 hFd
            have e7 := same_new (o := .dT []) hFd
            have fd7 : FndAt P w (upd H6 Fd (.dT [])) Fd Na [] [] := ⟨.inl ⟨upd_same, rfl⟩, rfl, fun e he => (nomatch he), fun e he => (nomatch he)⟩
            have hE6 := s6 _ _ hE4
            refine ⟨_, rfl, Ly, rfl, ⟨_, SqL.of (e7 _ _ hL6)⟩, ?_⟩
            refine for_list (xs := Fs.map V.ref) (fun i σ H' => ∃ (v1 v6 v7 v8 : Option V) (xs : List KxN.Ent), σ = [some (.int (n : Int)), v1, some (.ref Ea), some (.ref Ly), some (.ref Na), some (.ref Fd), v6, v7, v8] ∧ Same H6 H' ∧ FndAt P w H' Fd Na ((lay.take i).foldl (turnF (evL n)) []) xs)
              ⟨v1, v6, v7, v8, [], rfl, e7, fd7⟩ (fun i σ H' _ z => by obtain ⟨_, _, _, _, _, _, z, _⟩ := z; exact SqL.of (z _ _ hL6)) ?_ ?_
            · clear v1 v6 v7 v8 fd7
              rintro i v σ H8 hv ⟨v1, v6, v7, v8, xs, rfl, s8, fd8⟩
              rw [List.getElem?_map] at hv
              obtain ⟨A, hA, rfl⟩ := Option.map_eq_some_iff.mp hv
              obtain ⟨fam, hfam⟩ : ∃ fam, lay[i]? = some fam := ⟨_, List.getElem?_eq_getElem (by rw [← aL6.1]; exact (List.getElem?_eq_some_iff.mp hA).1)⟩
              obtain ⟨nA, tA⟩ := aL6.2 i A fam hA hfam
              obtain ⟨fa1, fa2, fa3⟩ := famB_of (cf fam (List.mem_of_getElem? hfam))
              have hkl := foldF_len (ev := evL n) (lay.take i) []
              obtain ⟨ks0, hk0⟩ : ∃ ks0, ks0 = (lay.take i).foldl (turnF (evL n)) [] := ⟨_, rfl⟩
              rw [← hk0] at fd8 hkl
              have hkl := hkl
              refine ⟨_, rfl, Ea, rfl, ⟨_, SqL.of (s8 _ _ hE6)⟩, ?_⟩
              refine for_list (xs := Es.map V.ref) (fun j σ H' => ∃ (v1 v7 v8 : Option V) (xs : List KxN.Ent), σ = [some (.int (n : Int)), v1, some (.ref Ea), some (.ref Ly), some (.ref Na), some (.ref Fd), some (.ref A), v7, v8] ∧ Same H6 H' ∧ FndAt P w H' Fd Na (((evL n).take j).foldl (stepF fam) ks0) xs)
                ⟨v1, v7, v8, xs, rfl, s8, fd8⟩ (fun i σ H' _ z => by obtain ⟨_, _, _, _, _, z, _⟩ := z; exact SqL.of (z _ _ hE6)) ?_ ?_
              · clear v1 v7 v8 fd8 s8 xs
                rintro j v σ H9 hv ⟨v1, v7, v8, xs, rfl, s9, fd9⟩
                rw [List.getElem?_map] at hv
                obtain ⟨S, hS, rfl⟩ := Option.map_eq_some_iff.mp hv
                obtain ⟨r, hr9⟩ : ∃ r, (evL n)[j]? = some r := ⟨_, List.getElem?_eq_getElem (by rw [← aE.1]; exact (List.getElem?_eq_some_iff.mp hS).1)⟩
                have tS9 : tpR H9 S r := s9 _ _ (s6 _ _ (aE4.2 j S r hS hr9))
                obtain ⟨r1, r2⟩ := evs r (List.mem_of_getElem? hr9)
                have tA9 := tA.same s9
                rw [foldl_next hr9]
                have hkl2 := turnF_len (fam := fam) ((evL n).take j) ks0
                generalize ((evL n).take j).foldl (stepF fam) ks0 = ks at fd9 hkl2 ⊢
                have hxl : xs.length = ks.length := by rw [← fd9.keys, List.length_map]
                refine ⟨_, rfl, _, rfl, tD r, fam.map tD, dp_tp tS9, dp_fam tA9, sh_of (lay_t r) (dep_t r), sh_of (lay_f fam) (dep_f fam), ?_⟩
                rw [any_t]
                cases hc : hasR r fam with
                | true =>
                  have es : stepF fam ks r = ks := if_neg (by unfold freeR; rw [hc]; exact Bool.false_ne_true)
                  rw [es]
                  exact ⟨_, rfl, ite_f rfl (ite_f rfl ⟨_, _, _, xs, rfl, s9, fd9⟩)⟩
                | false =>
                  refine ⟨_, rfl, ite_t rfl ?_⟩
                  obtain ⟨Ms, hM9, aM9⟩ := tA9
                  refine ⟨_, rfl, A, rfl, ⟨_, SqL.of hM9⟩, fun D hD => ?_⟩
                  refine lc_list (xs := Ms.map V.ref) (fun q H' => Same H9 H' ∧ H' D = some (.lst (((fam.map fun l => ((shR r l : Nat) : Int)).take q).map V.int))) ⟨same_new hD, upd_same⟩ (fun q H' _ z => SqL.of (z.1 _ _ hM9)) ?_ ?_
                  · rintro q v H10 hv ⟨s10, hD10⟩
                    rw [List.getElem?_map] at hv
                    obtain ⟨U, hU, rfl⟩ := Option.map_eq_some_iff.mp hv
                    obtain ⟨l, hl⟩ : ∃ l, fam[q]? = some l := ⟨_, List.getElem?_eq_getElem (by rw [← aM9.1]; exact (List.getElem?_eq_some_iff.mp hU).1)⟩
                    have hU10 : tpR H10 U l := s10 _ _ (aM9.2 q U l hU hl)
                    obtain ⟨l1, l2⟩ := fa3 l (List.mem_of_getElem? hl)
                    refine ⟨rfl, _, rfl, _, rfl, S, U, r, l, rfl, s10 _ _ tS9, .inl hU10, by rw [r1, l1], by omega, r2, l2, fun H11 s11 => ⟨_, s11 _ _ hD10, ?_, same_over (s10.trans s11) hD, ?_⟩⟩
                    · rw [List.length_map, List.length_take, List.length_map, sizeLine_eq]; omega
                    · rw [upd_same, take_next (x := ((shR r l : Nat) : Int)) (by rw [List.getElem?_map, hl]; rfl), List.map_append]
                      rfl
                  rintro H10 ⟨s10, hD10⟩
                  rw [List.length_map, aM9.1, List.take_of_length_le (by rw [List.length_map]; exact Nat.le_refl _)] at hD10
                  refine ⟨D, _, rfl, SqL.of hD10, _, rfl, ?_⟩
                  have ea : (fam.map fun l => ((shR r l : Nat) : Int)).any (fun z => z != 0) = fam.any fun l => !Nat.beq (shR r l) 0 := by
                    rw [List.any_map]
                    congr 1
                    funext l
                    show (((shR r l : Nat) : Int) != 0) = !Nat.beq (shR r l) 0
                    cases hb : Nat.beq (shR r l) 0 with
                    | true =>
                      rw [Nat.beq_eq.mp hb]
                      rfl
                    | false =>
                      have : shR r l ≠ 0 := fun z => by rw [z] at hb; cases hb
                      show (((shR r l : Nat) : Int) != 0) = true
                      rw [bne_iff_ne]
                      omega
                  rw [ea]
                  cases hq : fam.any fun l => !Nat.beq (shR r l) 0 with
                  | true =>
                    have es : stepF fam ks r = ks := if_neg (by unfold freeR; rw [hc, hq]; exact Bool.false_ne_true)
                    rw [es]
                    exact ite_f rfl ⟨_, _, _, xs, rfl, s9.trans s10, fd9.same s10⟩
                  | false =>
                    have es : stepF fam ks r = insF ks (srtR (moreR r fam)) := if_pos (by unfold freeR; rw [hc, hq]; rfl)
                    rw [es]
                    refine ite_t rfl ?_
                    have hM10 := s10 _ _ hM9
                    have aM10 := aM9.mono fun A x r => s10 _ _ r
                    have tS10 := s10 _ _ tS9
                    refine ⟨_, rfl, _, rfl, A, rfl, ⟨_, SqL.of hM10⟩, fun D2 hD2 => ?_⟩
                    refine lc_list (xs := Ms.map V.ref) (fun q H' => Same H10 H' ∧ ∃ Us : List Addr, H' D2 = some (.lst (Us.map V.ref)) ∧ Al (tpR H') Us ((fam.map (dfR r)).take q)) ⟨same_new hD2, [], upd_same, ⟨rfl, fun i A x a _ => nomatch a⟩⟩ (fun q H' _ z => SqL.of (z.1 _ _ hM10)) ?_ ?_
                    · rintro q v H11 hv ⟨s11, Us, hU11, aU11⟩
                      rw [List.getElem?_map] at hv
                      obtain ⟨U, hU, rfl⟩ := Option.map_eq_some_iff.mp hv
                      obtain ⟨l, hl⟩ : ∃ l, fam[q]? = some l := ⟨_, List.getElem?_eq_getElem (by rw [← aM9.1]; exact (List.getElem?_eq_some_iff.mp hU).1)⟩
                      obtain ⟨l1, l2⟩ := fa3 l (List.mem_of_getElem? hl)
                      refine ⟨rfl, _, rfl, _, rfl, S, U, r, l, rfl, s11 _ _ tS10, s11 _ _ (aM10.2 q U l hU hl), by rw [r1, l1], by omega, fun H12 W s12 hW => ⟨_, s12 _ _ hU11, ?_, same_over (s11.trans s12) hD2, Us ++ [W], by rw [upd_same, List.map_append]; rfl, ?_⟩⟩
                      · have := aU11.1
                        rw [List.length_take, List.length_map] at this
                        rw [List.length_map, sizeLine_eq]; omega
                      · rw [take_next (x := dfR r l) (by rw [List.getElem?_map, hl]; rfl)]
                        exact (aU11.mono fun A x r => tpR.ov (show tpR H12 A x from s12 _ _ r) (s12 _ _ hU11)).snoc (hW.ov (s12 _ _ hU11))
                    rintro H11 ⟨s11, Us, hU11, aU11⟩
                    rw [List.length_map, aM9.1, List.take_of_length_le (by rw [List.length_map]; exact Nat.le_refl _)] at aU11
                    have lU := aU11.1
                    rw [List.length_map] at lU
                    refine ⟨A, D2, _, _, rfl, rfl, s11 _ _ hM10, hU11, ?_, fun R hR => ?_⟩
                    · rw [List.length_map, List.length_map, aM9.1, lU, sizeLine_eq]; omega
                    have e12 := same_new (o := .lst (Ms.map V.ref ++ Us.map V.ref)) hR
                    have hR12 : upd H11 R (.lst (Ms.map V.ref ++ Us.map V.ref)) R = some (.lst ((Ms ++ Us).map V.ref)) := by rw [upd_same, List.map_append]
                    have aR12 : Al (tpR (upd H11 R (.lst (Ms.map V.ref ++ Us.map V.ref)))) (Ms ++ Us) (moreR r fam) := (aM10.mono fun A x r => e12 _ _ (s11 _ _ r)).app (aU11.mono fun A x r => e12 _ _ r)
                    have s12 := (s9.trans s10).trans (s11.trans e12)
                    have fd12 := fd9.same (s10.trans (s11.trans e12))
                    generalize upd H11 R (.lst (Ms.map V.ref ++ Us.map V.ref)) = H12 at hR12 aR12 s12 fd12 ⊢
                    refine rd_nilK ?_
                    refine srt_tup hR12 aR12 (fun k hk => ?_) fun M Vs hM aM => ?_
                    · intro kz
                      have kl : k.length = n := by
                        rcases List.mem_append.mp hk with m | m
                        · exact (fa3 k m).1
                        · obtain ⟨l, ml, rfl⟩ := List.mem_map.mp m
                          rw [dfR_len (by rw [r1, (fa3 l ml).1]), r1]
                      rw [kz] at kl
                      have : 0 = n := kl
                      omega
                    have e13 := same_new (o := .lst (Vs.map V.ref)) hM
                    have tM13 : TpAt (upd H12 M (.lst (Vs.map V.ref))) M (srtR (moreR r fam)) := ⟨Vs, upd_same, aM.mono fun A x r => e13 _ _ r⟩
                    have fd13 := fd12.same e13
                    have s13 := s12.trans e13
                    have nM : M ≠ Na := (ne_of_none (s12 _ _ hN6) hM).symm
                    generalize upd H12 M (.lst (Vs.map V.ref)) = H13 at tM13 fd13 s13 ⊢
                    obtain ⟨Vs, hM13, aM13⟩ := tM13
                    refine ⟨_, rfl, _, rfl, _, rfl, M, _, rfl, .inl ⟨SqL.of hM13, fun TT hTT => ?_⟩⟩
                    have e14 := same_new (o := .tup (Vs.map V.ref)) hTT
                    have tM14 : TpAt (upd H13 TT (.tup (Vs.map V.ref))) M (srtR (moreR r fam)) := ⟨Vs, e14 _ _ hM13, aM13.mono fun A x r => e14 _ _ r⟩
                    have kT14 : KxN.KeyAt (upd H13 TT (.tup (Vs.map V.ref))) TT (srtR (moreR r fam)) := ⟨Vs, upd_same, aM13.1, fun i U r a b => e14 _ _ (aM13.2 i U r a b)⟩
                    have fd14 := fd13.same e14
                    have s14 := s13.trans e14
                    generalize upd H13 TT (.tup (Vs.map V.ref)) = H14 at tM14 kT14 fd14 s14 ⊢
                    refine ⟨Fd, TT, M, xs, srtR (moreR r fam), rfl, rfl, rfl, fd14.at_, fd14.key, kT14, ?_, ?_⟩
                    · have hlt := List.length_take_le j (evL n)
                      have h2 : (lay.take i).length * (evL n).length ≤ 1000 * 100 := Nat.mul_le_mul (by rw [List.length_take]; omega) (by omega)
                      rw [List.length_take] at hkl2
                      have h3 : ([] : List (List (List Nat))).length = 0 := rfl
                      omega
                    · exact ⟨_, _, _, _, rfl, same_over s14 hFd, fd14.put kT14 nM tM14⟩
              · rintro σ H9 ⟨v1, v7, v8, xs, rfl, s9, fd9⟩
                rw [List.length_map, aE.1, List.take_length] at fd9
                refine ⟨v1, _, v7, v8, xs, rfl, s9, ?_⟩
                rw [take_next hfam, List.foldl_append, ← hk0]
                exact fd9
            · rintro σ H8 ⟨v1, v6, v7, v8, xs, rfl, s8, fd8⟩
              rw [List.length_map, aL6.1, List.take_length] at fd8
              have fd8 : FndAt P w H8 Fd Na (nextF (evL n) lay) xs := fd8
              have hkl := foldF_len (ev := evL n) lay []
              have hxl : xs.length = (nextF (evL n) lay).length := by rw [← fd8.keys, List.length_map]
              have h2 : lay.length * (evL n).length ≤ 1000 * 100 := Nat.mul_le_mul (by omega) (by omega)
              have h3 : ([] : List (List (List Nat))).length = 0 := rfl
              have hxl2 : (nextF (evL n) lay).length = (lay.foldl (turnF (evL n)) []).length := rfl
              refine ⟨_, rfl, Fd, xs, rfl, fd8.at_, by omega, fun Ly2 hLy2 => ?_⟩
              have e9 := same_new (o := .lst (xs.map fun e => V.ref e.2.2)) hLy2
              have nL2 : Ly2 ≠ Na := (ne_of_none (s8 _ _ hN6) hLy2).symm
              refine ⟨_, _, _, _, _, Ly2, nextF (evL n) lay, ns ++ [lay.length], xs.map (fun e => e.2.2), rfl, ck, s6.trans (s8.trans e9), e9 _ _ (s8 _ _ hN6), nL2, by rw [upd_same, List.map_map]; rfl, ?_⟩
              rw [← fd8.keys]
              refine ⟨by rw [List.length_map, List.length_map], fun i A x a b => ?_⟩
              rw [List.getElem?_map] at a b
              obtain ⟨e, he, rfl⟩ := Option.map_eq_some_iff.mp a
              rw [he] at b
              obtain rfl := Option.some.inj b
              obtain ⟨n1, _, n3⟩ := fd8.val e (List.mem_of_getElem? he)
              exact ⟨n1, n3.same e9⟩
end
end Wd
end
section
set_option maxRecDepth 100000
set_option maxHeartbeats 1000000
namespace Wd
open PySem L2
theorem any_sh (r : List Nat) (fam : List (List Nat)) : (fam.map fun l => ((shR r l : Nat) : Int)).any (fun z => z != 0) = fam.any fun l => !Nat.beq (shR r l) 0 := by
  rw [List.any_map]
  congr 1
  funext l
  show (((shR r l : Nat) : Int) != 0) = !Nat.beq (shR r l) 0
  cases hb : Nat.beq (shR r l) 0 with
  | true =>
    rw [Nat.beq_eq.mp hb]
    rfl
  | false =>
    have : shR r l ≠ 0 := fun z => by rw [z] at hb; cases hb
    show (((shR r l : Nat) : Int) != 0) = true
    rw [bne_iff_ne]
    omega
abbrev nCU : List Str := ["_law_size", "_law_pairs_here", "_law_found", "_law_flags", "_law_pair", "_law_flag", "_law_row", "_law_lists_here", "_law_person", "_law_friends", "_law_at", "_law_mine"]
section
variable {P : Program} {w : World} {K : PySem.W.Frag} {mg : Str → Option Value} {base : Heap}
theorem ok_counted_untied {f : Addr} {fd : FuncData} (F : Fun K "_law_counted_untied" "_law_counted_untied" s_counted_untied f fd) (T : Bt mg) (Ta : mg "any" = none) (C1 : Has P w K mg base 1 "_law_lists" ["_law_many"] spLst) (C2 : Has P w K mg base 1 "_law_share" ["_law_first", "_law_second"] (spShG K)) (C3 : Has P w K mg base 1 "_law_pairs" ["_law_crowd"] spPairs) : FnOk P w K mg base CX0 5 f fd ["_law_size"] spCU := by
  obtain ⟨f1, d1, G1, m1, k1, b1⟩ := C1
  obtain ⟨f2, d2, G2, m2, k2, b2⟩ := C2
  obtain ⟨f3, d3, G3, m3, k3, b3⟩ := C3
  refine F.ok c_counted_untied (fun vs H Q E h => ?_) (fun cdv A outer s H vs Q E hr h => ?_)
  · obtain ⟨_, rfl, _⟩ := h
    rfl
  · obtain ⟨n, rfl, n4, k⟩ := h
    have hr1 : Room 1 _ := hr.mono (by decide)
    refine ⟨_, pss_cons (ps_par3 (i := 1) (j := 2) (l := 3) rfl c_counted_untied.nd rfl rfl rfl (by decide) (by decide) (by decide) rfl rfl rfl (pa_cons (pe_call G3 hr1 rfl m3 k3 b3 .nil pass0 (pa_cons (pe_listRg rfl (by rfl) T.list (prg_1 (by rfl) T.range (pv 0))) pa_nil)) (pa_cons pe_int (pa_cons (pe_lst (pa_cons (pe_tup pa_nil) pa_nil)) pa_nil))) (by rfl))
      (pss_cons (ps_for PassesOwn.never rfl (pi_list (pv 1)) (pg_name (i := 4) c_counted_untied.nd rfl (by first | exact Or.inl rfl | exact Or.inr rfl))
        (pss_one (ps_set (i := 3) c_counted_untied.nd rfl (by first | exact Or.inl rfl | exact Or.inr rfl) (pe_op op_cat
          (pe_lc (own := [("_law_flag", 5)]) (g := gName 5) (tt := tYes) rfl c_counted_untied.nd (pi_list (pv 3)) (blkOk_by (N := nCU) (sc := defScope s_counted_untied) (by decide +kernel)) (fun _ _ _ _ _ => pg_name (i := 5) c_counted_untied.nd rfl (by first | exact Or.inl rfl | exact Or.inr rfl)) (fun _ _ _ _ _ => pts_nil) (fun _ _ _ _ _ => pe_op (r := rCatA K) op_catA (pv 5) (pe_tup (pa_cons pe_int pa_nil))))
          (pe_lc (own := [("_law_flag", 5)]) (g := gName 5) (tt := tYes) rfl c_counted_untied.nd (pi_list (pv 3)) (blkOk_by (N := nCU) (sc := defScope s_counted_untied) (by decide +kernel)) (fun _ _ _ _ _ => pg_name (i := 5) c_counted_untied.nd rfl (by first | exact Or.inl rfl | exact Or.inr rfl)) (fun _ _ _ _ _ => pts_nil) (fun _ _ _ _ _ => pe_op (r := rCatA K) op_catA (pv 5) (pe_tup (pa_cons pe_int pa_nil))))))))
      (pss_cons (ps_setLc (i := 7) (own := [("_law_row", 6)]) (g := gName 6) rfl c_counted_untied.nd rfl rfl (sw_true rfl rfl rfl (by decide +kernel)) (pi_list (pe_call G1 hr1 rfl m1 k1 b1 .nil pass0 (pa_cons (pv 0) pa_nil)))
        (blkOk_by (N := nCU) (sc := defScope s_counted_untied) (by decide +kernel)) (fun _ _ _ _ _ => pg_name (i := 6) c_counted_untied.nd rfl (by first | exact Or.inl rfl | exact Or.inr rfl)) (fun _ _ _ _ _ => pts_one (pt_cmpR op_gt (pe_callB (r := Kx.rSumT K) (Kx.cr_sumT rfl) (by rfl) T.sum (by decide +kernel) (pa_cons (pv 6) pa_nil)) pe_int (nomark _)))
        (fun _ _ _ _ _ => pv 6))
      (pss_cons (ps_for PassesOwn.never rfl (pi_list (pv 3)) (pg_name (i := 5) c_counted_untied.nd rfl (by first | exact Or.inl rfl | exact Or.inr rfl))
        (pss_cons (ps_set (i := 9) c_counted_untied.nd rfl (by first | exact Or.inl rfl | exact Or.inr rfl) (pe_lc (own := [("_law_person", 8)]) (g := gName 8) (tt := tYes) rfl c_counted_untied.nd (pi_range1 rfl T.range (pa_cons (pv 0) pa_nil))
          (blkOk_by (N := nCU) (sc := defScope s_counted_untied) (by decide +kernel)) (fun _ _ _ _ _ => pg_name (i := 8) c_counted_untied.nd rfl (by first | exact Or.inl rfl | exact Or.inr rfl)) (fun _ _ _ _ _ => pts_nil)
          (fun _ _ _ _ _ => pe_op (r := rRep) op_rep (pe_lst (pa_cons pe_int pa_nil)) (pv 0))))
        (pss_cons (ps_for PassesOwn.never rfl (pi_range1 rfl T.range (pa_cons (pe_callB call_len_seq (by rfl) T.len PySem.boot_len (pa_cons (pv 1) pa_nil)) pa_nil)) (pg_name (i := 10) c_counted_untied.nd rfl (by first | exact Or.inl rfl | exact Or.inr rfl))
          (pss_cons (ps_asg (pe_ix ix_tup (pv 5) (pv 10) (fun _ _ => rfl)) (pg_sub (pe_ix ix_list (pv 9) (pe_ix ix_tup (pe_ix ix_list (pv 1) (pv 10) (fun _ _ => rfl)) pe_int (fun _ _ => rfl)) (fun _ _ => rfl)) (pe_ix ix_tup (pe_ix ix_list (pv 1) (pv 10) (fun _ _ => rfl)) pe_int (fun _ _ => rfl)) set_list))
          (pss_one (ps_asg (pe_ix ix_tup (pv 5) (pv 10) (fun _ _ => rfl)) (pg_sub (pe_ix ix_list (pv 9) (pe_ix ix_tup (pe_ix ix_list (pv 1) (pv 10) (fun _ _ => rfl)) pe_int (fun _ _ => rfl)) (fun _ _ => rfl)) (pe_ix ix_tup (pe_ix ix_list (pv 1) (pv 10) (fun _ _ => rfl)) pe_int (fun _ _ => rfl)) set_list)))))
        (pss_one (ps_set (i := 2) c_counted_untied.nd rfl (by first | exact Or.inl rfl | exact Or.inr rfl) (pe_op op_add (pv 2) (pe_callTy call_int1 (by rfl) T.int (by decide +kernel) (pa_cons (pe_callB (r := rAll K) (cr_all rfl) (by rfl) T.all (by decide +kernel) (pa_cons
          (pe_lc (own := [("_law_row", 6)]) (g := gName 6) (tt := tYes) rfl c_counted_untied.nd (pi_list (pv 7)) (blkOk_by (N := nCU) (sc := defScope s_counted_untied) (by decide +kernel)) (fun _ _ _ _ _ => pg_name (i := 6) c_counted_untied.nd rfl (by first | exact Or.inl rfl | exact Or.inr rfl)) (fun _ _ _ _ _ => pts_nil)
            (fun _ _ _ _ _ => pe_callB (r := Kx.rAnyI K) (Kx.cr_anyI rfl) (by rfl) Ta (by decide +kernel) (pa_cons
              (pe_lc (wi := iList K (tVar 9)) (own := [("_law_mine", 11)]) (g := gName 11) (tt := tYes) rfl c_counted_untied.nd (pi_list (pv 9)) (blkOk_by (by rfl)) (fun _ _ _ _ _ => pg_name (i := 11) c_counted_untied.nd rfl (by first | exact Or.inl rfl | exact Or.inr rfl)) (fun _ _ _ _ _ => pts_nil)
                (fun _ _ _ _ _ => pe_call G2 hr1 rfl m2 k2 b2 .nil pass0 (pa_cons (pv 6) (pa_cons (pv 11) pa_nil)))) pa_nil))) pa_nil)) pa_nil))))))))
      (pss_one (ps_ret (pv 2)))))), ?_⟩
    obtain ⟨pl6, pr50, pJ⟩ := prJ_ok n (by omega)
    refine ⟨_, rfl, (n : Int), rfl, RgOk.of_le (by omega) (by omega) (by omega) (by omega), fun L hL => ?_⟩
    have e1 := same_new (o := .lst (rgV 0 (n : Int))) hL
    refine ⟨L, _, rfl, upd_same, pr50, fun H2 D s2 nD pa => ?_⟩
    rw [prs_rng n (by omega)] at pa
    obtain ⟨Ts, hD, tT⟩ := pa
    have lT : Ts.length = (prJ n).length := by rw [tT.1, List.length_map]
    have s2 := e1.trans s2
    refine ⟨by show 0 ≤ sizeLine; decide, fun T0 hT0 => ?_⟩
    have e3 := same_new (o := .tup []) hT0
    refine ⟨by show 1 ≤ sizeLine; decide, fun R0 hR0 => ?_⟩
    have e4 := same_new (o := .lst [.ref T0]) hR0
    have hR4 : upd (upd H2 T0 (.tup [])) R0 (.lst [.ref T0]) R0 = some (.lst [.ref T0]) := upd_same
    have hT4 := e4 _ _ (upd_same (H := H2) (a := T0) (o := .tup []))
    have s4 := s2.trans (e3.trans e4)
    have hD4 := e4 _ _ (e3 _ _ hD)
    have tT4 := tT.same (e3.trans e4)
    generalize upd (upd H2 T0 (.tup [])) R0 (.lst [.ref T0]) = H4 at hR4 hT4 s4 hD4 tT4 ⊢
    refine ⟨_, _, _, rfl, _, rfl, D, rfl, ⟨_, SqL.of hD4⟩, ?_⟩
    refine for_list (xs := Ts.map V.ref) (fun j σ H' => (∃ (R : Addr) (v4 v5 v6 v7 v8 v9 v10 v11 : Option V), σ = [some (.int (n : Int)), some (.ref D), some (.int 0), some (.ref R), v4, v5, v6, v7, v8, v9, v10, v11] ∧ ∃ Rs : List Addr, H' R = some (.lst (Rs.map V.ref)) ∧ Al (tpR H') Rs (flL j)) ∧ Same H4 H')
      ⟨⟨R0, none, none, none, none, none, none, none, none, rfl, [T0], hR4, rfl, fun i A x a b => ?_⟩, Same.refl _⟩ (fun j σ H' _ z => SqL.of (z.2 _ _ hD4)) ?_ ?_
    · cases i with
      | zero =>
        obtain rfl := Option.some.inj a
        obtain rfl := Option.some.inj b
        exact hT4
      | succ j => cases a
    · rintro j v σ H3 hv ⟨⟨R, v4, v5, v6, v7, v8, v9, v10, v11, rfl, Rs, hR, ar⟩, s3⟩
      have jl : j < 10 := by
        have := (List.getElem?_eq_some_iff.mp hv).1
        rw [List.length_map] at this
        omega
      have lj := flL_len j
      have pj : 2 ^ j ≤ 2 ^ 10 := Nat.pow_le_pow_right (by decide) (by omega)
      refine ⟨_, rfl, R, rfl, ⟨_, SqL.of hR⟩, fun D1 hD1 => ?_⟩
      have nD1 := hD1
      refine lc_list (xs := Rs.map V.ref) (fun q H' => Same H3 H' ∧ ∃ Us : List Addr, H' D1 = some (.lst (Us.map V.ref)) ∧ Al (tpR H') Us (((flL j).take q).map (· ++ [0]))) ⟨same_new hD1, [], upd_same, ⟨rfl, fun i A x a _ => nomatch a⟩⟩ (fun q H' _ z => SqL.of (z.1 _ _ hR)) ?_ ?_
      · rintro q v H5 hv ⟨s5, Us, hU, aU⟩
        rw [List.getElem?_map] at hv
        obtain ⟨S, hSq, rfl⟩ := Option.map_eq_some_iff.mp hv
        obtain ⟨p, hp⟩ : ∃ p, (flL j)[q]? = some p := ⟨_, List.getElem?_eq_getElem (by rw [← ar.1]; exact (List.getElem?_eq_some_iff.mp hSq).1)⟩
        have hS5 : tpR H5 S p := s5 _ _ (ar.2 q S p hSq hp)
        have few := fl_few j (by omega) p (List.mem_of_getElem? hp)
        refine ⟨rfl, _, rfl, by show 1 ≤ sizeLine; decide, fun Z hZ => ?_⟩
        have e6 := same_new (o := .tup [.int 0]) hZ
        have hU6 := e6 _ _ hU
        have fin : ∀ (H7 : Hp) (W : Addr), Same (upd H5 Z (.tup [.int 0])) H7 → tpR H7 W (p ++ [0]) → ∃ acc, H7 D1 = some (.lst acc) ∧ acc.length < sizeLine ∧ Same H3 (upd H7 D1 (.lst (acc ++ [.ref W]))) ∧ ∃ Us : List Addr, upd H7 D1 (.lst (acc ++ [.ref W])) D1 = some (.lst (Us.map V.ref)) ∧ Al (tpR (upd H7 D1 (.lst (acc ++ [.ref W])))) Us (((flL j).take (q + 1)).map (· ++ [0])) := by
          intro H7 W s7 hW
          have hU7 := s7 _ _ hU6
          refine ⟨_, hU7, ?_, same_over ((s5.trans e6).trans s7) hD1, Us ++ [W], by rw [upd_same, List.map_append]; rfl, ?_⟩
          · have := aU.1
            rw [List.length_map, List.length_take] at this
            have l2 := List.getElem?_eq_some_iff.mp hp
            have l3 := flL_len j
            have l4 : 2 ^ j ≤ 2 ^ 10 := Nat.pow_le_pow_right (by decide) (by omega)
            rw [List.length_map, sizeLine_eq]
            omega
          · rw [take_next hp, List.map_append]
            exact (aU.mono fun A x r => tpR.ov (show tpR H7 A x from s7 _ _ (e6 _ _ r)) hU7).snoc (hW.ov hU7)
        refine ⟨S, Z, iN p, [.int 0], rfl, rfl, SqT.of (e6 _ _ hS5), SqT.of upd_same, ?_, fun ep => ?_, fun _ e => (nomatch e), fun _ _ W hW => ?_⟩
        · rw [iN_len, sizeLine_eq]
          show p.length + 1 ≤ _
          omega
        · have ep : p = [] := by
            cases p with
            | nil => rfl
            | cons a b => cases ep
          subst ep
          exact fin _ Z (Same.refl _) upd_same
        · refine fin _ W (same_new hW) ?_
          unfold tpR
          rw [upd_same]
          unfold iN
          rw [List.map_append]
          rfl
      · rintro H5 ⟨s5, Us, hU, aU⟩
        rw [List.length_map, ar.1, List.take_length] at aU
        have hR5 := s5 _ _ hR
        have ar5 : Al (tpR H5) Rs (flL j) := ar.mono fun A x r => s5 _ _ r
        refine ⟨_, rfl, R, rfl, ⟨_, SqL.of hR5⟩, fun D2 hD2 => ?_⟩
        have nD2 := hD2
        refine lc_list (xs := Rs.map V.ref) (fun q H' => Same H5 H' ∧ ∃ Us : List Addr, H' D2 = some (.lst (Us.map V.ref)) ∧ Al (tpR H') Us (((flL j).take q).map (· ++ [1]))) ⟨same_new hD2, [], upd_same, ⟨rfl, fun i A x a _ => nomatch a⟩⟩ (fun q H' _ z => SqL.of (z.1 _ _ hR5)) ?_ ?_
        · rintro q v H6 hv ⟨s6, Us2, hU2, aU2⟩
          rw [List.getElem?_map] at hv
          obtain ⟨S, hSq, rfl⟩ := Option.map_eq_some_iff.mp hv
          obtain ⟨p, hp⟩ : ∃ p, (flL j)[q]? = some p := ⟨_, List.getElem?_eq_getElem (by rw [← ar.1]; exact (List.getElem?_eq_some_iff.mp hSq).1)⟩
          have hS6 : tpR H6 S p := s6 _ _ (ar5.2 q S p hSq hp)
          have few := fl_few j (by omega) p (List.mem_of_getElem? hp)
          refine ⟨rfl, _, rfl, by show 1 ≤ sizeLine; decide, fun Z hZ => ?_⟩
          have e6 := same_new (o := .tup [.int 1]) hZ
          have hU6 := e6 _ _ hU2
          have fin : ∀ (H7 : Hp) (W : Addr), Same (upd H6 Z (.tup [.int 1])) H7 → tpR H7 W (p ++ [1]) → ∃ acc, H7 D2 = some (.lst acc) ∧ acc.length < sizeLine ∧ Same H5 (upd H7 D2 (.lst (acc ++ [.ref W]))) ∧ ∃ Us : List Addr, upd H7 D2 (.lst (acc ++ [.ref W])) D2 = some (.lst (Us.map V.ref)) ∧ Al (tpR (upd H7 D2 (.lst (acc ++ [.ref W])))) Us (((flL j).take (q + 1)).map (· ++ [1])) := by
            intro H7 W s7 hW
            have hU7 := s7 _ _ hU6
            refine ⟨_, hU7, ?_, same_over ((s6.trans e6).trans s7) hD2, Us2 ++ [W], by rw [upd_same, List.map_append]; rfl, ?_⟩
            · have := aU2.1
              rw [List.length_map, List.length_take] at this
              have l2 := List.getElem?_eq_some_iff.mp hp
              have l3 := flL_len j
              have l4 : 2 ^ j ≤ 2 ^ 10 := Nat.pow_le_pow_right (by decide) (by omega)
              rw [List.length_map, sizeLine_eq]
              omega
            · rw [take_next hp, List.map_append]
              exact (aU2.mono fun A x r => tpR.ov (show tpR H7 A x from s7 _ _ (e6 _ _ r)) hU7).snoc (hW.ov hU7)
          refine ⟨S, Z, iN p, [.int 1], rfl, rfl, SqT.of (e6 _ _ hS6), SqT.of upd_same, ?_, fun ep => ?_, fun _ e => (nomatch e), fun _ _ W hW => ?_⟩
          · rw [iN_len, sizeLine_eq]
            show p.length + 1 ≤ _
            omega
          · have ep : p = [] := by
              cases p with
              | nil => rfl
              | cons a b => cases ep
            subst ep
            exact fin _ Z (Same.refl _) upd_same
          · refine fin _ W (same_new hW) ?_
            unfold tpR
            rw [upd_same]
            unfold iN
            rw [List.map_append]
            rfl
        · rintro H6 ⟨s6, Us2, hU2, aU2⟩
          rw [List.length_map, ar.1, List.take_length] at aU2
          refine ⟨D1, D2, _, _, rfl, rfl, s6 _ _ hU, hU2, ?_, fun R9 hR9 => ?_⟩
          · rw [List.length_map, List.length_map, aU.1, aU2.1, List.length_map, List.length_map, lj, sizeLine_eq]
            omega
          · have e9 := same_new (o := .lst (Us.map V.ref ++ Us2.map V.ref)) hR9
            have s39 := (s5.trans s6).trans e9
            refine ⟨⟨R9, _, _, _, _, _, _, _, _, rfl, Us ++ Us2, by rw [upd_same, List.map_append], ?_⟩, s3.trans s39⟩
            exact (aU.mono fun A x r => e9 _ _ (s6 _ _ r)).app (aU2.mono fun A x r => e9 _ _ r)
    · rintro σ H5 ⟨⟨R, v4, v5, v6, v7, v8, v9, v10, v11, rfl, Rs, hR, aR⟩, s5⟩
      rw [List.length_map, lT] at aR
      have s45 := s4.trans s5
      have hD5 := s5 _ _ hD4
      have tT5 := tT4.same s5
      obtain ⟨lf1, lf2⟩ := liF_ok n (by omega)
      obtain ⟨fl1, fl2⟩ := flF_ok (prJ n).length pl6
      have ck := cnt_ok n (by omega)
      refine ⟨_, rfl, n, rfl, by omega, fun H6 W0 s6 ⟨Ws, hW, aW⟩ => ?_⟩
      refine ⟨W0, rfl, ⟨_, SqL.of hW⟩, fun Li hLi => ?_⟩
      refine lc_list (xs := Ws.map V.ref) (fun i H' => Same H6 H' ∧ ∃ Es : List Addr, H' Li = some (.lst (Es.map V.ref)) ∧ Al (tpR H') Es (((flL n).take i).filter fun p => Nat.blt 0 p.sum)) ⟨same_new hLi, [], upd_same, ⟨rfl, fun i A x a _ => nomatch a⟩⟩ (fun i H' _ z => SqL.of (z.1 _ _ hW)) ?_ ?_
      · rintro i v H2 hv ⟨s2, Es, hE, aE⟩
        rw [List.getElem?_map] at hv
        obtain ⟨S, hSq, rfl⟩ := Option.map_eq_some_iff.mp hv
        obtain ⟨p, hp⟩ : ∃ p, (flL n)[i]? = some p := ⟨_, List.getElem?_eq_getElem (by rw [← aW.1]; exact (List.getElem?_eq_some_iff.mp hSq).1)⟩
        have hS2 : tpR H2 S p := s2 _ _ (aW.2 i S p hSq hp)
        refine ⟨rfl, _, rfl, S, _, rfl, by rw [← iN_cast p]; exact SqT.of hS2, _, _, rfl, rfl, _, rfl, ?_⟩
        rw [sum_cast]
        refine ite2 (fun hb => ?_) (fun hb => ?_)
        · have hb : 0 < ((p.sum : Nat) : Int) := of_decide_eq_true hb
          have nb : Nat.blt 0 p.sum = true := Nat.ble_eq.mpr (by omega)
          refine ⟨_, rfl, _, hE, ?_, same_over s2 hLi, Es ++ [S], by rw [upd_same, List.map_append]; rfl, ?_⟩
          · have l1 := aE.1
            have l2 := List.length_filter_le (fun p : List Nat => Nat.blt 0 p.sum) ((flL n).take i)
            have l3 := flL_len n
            have l4 : 2 ^ n ≤ 2 ^ 10 := Nat.pow_le_pow_right (by decide) (by omega)
            rw [List.length_take] at l2
            rw [List.length_map, sizeLine_eq]
            omega
          · rw [take_next hp, List.filter_append, List.filter_cons_of_pos (p := fun p : List Nat => Nat.blt 0 p.sum) nb]
            exact (aE.mono fun A x r => tpR.ov r hE).snoc (hS2.ov hE)
        · have hb : ¬ 0 < ((p.sum : Nat) : Int) := fun z => hb (decide_eq_true z)
          have nb : ¬ Nat.blt 0 p.sum = true := fun z => hb (by have := Nat.ble_eq.mp z; omega)
          refine ⟨s2, Es, hE, ?_⟩
          rw [take_next hp, List.filter_append, List.filter_cons_of_neg (p := fun p : List Nat => Nat.blt 0 p.sum) nb, List.filter_nil, List.append_nil]
          exact aE
      rintro H7 ⟨s7, Es, hE, aE⟩
      rw [List.length_map, aW.1, List.take_length] at aE
      have aE : Al (tpR H7) Es (liF n) := aE
      have s57 := s6.trans s7
      have hD7 := s57 _ _ hD5
      have tT7 := tT5.same s57
      have hR7 := s57 _ _ hR
      have aR7 := aR.mono fun A x r => s57 _ _ r
      have s47 := s45.trans s57
      refine ⟨_, rfl, R, rfl, ⟨_, SqL.of hR7⟩, ?_⟩
      refine for_list (xs := Rs.map V.ref) (fun i σ H' => (∃ v4 v5 v6 v8 v9 v10 v11 : Option V, σ = [some (.int (n : Int)), some (.ref D), some (.int ((cntM n ((flL (prJ n).length).take i) : Nat) : Int)), some (.ref R), v4, v5, v6, some (.ref Li), v8, v9, v10, v11]) ∧ Same H7 H')
        ⟨⟨_, _, _, _, _, _, _, rfl⟩, Same.refl _⟩ (fun i σ H' _ z => SqL.of (z.2 _ _ hR7)) ?_ ?_
      · clear v4 v5 v6 v7 v8 v9 v10 v11
        rintro i v σ H8 hv ⟨⟨v4, v5, v6, v8, v9, v10, v11, rfl⟩, s8⟩
        rw [List.getElem?_map] at hv
        obtain ⟨S, hSq, rfl⟩ := Option.map_eq_some_iff.mp hv
        obtain ⟨fl, hfl⟩ : ∃ fl, (flL (prJ n).length)[i]? = some fl := ⟨_, List.getElem?_eq_getElem (by rw [← aR7.1]; exact (List.getElem?_eq_some_iff.mp hSq).1)⟩
        have tS8 : tpR H8 S fl := s8 _ _ (aR7.2 i S fl hSq hfl)
        obtain ⟨fz1, fz2⟩ := fl2 fl (List.mem_of_getElem? hfl)
        have hD8 := s8 _ _ hD7
        have tT8 := tT7.same s8
        refine ⟨_, rfl, (n : Int), rfl, by omega, by omega, fun Fa hFa => ?_⟩
        refine lc_range (lo := 0) (n := n) (fun i H' => ∃ Rw : List Addr, MatAt H8 H' Fa Rw (List.replicate i (List.replicate n 0))) ⟨[], same_new hFa, upd_same, List.nodup_nil, List.not_mem_nil, fun R hR => (nomatch hR), rfl, fun i A x a _ => nomatch a⟩ ?_ ?_
        · rintro j H9 hj ⟨Rw, M⟩
          refine ⟨rfl, by show 1 ≤ sizeLine; decide, fun A0 hA0 => ?_⟩
          have e1 := same_new (o := .lst [.int 0]) hA0
          refine ⟨_, rfl, A0, (n : Int), [.int 0], rfl, rfl, upd_same, by omega, by omega, by rw [sizeLine_eq]; show 1 * ((n : Int)).toNat ≤ _; omega, fun B hB => ?_⟩
          rw [flat_ze]
          have e2 := same_new (o := .lst (iN (List.replicate n 0))) hB
          have e := e1.trans e2
          have hB2 : upd (upd H9 A0 (.lst [.int 0])) B (.lst (iN (List.replicate n 0))) B = some (.lst (iN (List.replicate n 0))) := upd_same
          have nB : H9 B = none := same_none e1 hB
          generalize upd (upd H9 A0 (.lst [.int 0])) B (.lst (iN (List.replicate n 0))) = H10 at e hB2 ⊢
          have nB8 : H8 B = none := same_none M.same nB
          have nFB : Fa ≠ B := ne_of_none M.fa nB
          refine ⟨_, e _ _ M.fa, ?_, Rw ++ [B], same_over (M.same.trans e) hFa, by rw [upd_same, List.map_append]; rfl, ?_, ?_, ?_, ?_⟩
          · have := M.al.1
            rw [List.length_replicate] at this
            rw [List.length_map, sizeLine_eq]; omega
          · refine List.nodup_append.mpr ⟨M.nod, List.nodup_cons.mpr ⟨List.not_mem_nil, List.nodup_nil⟩, fun a ha b hb => ?_⟩
            obtain rfl := List.mem_singleton.mp hb
            obtain ⟨q, hq, eq⟩ := List.getElem_of_mem ha
            have hq2 : Rw[q]? = some a := by rw [List.getElem?_eq_getElem hq, eq]
            obtain ⟨r, hr⟩ : ∃ r, (List.replicate j (List.replicate n 0))[q]? = some r := ⟨_, List.getElem?_eq_getElem (by rw [← M.al.1]; exact hq)⟩
            exact ne_of_none (M.al.2 q a r hq2 hr) nB
          · intro z
            rcases List.mem_append.mp z with z | z
            · exact M.off z
            · exact nFB (List.mem_singleton.mp z)
          · intro a ha
            rcases List.mem_append.mp ha with z | z
            · exact M.new a z
            · rw [List.mem_singleton.mp z]; exact nB8
          · rw [List.replicate_succ']
            refine Al.snoc ⟨M.al.1, fun q A x a b => ?_⟩ ?_
            · have hA := List.mem_of_getElem? a
              unfold rwR
              rw [upd_ne (show A ≠ Fa from fun z => M.off (z ▸ hA))]
              exact e _ _ (M.al.2 q A x a b)
            · unfold rwR
              rw [upd_ne nFB.symm]
              exact hB2
        rintro H9 ⟨Rw, M⟩
        have M : MatAt H8 H9 Fa Rw (zeM n) := M
        refine ⟨_, rfl, D, _, rfl, .inl (SqL.of (M.same _ _ hD8)), ((prJ n).length : Int), by rw [List.length_map, lT], by omega, by omega, ?_⟩
        refine for_range (lo := 0) (n := (prJ n).length) (fun i0 σ H' => (∃ v10 : Option V, σ = [some (.int (n : Int)), some (.ref D), some (.int ((cntM n ((flL (prJ n).length).take i) : Nat) : Int)), some (.ref R), v4, some (.ref S), v6, some (.ref Li), v8, some (.ref Fa), v10, v11]) ∧ MatAt H8 H' Fa Rw (matF n fl i0) ∧ goodM n (matF n fl i0))
          ⟨⟨_, rfl⟩, M, zeM_good n⟩ ?_ ?_
        · clear M
          rintro j σ H10 hj ⟨⟨v10, rfl⟩, M, g⟩
          rw [Int.zero_add]
          obtain ⟨p, hp⟩ : ∃ p, (prJ n)[j]? = some p := ⟨_, List.getElem?_eq_getElem (by omega)⟩
          obtain ⟨Tp, hTp⟩ : ∃ Tp, Ts[j]? = some Tp := ⟨_, List.getElem?_eq_getElem (by rw [lT]; omega)⟩
          obtain ⟨p1, p2⟩ := pJ p (List.mem_of_getElem? hp)
          have tp8 : H8 Tp = some (.tup [.int (p.1 : Int), .int (p.2 : Int)]) := tT8.2 j Tp (pvJ p) hTp (by rw [List.getElem?_map, hp]; rfl)
          have gx : fl[j]? = some (fl.getD j 0) := by rw [List.getD_eq_getElem?_getD, List.getElem?_eq_getElem (by omega)]; rfl
          have x1 := fz2 _ (List.mem_of_getElem? gx)
          have ef : matF n fl (j + 1) = setM (setM (matF n fl j) p.1 p.2 (fl.getD j 0)) p.2 p.1 (fl.getD j 0) := by
            show wrM n fl (matF n fl j) j = _
            unfold wrM
            have : (prJ n).getD j (0, 0) = p := by rw [List.getD_eq_getElem?_getD, hp]; rfl
            rw [this]
          have hx : ∀ H', Same H8 H' → SqT K H' S (iN fl) := fun H' s' => SqT.of (s' _ _ tS8)
          have ax : atI (iN fl) (j : Int) = some (.int ((fl.getD j 0 : Nat) : Int)) := iN_at rfl (by omega)
          rw [ef]
          generalize fl.getD j 0 = x at x1 ax ⊢
          generalize matF n fl j = m at M g ⊢
          obtain ⟨R1, hR1, hr1, hl1⟩ := M.row g p1
          refine ⟨_, rfl, _, rfl, S, _, _, _, rfl, rfl, hx _ M.same, ax, ?_⟩
          refine ⟨_, rfl, _, rfl, _, rfl, D, _, _, .ref Tp, rfl, rfl, SqL.of (M.same _ _ hD8), refs_at hTp, Tp, _, _, _, rfl, rfl, SqT.of (M.same _ _ tp8), rfl, Fa, _, _, .ref R1, rfl, rfl, SqL.of M.fa, refs_at hR1, ?_⟩
          refine ⟨_, rfl, _, rfl, D, _, _, .ref Tp, rfl, rfl, SqL.of (M.same _ _ hD8), refs_at hTp, Tp, _, _, _, rfl, rfl, SqT.of (M.same _ _ tp8), rfl, R1, _, _, p.2, rfl, rfl, hr1, ixN_in (by rw [hl1]; exact p2), ?_⟩
          have M2 := M.set (b := p.2) (x := x) hR1
          have g2 := g.set (b := p.2) p1 x1
          generalize upd H10 R1 (.lst ((iN (m.getD p.1 [])).set p.2 (.int (x : Int)))) = H11 at M2 ⊢
          generalize setM m p.1 p.2 x = m2 at M2 g2 ⊢
          obtain ⟨R2, hR2, hr2, hl2⟩ := M2.row g2 p2
          refine ⟨_, rfl, _, rfl, S, _, _, _, rfl, rfl, hx _ M2.same, ax, ?_⟩
          refine ⟨_, rfl, _, rfl, _, rfl, D, _, _, .ref Tp, rfl, rfl, SqL.of (M2.same _ _ hD8), refs_at hTp, Tp, _, _, _, rfl, rfl, SqT.of (M2.same _ _ tp8), rfl, Fa, _, _, .ref R2, rfl, rfl, SqL.of M2.fa, refs_at hR2, ?_⟩
          refine ⟨_, rfl, _, rfl, D, _, _, .ref Tp, rfl, rfl, SqL.of (M2.same _ _ hD8), refs_at hTp, Tp, _, _, _, rfl, rfl, SqT.of (M2.same _ _ tp8), rfl, R2, _, _, p.1, rfl, rfl, hr2, ixN_in (by rw [hl2]; exact p1), ?_⟩
          exact ⟨⟨_, rfl⟩, M2.set (b := p.1) (x := x) hR2, g2.set (b := p.1) p2 x1⟩
        · rintro σ H10 ⟨⟨v10, rfl⟩, M, g⟩
          have e10 : cntM n ((flL (prJ n).length).take (i + 1)) = cntM n ((flL (prJ n).length).take i) + if okM n (matF n fl (prJ n).length) = true then 1 else 0 := foldl_next hfl
          rw [e10]
          generalize cntM n ((flL (prJ n).length).take i) = z0
          generalize matF n fl (prJ n).length = m at M g ⊢
          have hE10 := M.same _ _ (s8 _ _ hE)
          have aE10 := aE.mono fun A x r => M.same _ _ (s8 _ _ r)
          have hM10 := M.fa
          have aM10 := M.al
          have lm := g.1
          have s10 := s8.trans M.same
          refine ⟨_, rfl, _, rfl, Li, rfl, ⟨_, SqL.of hE10⟩, fun D2 hD2 => ?_⟩
          refine lc_list (xs := Es.map V.ref) (fun q H' => Same H10 H' ∧ H' D2 = some (.lst ((((liF n).map fun r => m.any fun l => !Nat.beq (shR r l) 0).take q).map V.bl))) ⟨same_new hD2, upd_same⟩ (fun q H' _ z => SqL.of (z.1 _ _ hE10)) ?_ ?_
          · rintro q v H11 hv ⟨s11, hD11⟩
            rw [List.getElem?_map] at hv
            obtain ⟨U, hU, rfl⟩ := Option.map_eq_some_iff.mp hv
            obtain ⟨r, hr9⟩ : ∃ r, (liF n)[q]? = some r := ⟨_, List.getElem?_eq_getElem (by rw [← aE.1]; exact (List.getElem?_eq_some_iff.mp hU).1)⟩
            obtain ⟨r1, r2⟩ := lf2 r (List.mem_of_getElem? hr9)
            have tU11 : tpR H11 U r := s11 _ _ (aE10.2 q U r hU hr9)
            have hM11 := s11 _ _ hM10
            have aM11 : Al (rwR H11) Rw m := aM10.mono fun A x r => s11 _ _ r
            refine ⟨rfl, _, rfl, Fa, rfl, ⟨_, SqL.of hM11⟩, fun D3 hD3 => ?_⟩
            refine lc_list (xs := Rw.map V.ref) (fun q H' => Same H11 H' ∧ H' D3 = some (.lst (((m.map fun l => ((shR r l : Nat) : Int)).take q).map V.int))) ⟨same_new hD3, upd_same⟩ (fun q H' _ z => SqL.of (z.1 _ _ hM11)) ?_ ?_
            · rintro q2 v H12 hv ⟨s12, hD12⟩
              rw [List.getElem?_map] at hv
              obtain ⟨U2, hU2, rfl⟩ := Option.map_eq_some_iff.mp hv
              obtain ⟨l, hl⟩ : ∃ l, m[q2]? = some l := ⟨_, List.getElem?_eq_getElem (by rw [← aM11.1]; exact (List.getElem?_eq_some_iff.mp hU2).1)⟩
              have hU12 : rwR H12 U2 l := s12 _ _ (aM11.2 q2 U2 l hU2 hl)
              obtain ⟨l1, l2⟩ := g.2 l (List.mem_of_getElem? hl)
              refine ⟨rfl, _, rfl, _, rfl, U, U2, r, l, rfl, s12 _ _ tU11, .inr hU12, by rw [r1, l1], by omega, r2, l2, fun H13 s13 => ⟨_, s13 _ _ hD12, ?_, same_over (s12.trans s13) hD3, ?_⟩⟩
              · rw [List.length_map, List.length_take, List.length_map, sizeLine_eq]; omega
              · rw [upd_same, take_next (x := ((shR r l : Nat) : Int)) (by rw [List.getElem?_map, hl]; rfl), List.map_append]
                rfl
            rintro H12 ⟨s12, hD12⟩
            rw [List.length_map, aM11.1, List.take_of_length_le (by rw [List.length_map]; exact Nat.le_refl _)] at hD12
            refine ⟨D3, _, rfl, SqL.of hD12, _, s12 _ _ hD11, ?_, same_over (s11.trans s12) hD2, ?_⟩
            · rw [List.length_map, List.length_take, List.length_map, sizeLine_eq]; omega
            · have ea : (m.map fun l => ((shR r l : Nat) : Int)).any (fun z => z != 0) = m.any fun l => !Nat.beq (shR r l) 0 := any_sh r m
              rw [upd_same, take_next (x := m.any fun l => !Nat.beq (shR r l) 0) (by rw [List.getElem?_map, hr9]; rfl), List.map_append, ea]
              rfl
          rintro H11 ⟨s11, hD11⟩
          rw [List.length_map, aE10.1, List.take_of_length_le (by rw [List.length_map]; exact Nat.le_refl _)] at hD11
          have ea : ((liF n).map fun r => m.any fun l => !Nat.beq (shR r l) 0).all id = okM n m := by
            rw [List.all_map]
            rfl
          refine ⟨D2, _, rfl, SqL.of hD11, .inr ⟨_, rfl, _, _, rfl, rfl, ?_⟩⟩
          rw [ea]
          have ez : ((z0 : Nat) : Int) + (if okM n m = true then 1 else 0) = ((z0 + if okM n m = true then 1 else 0 : Nat) : Int) := by
            split
            · rw [Int.natCast_add]
              rfl
            · rw [Int.add_zero, Nat.add_zero]
          exact ⟨⟨v4, some (.ref S), v6, v8, some (.ref Fa), v10, v11, congrArg (fun x => [some (V.int (n : Int)), some (.ref D), some (V.int x), some (.ref R), v4, some (.ref S), v6, some (.ref Li), v8, some (.ref Fa), v10, v11]) ez⟩, s10.trans s11⟩
      · rintro σ H8 ⟨⟨v4, v5, v6, v8, v9, v10, v11, rfl⟩, s8⟩
        rw [List.length_map, aR7.1, List.take_length, ck]
        exact ⟨_, rfl, k _ (s47.trans s8)⟩
end
end Wd
end
section
set_option maxRecDepth 100000
set_option maxHeartbeats 4000000
namespace Wd
open PySem PySem.Spec PyProof.Rows L2
theorem fun_of {K : PySem.W.Frag} {x q : PySem.Str} {st : Stmt} {f : Addr} {fd : FuncData} (F : FunD K x q (defArgs st) (defBody st) (defScope st) [] [] f fd) : Fun K x q st f fd := by
  obtain ⟨oc, od, dV, kV, doc, pm, an, cdv, ct, osl, e, lk, hcd, hd, _⟩ := F.ex
  rcases hd with ⟨_, rfl⟩ | ⟨z, _⟩
  · exact ⟨⟨oc, od, kV, doc, pm, an, cdv, ct, osl, e, lk, hcd⟩, F.kp⟩
  · exact absurd rfl z
theorem facts {P : Program} {w : World} {K : PySem.W.Frag} {h : Heap} {mg : PySem.Str → Option Value} {fa : Addr} (X : K.In h) (G : h.Ns mainGlobals mg) (hfa : mg ("law" : PySem.Str) = some (.ref fa)) (c : He.SaysD faA fnA K) (ce : exB K = true) :
    ∃ fd : FuncData, (∀ (s : Shared) (v : Value), BindsTo s fd ⟨[v], []⟩ [("_law_script", v)]) ∧ ∀ base : Heap, K.In base → base.Ns mainGlobals mg → FnOk P w K mg base CX0 6 fa fd ["_law_script"] (spLaw K) := by
  obtain ⟨d_is_count, D_is_count⟩ := c.def_ 0 (d := d0) rfl
  have F_is_count : Fun K "is_count" "is_count" sp_is_count (He.ga K "is_count") d_is_count := fun_of D_is_count
  have b_is_count : Binds K d_is_count ["value"] [] := D_is_count.bindsN fun _ _ _ _ _ _ us hl => match us, hl with | [_], _ => rfl
  have g_is_count : mg "is_count" = some (.ref (He.ga K "is_count")) := He.glo_ok X G (c.fact 0 (f := .glo "is_count") rfl)
  obtain ⟨d_check_many, D_check_many⟩ := c.def_ 1 (d := d1) rfl
  have F_check_many : Fun K "check_many" "check_many" sp_check_many (He.ga K "check_many") d_check_many := fun_of D_check_many
  have b_check_many : Binds K d_check_many ["many"] [] := D_check_many.bindsN fun _ _ _ _ _ _ us hl => match us, hl with | [_], _ => rfl
  have g_check_many : mg "check_many" = some (.ref (He.ga K "check_many")) := He.glo_ok X G (c.fact 1 (f := .glo "check_many") rfl)
  obtain ⟨d_untied_number, D_untied_number⟩ := c.def_ 2 (d := d2) rfl
  have F_untied_number : Fun K "untied_number" "untied_number" sp_untied_number (He.ga K "untied_number") d_untied_number := fun_of D_untied_number
  have b_untied_number : Binds K d_untied_number ["size"] [] := D_untied_number.bindsN fun _ _ _ _ _ _ us hl => match us, hl with | [_], _ => rfl
  have g_untied_number : mg "untied_number" = some (.ref (He.ga K "untied_number")) := He.glo_ok X G (c.fact 2 (f := .glo "untied_number") rfl)
  obtain ⟨d_even_spaces, D_even_spaces⟩ := c.def_ 3 (d := d3) rfl
  have F_even_spaces : Fun K "even_spaces" "even_spaces" sp_even_spaces (He.ga K "even_spaces") d_even_spaces := fun_of D_even_spaces
  have b_even_spaces : Binds K d_even_spaces ["half", "size"] [] := D_even_spaces.bindsN fun _ _ _ _ _ _ us hl => match us, hl with | [_, _], _ => rfl
  have g_even_spaces : mg "even_spaces" = some (.ref (He.ga K "even_spaces")) := He.glo_ok X G (c.fact 3 (f := .glo "even_spaces") rfl)
  obtain ⟨d_family_number, D_family_number⟩ := c.def_ 4 (d := d4) rfl
  have F_family_number : Fun K "family_number" "family_number" sp_family_number (He.ga K "family_number") d_family_number := fun_of D_family_number
  have b_family_number : Binds K d_family_number ["many", "size"] [] := D_family_number.bindsN fun _ _ _ _ _ _ us hl => match us, hl with | [_, _], _ => rfl
  have g_family_number : mg "family_number" = some (.ref (He.ga K "family_number")) := He.glo_ok X G (c.fact 4 (f := .glo "family_number") rfl)
  obtain ⟨d_check_size, D_check_size⟩ := c.def_ 5 (d := d5) rfl
  have F_check_size : Fun K "check_size" "check_size" sp_check_size (He.ga K "check_size") d_check_size := fun_of D_check_size
  have b_check_size : Binds K d_check_size ["size"] [] := D_check_size.bindsN fun _ _ _ _ _ _ us hl => match us, hl with | [_], _ => rfl
  have g_check_size : mg "check_size" = some (.ref (He.ga K "check_size")) := He.glo_ok X G (c.fact 5 (f := .glo "check_size") rfl)
  obtain ⟨d_even_families, D_even_families⟩ := c.def_ 6 (d := d6) rfl
  have F_even_families : Fun K "even_families" "even_families" sp_even_families (He.ga K "even_families") d_even_families := fun_of D_even_families
  have b_even_families : Binds K d_even_families ["many", "size"] [] := D_even_families.bindsN fun _ _ _ _ _ _ us hl => match us, hl with | [_, _], _ => rfl
  have g_even_families : mg "even_families" = some (.ref (He.ga K "even_families")) := He.glo_ok X G (c.fact 6 (f := .glo "even_families") rfl)
  obtain ⟨d_untied_companies, D_untied_companies⟩ := c.def_ 7 (d := d7) rfl
  have F_untied_companies : Fun K "untied_companies" "untied_companies" sp_untied_companies (He.ga K "untied_companies") d_untied_companies := fun_of D_untied_companies
  have b_untied_companies : Binds K d_untied_companies ["size"] [] := D_untied_companies.bindsN fun _ _ _ _ _ _ us hl => match us, hl with | [_], _ => rfl
  have g_untied_companies : mg "untied_companies" = some (.ref (He.ga K "untied_companies")) := He.glo_ok X G (c.fact 7 (f := .glo "untied_companies") rfl)
  obtain ⟨d__law_purse, D__law_purse⟩ := c.def_ 8 (d := d8) rfl
  have F__law_purse : Fun K "_law_purse" "_law_purse" s_purse (He.ga K "_law_purse") d__law_purse := fun_of D__law_purse
  have b__law_purse : Binds K d__law_purse ["_law_script", "_law_at"] [] := D__law_purse.bindsN fun _ _ _ _ _ _ us hl => match us, hl with | [_, _], _ => rfl
  have g__law_purse : mg "_law_purse" = some (.ref (He.ga K "_law_purse")) := He.glo_ok X G (c.fact 8 (f := .glo "_law_purse") rfl)
  obtain ⟨d__law_mixed, D__law_mixed⟩ := c.def_ 9 (d := d9) rfl
  have F__law_mixed : Fun K "_law_mixed" "_law_mixed" s_mixed (He.ga K "_law_mixed") d__law_mixed := fun_of D__law_mixed
  have b__law_mixed : Binds K d__law_mixed ["_law_seed", "_law_turn", "_law_at"] [] := D__law_mixed.bindsN fun _ _ _ _ _ _ us hl => match us, hl with | [_, _, _], _ => rfl
  have g__law_mixed : mg "_law_mixed" = some (.ref (He.ga K "_law_mixed")) := He.glo_ok X G (c.fact 9 (f := .glo "_law_mixed") rfl)
  obtain ⟨d__law_draw, D__law_draw⟩ := c.def_ 10 (d := d10) rfl
  have F__law_draw : Fun K "_law_draw" "_law_draw" s_draw (He.ga K "_law_draw") d__law_draw := fun_of D__law_draw
  have b__law_draw : Binds K d__law_draw ["_law_purse_here", "_law_many"] [] := D__law_draw.bindsN fun _ _ _ _ _ _ us hl => match us, hl with | [_, _], _ => rfl
  have g__law_draw : mg "_law_draw" = some (.ref (He.ga K "_law_draw")) := He.glo_ok X G (c.fact 10 (f := .glo "_law_draw") rfl)
  obtain ⟨d__law_purses, D__law_purses⟩ := c.def_ 11 (d := d11) rfl
  have F__law_purses : Fun K "_law_purses" "_law_purses" s_purses (He.ga K "_law_purses") d__law_purses := fun_of D__law_purses
  have b__law_purses : Binds K d__law_purses ["_law_script", "_law_few"] [] := D__law_purses.bindsN fun _ _ _ _ _ _ us hl => match us, hl with | [_, _], _ => rfl
  have g__law_purses : mg "_law_purses" = some (.ref (He.ga K "_law_purses")) := He.glo_ok X G (c.fact 11 (f := .glo "_law_purses") rfl)
  obtain ⟨d__law_exact, D__law_exact⟩ := c.def_ 12 (d := d12) rfl
  have F__law_exact : Fun K "_law_exact" "_law_exact" s_exact (He.ga K "_law_exact") d__law_exact := fun_of D__law_exact
  have b__law_exact : Binds K d__law_exact ["_law_mine", "_law_theirs"] [] := D__law_exact.bindsN fun _ _ _ _ _ _ us hl => match us, hl with | [_, _], _ => rfl
  have g__law_exact : mg "_law_exact" = some (.ref (He.ga K "_law_exact")) := He.glo_ok X G (c.fact 12 (f := .glo "_law_exact") rfl)
  obtain ⟨d__law_pairs, D__law_pairs⟩ := c.def_ 13 (d := d13) rfl
  have F__law_pairs : Fun K "_law_pairs" "_law_pairs" s_pairs (He.ga K "_law_pairs") d__law_pairs := fun_of D__law_pairs
  have b__law_pairs : Binds K d__law_pairs ["_law_crowd"] [] := D__law_pairs.bindsN fun _ _ _ _ _ _ us hl => match us, hl with | [_], _ => rfl
  have g__law_pairs : mg "_law_pairs" = some (.ref (He.ga K "_law_pairs")) := He.glo_ok X G (c.fact 13 (f := .glo "_law_pairs") rfl)
  obtain ⟨d__law_power, D__law_power⟩ := c.def_ 14 (d := d14) rfl
  have F__law_power : Fun K "_law_power" "_law_power" s_power (He.ga K "_law_power") d__law_power := fun_of D__law_power
  have b__law_power : Binds K d__law_power ["_law_number"] [] := D__law_power.bindsN fun _ _ _ _ _ _ us hl => match us, hl with | [_], _ => rfl
  have g__law_power : mg "_law_power" = some (.ref (He.ga K "_law_power")) := He.glo_ok X G (c.fact 14 (f := .glo "_law_power") rfl)
  obtain ⟨d__law_untied_to, D__law_untied_to⟩ := c.def_ 15 (d := d15) rfl
  have F__law_untied_to : Fun K "_law_untied_to" "_law_untied_to" s_untied_to (He.ga K "_law_untied_to") d__law_untied_to := fun_of D__law_untied_to
  have b__law_untied_to : Binds K d__law_untied_to ["_law_most"] [] := D__law_untied_to.bindsN fun _ _ _ _ _ _ us hl => match us, hl with | [_], _ => rfl
  have g__law_untied_to : mg "_law_untied_to" = some (.ref (He.ga K "_law_untied_to")) := He.glo_ok X G (c.fact 15 (f := .glo "_law_untied_to") rfl)
  obtain ⟨d__law_families, D__law_families⟩ := c.def_ 16 (d := d16) rfl
  have F__law_families : Fun K "_law_families" "_law_families" s_families (He.ga K "_law_families") d__law_families := fun_of D__law_families
  have b__law_families : Binds K d__law_families ["_law_many", "_law_size"] [] := D__law_families.bindsN fun _ _ _ _ _ _ us hl => match us, hl with | [_, _], _ => rfl
  have g__law_families : mg "_law_families" = some (.ref (He.ga K "_law_families")) := He.glo_ok X G (c.fact 16 (f := .glo "_law_families") rfl)
  obtain ⟨d__law_lists, D__law_lists⟩ := c.def_ 17 (d := d17) rfl
  have F__law_lists : Fun K "_law_lists" "_law_lists" s_lists (He.ga K "_law_lists") d__law_lists := fun_of D__law_lists
  have b__law_lists : Binds K d__law_lists ["_law_many"] [] := D__law_lists.bindsN fun _ _ _ _ _ _ us hl => match us, hl with | [_], _ => rfl
  have g__law_lists : mg "_law_lists" = some (.ref (He.ga K "_law_lists")) := He.glo_ok X G (c.fact 17 (f := .glo "_law_lists") rfl)
  obtain ⟨d__law_differ, D__law_differ⟩ := c.def_ 18 (d := d18) rfl
  have F__law_differ : Fun K "_law_differ" "_law_differ" s_differ (He.ga K "_law_differ") d__law_differ := fun_of D__law_differ
  have b__law_differ : Binds K d__law_differ ["_law_first", "_law_second"] [] := D__law_differ.bindsN fun _ _ _ _ _ _ us hl => match us, hl with | [_, _], _ => rfl
  have g__law_differ : mg "_law_differ" = some (.ref (He.ga K "_law_differ")) := He.glo_ok X G (c.fact 18 (f := .glo "_law_differ") rfl)
  obtain ⟨d__law_share, D__law_share⟩ := c.def_ 19 (d := d19) rfl
  have F__law_share : Fun K "_law_share" "_law_share" s_share (He.ga K "_law_share") d__law_share := fun_of D__law_share
  have b__law_share : Binds K d__law_share ["_law_first", "_law_second"] [] := D__law_share.bindsN fun _ _ _ _ _ _ us hl => match us, hl with | [_, _], _ => rfl
  have g__law_share : mg "_law_share" = some (.ref (He.ga K "_law_share")) := He.glo_ok X G (c.fact 19 (f := .glo "_law_share") rfl)
  obtain ⟨d__law_counted_families, D__law_counted_families⟩ := c.def_ 20 (d := d20) rfl
  have F__law_counted_families : Fun K "_law_counted_families" "_law_counted_families" s_counted_families (He.ga K "_law_counted_families") d__law_counted_families := fun_of D__law_counted_families
  have b__law_counted_families : Binds K d__law_counted_families ["_law_many"] [] := D__law_counted_families.bindsN fun _ _ _ _ _ _ us hl => match us, hl with | [_], _ => rfl
  have g__law_counted_families : mg "_law_counted_families" = some (.ref (He.ga K "_law_counted_families")) := He.glo_ok X G (c.fact 20 (f := .glo "_law_counted_families") rfl)
  obtain ⟨d__law_counted_untied, D__law_counted_untied⟩ := c.def_ 21 (d := d21) rfl
  have F__law_counted_untied : Fun K "_law_counted_untied" "_law_counted_untied" s_counted_untied (He.ga K "_law_counted_untied") d__law_counted_untied := fun_of D__law_counted_untied
  have b__law_counted_untied : Binds K d__law_counted_untied ["_law_size"] [] := D__law_counted_untied.bindsN fun _ _ _ _ _ _ us hl => match us, hl with | [_], _ => rfl
  have g__law_counted_untied : mg "_law_counted_untied" = some (.ref (He.ga K "_law_counted_untied")) := He.glo_ok X G (c.fact 21 (f := .glo "_law_counted_untied") rfl)
  obtain ⟨d_law, D_law⟩ := c.def_ 22 (d := d22) rfl
  have F_law : Fun K "law" "law" s_law (He.ga K "law") d_law := fun_of D_law
  have b_law : Binds K d_law ["_law_script"] [] := D_law.bindsN fun _ _ _ _ _ _ us hl => match us, hl with | [_], _ => rfl
  have g_law : mg "law" = some (.ref (He.ga K "law")) := He.glo_ok X G (c.fact 22 (f := .glo "law") rfl)
  have Ta : mg "any" = none := He.free_ok X G (c.fact 39 (f := .free "any") rfl)
  have T : Bt mg := ⟨He.free_ok X G (c.fact 23 (f := .free "sum") rfl), He.free_ok X G (c.fact 24 (f := .free "max") rfl), He.free_ok X G (c.fact 25 (f := .free "min") rfl), He.free_ok X G (c.fact 26 (f := .free "int") rfl), He.free_ok X G (c.fact 27 (f := .free "range") rfl), He.free_ok X G (c.fact 28 (f := .free "len") rfl), He.free_ok X G (c.fact 29 (f := .free "sorted") rfl), He.free_ok X G (c.fact 30 (f := .free "list") rfl), He.free_ok X G (c.fact 31 (f := .free "dict") rfl), He.free_ok X G (c.fact 32 (f := .free "set") rfl), He.free_ok X G (c.fact 33 (f := .free "all") rfl), He.free_ok X G (c.fact 34 (f := .free "zip") rfl), He.free_ok X G (c.fact 35 (f := .free "isinstance") rfl), He.free_ok X G (c.fact 36 (f := .free "str") rfl), He.free_ok X G (c.fact 37 (f := .free "tuple") rfl), He.free_ok X G (c.fact 38 (f := .free "bool") rfl)⟩
  have e := hfa.symm.trans g_law
  cases e
  have b := FunD.bindsA (ps := ["_law_script"]) D_law fun _ _ _ _ _ _ us hl => match us, hl with | [_], _ => rfl
  refine ⟨d_law, fun s v => b s [v] rfl, fun base hIn hNs => ?_⟩
  have G__law_mixed : FnOk P w K mg base CX0 1 (He.ga K "_law_mixed") d__law_mixed ["_law_seed", "_law_turn", "_law_at"] spMixed := ok_mixed F__law_mixed T
  have H__law_mixed : Has P w K mg base 1 "_law_mixed" ["_law_seed", "_law_turn", "_law_at"] spMixed := ⟨_, _, G__law_mixed, g__law_mixed, F__law_mixed.kp, b__law_mixed⟩
  have G__law_draw : FnOk P w K mg base CX0 2 (He.ga K "_law_draw") d__law_draw ["_law_purse_here", "_law_many"] spDraw := ok_draw F__law_draw T F__law_mixed g__law_mixed b__law_mixed
  have H__law_draw : Has P w K mg base 2 "_law_draw" ["_law_purse_here", "_law_many"] spDraw := ⟨_, _, G__law_draw, g__law_draw, F__law_draw.kp, b__law_draw⟩
  have G__law_purses : FnOk P w K mg base CX0 2 (He.ga K "_law_purses") d__law_purses ["_law_script", "_law_few"] (spPurses K) := ok_purses F__law_purses T F__law_purse g__law_purse b__law_purse
  have H__law_purses : Has P w K mg base 2 "_law_purses" ["_law_script", "_law_few"] (spPurses K) := ⟨_, _, G__law_purses, g__law_purses, F__law_purses.kp, b__law_purses⟩
  have G__law_pairs : FnOk P w K mg base CX0 1 (He.ga K "_law_pairs") d__law_pairs ["_law_crowd"] spPairs := ok_pairs F__law_pairs T
  have H__law_pairs : Has P w K mg base 1 "_law_pairs" ["_law_crowd"] spPairs := ⟨_, _, G__law_pairs, g__law_pairs, F__law_pairs.kp, b__law_pairs⟩
  have G__law_exact : FnOk P w K mg base CX0 2 (He.ga K "_law_exact") d__law_exact ["_law_mine", "_law_theirs"] (spExact 1) := ok_exact F__law_exact T g__law_exact b__law_exact 1
  have H__law_exact : Has P w K mg base 2 "_law_exact" ["_law_mine", "_law_theirs"] (spExact 1) := ⟨_, _, G__law_exact, g__law_exact, F__law_exact.kp, b__law_exact⟩
  have G_is_count : FnOk P w K mg base CX0 1 (He.ga K "is_count") d_is_count ["value"] spIsCnt := ok_is_count F_is_count T
  have H_is_count : Has P w K mg base 1 "is_count" ["value"] spIsCnt := ⟨_, _, G_is_count, g_is_count, F_is_count.kp, b_is_count⟩
  have G_check_many : FnOk P w K mg base CX0 2 (He.ga K "check_many") d_check_many ["many"] spMany := ok_check_many F_check_many H_is_count
  have H_check_many : Has P w K mg base 2 "check_many" ["many"] spMany := ⟨_, _, G_check_many, g_check_many, F_check_many.kp, b_check_many⟩
  have G_untied_number : FnOk P w K mg base CX0 1 (He.ga K "untied_number") d_untied_number ["size"] (spN1 15 unI) := ok_untied_number F_untied_number T
  have H_untied_number : Has P w K mg base 1 "untied_number" ["size"] (spN1 15 unI) := ⟨_, _, G_untied_number, g_untied_number, F_untied_number.kp, b_untied_number⟩
  have G_even_spaces : FnOk P w K mg base CX0 1 (He.ga K "even_spaces") d_even_spaces ["half", "size"] (spN2 (fun h s => -1 ≤ h ∧ h ≤ 7 ∧ s ≤ 20) esI) := ok_even_spaces F_even_spaces T
  have H_even_spaces : Has P w K mg base 1 "even_spaces" ["half", "size"] (spN2 (fun h s => -1 ≤ h ∧ h ≤ 7 ∧ s ≤ 20) esI) := ⟨_, _, G_even_spaces, g_even_spaces, F_even_spaces.kp, b_even_spaces⟩
  have G_family_number : FnOk P w K mg base CX0 2 (He.ga K "family_number") d_family_number ["many", "size"] (fun vs H Q _ => ∃ n s : Nat, vs = [.int (n : Int), .int (s : Int)] ∧ n ≤ 15 ∧ s ≤ 15 ∧ Q (.int (famI n s)) H) := ok_family_number F_family_number H_even_spaces
  have H_family_number : Has P w K mg base 2 "family_number" ["many", "size"] (fun vs H Q _ => ∃ n s : Nat, vs = [.int (n : Int), .int (s : Int)] ∧ n ≤ 15 ∧ s ≤ 15 ∧ Q (.int (famI n s)) H) := ⟨_, _, G_family_number, g_family_number, F_family_number.kp, b_family_number⟩
  have G__law_power : FnOk P w K mg base CX0 1 (He.ga K "_law_power") d__law_power ["_law_number"] (spP 200) := ok_power F__law_power T
  have H__law_power : Has P w K mg base 1 "_law_power" ["_law_number"] (spP 200) := ⟨_, _, G__law_power, g__law_power, F__law_power.kp, b__law_power⟩
  have G__law_untied_to : FnOk P w K mg base CX0 2 (He.ga K "_law_untied_to") d__law_untied_to ["_law_most"] spUt := ok_untied_to F__law_untied_to T H__law_power
  have H__law_untied_to : Has P w K mg base 2 "_law_untied_to" ["_law_most"] spUt := ⟨_, _, G__law_untied_to, g__law_untied_to, F__law_untied_to.kp, b__law_untied_to⟩
  have G__law_families0 : FnOk P w K mg base CX0 2 (He.ga K "_law_families") d__law_families ["_law_many", "_law_size"] spFO := ok_families0 F__law_families T H__law_power
  have H__law_families0 : Has P w K mg base 2 "_law_families" ["_law_many", "_law_size"] spFO := ⟨_, _, G__law_families0, g__law_families, F__law_families.kp, b__law_families⟩
  have G__law_families : FnOk P w K mg base CX0 3 (He.ga K "_law_families") d__law_families ["_law_many", "_law_size"] spFW := ok_families F__law_families T H__law_power H__law_families0
  have H__law_families : Has P w K mg base 3 "_law_families" ["_law_many", "_law_size"] spFW := ⟨_, _, G__law_families, g__law_families, F__law_families.kp, b__law_families⟩
  have G_check_size : FnOk P w K mg base CX0 2 (He.ga K "check_size") d_check_size ["size"] spSz := ok_check_size F_check_size H_is_count
  have H_check_size : Has P w K mg base 2 "check_size" ["size"] spSz := ⟨_, _, G_check_size, g_check_size, F_check_size.kp, b_check_size⟩
  have G_even_families : FnOk P w K mg base CX0 3 (He.ga K "even_families") d_even_families ["many", "size"] spEF := ok_even_families F_even_families H_check_many H_check_size H_family_number
  have H_even_families : Has P w K mg base 3 "even_families" ["many", "size"] spEF := ⟨_, _, G_even_families, g_even_families, F_even_families.kp, b_even_families⟩
  have G_untied_companies : FnOk P w K mg base CX0 3 (He.ga K "untied_companies") d_untied_companies ["size"] (spN1 15 unI) := ok_untied_companies F_untied_companies H_check_size H_untied_number
  have H_untied_companies : Has P w K mg base 3 "untied_companies" ["size"] (spN1 15 unI) := ⟨_, _, G_untied_companies, g_untied_companies, F_untied_companies.kp, b_untied_companies⟩
  have G__law_lists : FnOk P w K mg base CX0 1 (He.ga K "_law_lists") d__law_lists ["_law_many"] spLst := ok_lists F__law_lists T
  have H__law_lists : Has P w K mg base 1 "_law_lists" ["_law_many"] spLst := ⟨_, _, G__law_lists, g__law_lists, F__law_lists.kp, b__law_lists⟩
  have G__law_differ : FnOk P w K mg base CX0 1 (He.ga K "_law_differ") d__law_differ ["_law_first", "_law_second"] spDf := ok_differ F__law_differ T
  have H__law_differ : Has P w K mg base 1 "_law_differ" ["_law_first", "_law_second"] spDf := ⟨_, _, G__law_differ, g__law_differ, F__law_differ.kp, b__law_differ⟩
  have G__law_share : FnOk P w K mg base CX0 1 (He.ga K "_law_share") d__law_share ["_law_first", "_law_second"] (spShG K) := ok_share F__law_share T
  have H__law_share : Has P w K mg base 1 "_law_share" ["_law_first", "_law_second"] (spShG K) := ⟨_, _, G__law_share, g__law_share, F__law_share.kp, b__law_share⟩
  have G__law_counted_families : FnOk P w K mg base CX0 5 (He.ga K "_law_counted_families") d__law_counted_families ["_law_many"] spCF := ok_counted_families F__law_counted_families T Ta H__law_lists H__law_share H__law_differ
  have H__law_counted_families : Has P w K mg base 5 "_law_counted_families" ["_law_many"] spCF := ⟨_, _, G__law_counted_families, g__law_counted_families, F__law_counted_families.kp, b__law_counted_families⟩
  have G__law_counted_untied : FnOk P w K mg base CX0 5 (He.ga K "_law_counted_untied") d__law_counted_untied ["_law_size"] spCU := ok_counted_untied F__law_counted_untied T Ta H__law_lists H__law_share H__law_pairs
  have H__law_counted_untied : Has P w K mg base 5 "_law_counted_untied" ["_law_size"] spCU := ⟨_, _, G__law_counted_untied, g__law_counted_untied, F__law_counted_untied.kp, b__law_counted_untied⟩
  exact ok_law F_law T H__law_purses H__law_draw H__law_counted_families H_even_families H__law_exact H_untied_companies H__law_counted_untied H__law_untied_to H__law_families
end Wd
end
section
set_option maxRecDepth 100000
set_option maxHeartbeats 0
open PySem PySem.W PySem.Calls PyProof.Rows
theorem PySem.Challenge.cw_evenfriends_k56_whole_even_families_and_holds : PySem.Challenge.rw_evenfriends_k56_whole_even_families_and.Holds := by
  w_on; o_law
  refine HandSHeadRun.head_imp (r := OpenLaw.row PySem.Challenge.rw_evenfriends_k56_whole_even_families_and) (q := view (OpenLaw.row PySem.Challenge.rw_evenfriends_k56_whole_even_families_and).prog [Wd.lawAt]) (H := Wd.hk) (ob := Wd.ob) (M := 8000) (loose := Wd.nmA) (d := HandSHeadRun.topDef (OpenLaw.row PySem.Challenge.rw_evenfriends_k56_whole_even_families_and).prog Wd.lawAt) (kwd := []) Wd.ob_eq Wd.run
    (by kernel_rfl) (by kernel_rfl) (by kernel_rfl) (by rfl) (by first | assumption | decide +kernel) (by decide +kernel) ⟨rfl, rfl, rfl, rfl, rfl, by decide +kernel⟩ ?hw ?hc
  case hw => w_witness2
  case hc =>
    refine L2.walk_ofE (l := PySem.Challenge.rw_evenfriends_k56_whole_even_families_and) (n := 63) (k := 6) (x := "_law_script") (CX := L2.CX0) rfl (by decide) (by kernel_rfl) ⟨rfl, by decide, by decide⟩ ?F (fun _ _ _ _ z => z)
    intro w mg fa h Y G hmg0
    obtain ⟨K, KX, c, ce⟩ := Y
    have hmg : mg ("law" : PySem.Str) = some (.ref fa) := by
      have e : (HandSHeadRun.topDef (OpenLaw.row PySem.Challenge.rw_evenfriends_k56_whole_even_families_and).prog Wd.lawAt).name = ("law" : PySem.Str) := by kernel_rfl
      rw [← e]
      exact hmg0
    obtain ⟨fd, hb, hF⟩ := Wd.facts (P := (PySem.Challenge.rw_evenfriends_k56_whole_even_families_and).prog) (w := w) KX G hmg c ce
    exact ⟨K, fd, Wd.spLaw K, KX, hb, fun H a ns hl _ hS => ⟨a, ns, rfl, hS, hl, fun _ => rfl⟩, hF⟩
end
