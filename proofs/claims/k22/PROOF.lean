import PyProof.Rows.All
import KE.DataFind
import HandS.Codes
import HandS.Replace
import HandS.StrMore
import HandS.Text
import HandS.RaiseMore
import KE.KIntText
import PyProof.Rows.StrMul
import Wide.All
import OpenK.AllK
import Wide.FinOn
import HandS.ForMost
import HandS.DictComp
import HandS.Wide
import HandS.Style
import HandS.IsInst
import HandS.TupAny
import HandS.NoneIn
import HandS.SetFor
import HandS.Conv
import HandS.Zip
import HandS.SortKw
import HandS.Deep
import KE.DataMinMax
import KE.GoesMore
import KE.KDictZip
import KE.GoesZip
import KE.GoesEnum
import HandS.AnyAll
import HandS.GenOver
import HandS.Strs
import HandS.TupLen
import KE.KeyNested
import PyProof.Rows.TupTab
import HandS.TupMul
import HandS.Words
import HandS.EndTab
import HandS.HeadWalk
import HandS.Defaults
import HandS.Head0
import HandS.Head1
import HandS.Head2
import HandS.HeadEnd
import HandS.HeadHook1
import HandS.HeadHook2
import HandS.HeadHook3
import HandS.HeadHook4
import KE.KStateDown
import KE.KIsAll
import KE.KNestM
import PyProof.GenCompD
import PyProof.WalksMore
import PyProof.ReprRoads
import PySem.Challenge.RW_beltshift_k22_formulas_texts_spoilt
import HandS.Lambda
import KE.KLam
import KE.DataMinKey
import HandS.TryOnly
import HandS.ExcInit
import HandS.WordsExc
import HandS.ExcIs
import HandS.ExcField
import HandS.ExcOwn
import HandS.SetKeys
set_option Elab.async false
set_option linter.all false
set_option maxRecDepth 100000
namespace Mine
open PySem PyProof.Rows L2
def topS (i : Nat) : Stmt := PySem.Challenge.pw_beltshift_k22_formulas_texts_spoilt.main.body.getD i (.Pass ⟨0, 0, 0, 0⟩)
abbrev s_is_name : Stmt := topS 14
abbrev N_is_name : List Str := ["text"]
theorem sc_is_name : FnScope N_is_name ["text"] (defScope s_is_name) := ⟨rfl, rfl, rfl, by decide +kernel, rfl, by decide +kernel, by decide +kernel⟩
abbrev s_number_of : Stmt := topS 15
abbrev N_number_of : List Str := ["text", "figures"]
theorem sc_number_of : FnScope N_number_of ["text"] (defScope s_number_of) := ⟨rfl, rfl, rfl, by decide +kernel, rfl, by decide +kernel, by decide +kernel⟩
abbrev s_read_formulas : Stmt := topS 19
abbrev N_read_formulas : List Str := ["text", "rows", "row", "last", "ins", "was", "rules", "number", "reader", "outs"]
theorem sc_read_formulas : FnScope N_read_formulas ["text"] (defScope s_read_formulas) := ⟨rfl, rfl, rfl, by decide +kernel, rfl, by decide +kernel, by decide +kernel⟩
abbrev s_Reader___init__ : Stmt := inClass (topS 20) 0
abbrev N_Reader___init__ : List Str := ["self", "words", "row"]
theorem sc_Reader___init__ : FnScope N_Reader___init__ ["self", "words", "row"] (defScope s_Reader___init__) := ⟨rfl, rfl, rfl, by decide +kernel, rfl, by decide +kernel, by decide +kernel⟩
abbrev s_Reader_over : Stmt := inClass (topS 20) 1
abbrev N_Reader_over : List Str := ["self"]
theorem sc_Reader_over : FnScope N_Reader_over ["self"] (defScope s_Reader_over) := ⟨rfl, rfl, rfl, by decide +kernel, rfl, by decide +kernel, by decide +kernel⟩
abbrev s_Reader_ahead : Stmt := inClass (topS 20) 2
abbrev N_Reader_ahead : List Str := ["self"]
theorem sc_Reader_ahead : FnScope N_Reader_ahead ["self"] (defScope s_Reader_ahead) := ⟨rfl, rfl, rfl, by decide +kernel, rfl, by decide +kernel, by decide +kernel⟩
abbrev s_Reader_take : Stmt := inClass (topS 20) 3
abbrev N_Reader_take : List Str := ["self", "word"]
theorem sc_Reader_take : FnScope N_Reader_take ["self"] (defScope s_Reader_take) := ⟨rfl, rfl, rfl, by decide +kernel, rfl, by decide +kernel, by decide +kernel⟩
abbrev s_Reader_take_just : Stmt := inClass (topS 20) 4
abbrev N_Reader_take_just : List Str := ["self", "word"]
theorem sc_Reader_take_just : FnScope N_Reader_take_just ["self", "word"] (defScope s_Reader_take_just) := ⟨rfl, rfl, rfl, by decide +kernel, rfl, by decide +kernel, by decide +kernel⟩
abbrev s_Reader_take_name : Stmt := inClass (topS 20) 5
abbrev N_Reader_take_name : List Str := ["self", "word"]
theorem sc_Reader_take_name : FnScope N_Reader_take_name ["self"] (defScope s_Reader_take_name) := ⟨rfl, rfl, rfl, by decide +kernel, rfl, by decide +kernel, by decide +kernel⟩
abbrev s_Reader_take_number : Stmt := inClass (topS 20) 6
abbrev N_Reader_take_number : List Str := ["self", "number"]
theorem sc_Reader_take_number : FnScope N_Reader_take_number ["self"] (defScope s_Reader_take_number) := ⟨rfl, rfl, rfl, by decide +kernel, rfl, by decide +kernel, by decide +kernel⟩
abbrev s_Reader_end : Stmt := inClass (topS 20) 7
abbrev N_Reader_end : List Str := ["self"]
theorem sc_Reader_end : FnScope N_Reader_end ["self"] (defScope s_Reader_end) := ⟨rfl, rfl, rfl, by decide +kernel, rfl, by decide +kernel, by decide +kernel⟩
abbrev s_names_behind : Stmt := topS 21
abbrev N_names_behind : List Str := ["word", "reader", "names"]
theorem sc_names_behind : FnScope N_names_behind ["word", "reader"] (defScope s_names_behind) := ⟨rfl, rfl, rfl, by decide +kernel, rfl, by decide +kernel, by decide +kernel⟩
abbrev s_was_row : Stmt := topS 22
abbrev N_was_row : List Str := ["reader", "name", "things"]
theorem sc_was_row : FnScope N_was_row ["reader"] (defScope s_was_row) := ⟨rfl, rfl, rfl, by decide +kernel, rfl, by decide +kernel, by decide +kernel⟩
abbrev s_rule_row : Stmt := topS 23
abbrev N_rule_row : List Str := ["reader", "name", "tree"]
theorem sc_rule_row : FnScope N_rule_row ["reader"] (defScope s_rule_row) := ⟨rfl, rfl, rfl, by decide +kernel, rfl, by decide +kernel, by decide +kernel⟩
abbrev s_whole_tree : Stmt := topS 24
abbrev N_whole_tree : List Str := ["reader", "one"]
theorem sc_whole_tree : FnScope N_whole_tree ["reader"] (defScope s_whole_tree) := ⟨rfl, rfl, rfl, by decide +kernel, rfl, by decide +kernel, by decide +kernel⟩
abbrev s_pick_tree : Stmt := topS 25
abbrev N_pick_tree : List Str := ["reader", "test", "one"]
theorem sc_pick_tree : FnScope N_pick_tree ["reader"] (defScope s_pick_tree) := ⟨rfl, rfl, rfl, by decide +kernel, rfl, by decide +kernel, by decide +kernel⟩
abbrev s_sum_tree : Stmt := topS 26
abbrev N_sum_tree : List Str := ["reader", "tree", "word"]
theorem sc_sum_tree : FnScope N_sum_tree ["reader"] (defScope s_sum_tree) := ⟨rfl, rfl, rfl, by decide +kernel, rfl, by decide +kernel, by decide +kernel⟩
abbrev s_times_tree : Stmt := topS 27
abbrev N_times_tree : List Str := ["reader", "many", "tree"]
theorem sc_times_tree : FnScope N_times_tree ["reader"] (defScope s_times_tree) := ⟨rfl, rfl, rfl, by decide +kernel, rfl, by decide +kernel, by decide +kernel⟩
abbrev s_small_tree : Stmt := topS 28
abbrev N_small_tree : List Str := ["reader", "word", "name"]
theorem sc_small_tree : FnScope N_small_tree ["reader"] (defScope s_small_tree) := ⟨rfl, rfl, rfl, by decide +kernel, rfl, by decide +kernel, by decide +kernel⟩
abbrev s_bracket_tree : Stmt := topS 29
abbrev N_bracket_tree : List Str := ["reader", "tree"]
theorem sc_bracket_tree : FnScope N_bracket_tree ["reader"] (defScope s_bracket_tree) := ⟨rfl, rfl, rfl, by decide +kernel, rfl, by decide +kernel, by decide +kernel⟩
abbrev s_two_tree : Stmt := topS 30
abbrev N_two_tree : List Str := ["reader", "word", "one", "other"]
theorem sc_two_tree : FnScope N_two_tree ["reader"] (defScope s_two_tree) := ⟨rfl, rfl, rfl, by decide +kernel, rfl, by decide +kernel, by decide +kernel⟩
abbrev s_bells_ago : Stmt := topS 31
abbrev N_bells_ago : List Str := ["reader", "bells"]
theorem sc_bells_ago : FnScope N_bells_ago ["reader"] (defScope s_bells_ago) := ⟨rfl, rfl, rfl, by decide +kernel, rfl, by decide +kernel, by decide +kernel⟩
abbrev s_law_flow : Stmt := topS 33
abbrev N_law_flow : List Str := ["_law_script"]
theorem sc_law_flow : FnScope N_law_flow ["_law_script"] (defScope s_law_flow) := ⟨rfl, rfl, rfl, by decide +kernel, rfl, by decide +kernel, by decide +kernel⟩
abbrev s_law_pick : Stmt := topS 34
abbrev N_law_pick : List Str := ["_law_flow_here", "_law_many", "_law_cell", "_law_digit"]
theorem sc_law_pick : FnScope N_law_pick ["_law_flow_here", "_law_many"] (defScope s_law_pick) := ⟨rfl, rfl, rfl, by decide +kernel, rfl, by decide +kernel, by decide +kernel⟩
abbrev s_law_thing : Stmt := topS 35
abbrev N_law_thing : List Str := ["_law_flow_here"]
theorem sc_law_thing : FnScope N_law_thing ["_law_flow_here"] (defScope s_law_thing) := ⟨rfl, rfl, rfl, by decide +kernel, rfl, by decide +kernel, by decide +kernel⟩
abbrev s_law_shuffled : Stmt := topS 36
abbrev N_law_shuffled : List Str := ["_law_flow_here", "_law_some", "_law_left", "_law_k"]
theorem sc_law_shuffled : FnScope N_law_shuffled ["_law_flow_here", "_law_some"] (defScope s_law_shuffled) := ⟨rfl, rfl, rfl, by decide +kernel, rfl, by decide +kernel, by decide +kernel⟩
abbrev s_law_word : Stmt := topS 37
abbrev N_law_word : List Str := ["_law_flow_here", "_law_most", "_law_letters", "_law_k"]
theorem sc_law_word : FnScope N_law_word ["_law_flow_here", "_law_most"] (defScope s_law_word) := ⟨rfl, rfl, rfl, by decide +kernel, rfl, by decide +kernel, by decide +kernel⟩
abbrev s_law_taken : Stmt := topS 38
abbrev N_law_taken : List Str := []
theorem sc_law_taken : FnScope N_law_taken [] (defScope s_law_taken) := ⟨rfl, rfl, rfl, by decide +kernel, rfl, by decide +kernel, by decide +kernel⟩
abbrev s_law_names : Stmt := topS 39
abbrev N_law_names : List Str := ["_law_flow_here", "_law_many", "_law_names_here", "_law_stem", "_law_k", "_law_name", "_law_spare"]
theorem sc_law_names : FnScope N_law_names ["_law_flow_here", "_law_many"] (defScope s_law_names) := ⟨rfl, rfl, rfl, by decide +kernel, rfl, by decide +kernel, by decide +kernel⟩
abbrev s_law_leaf : Stmt := topS 40
abbrev N_law_leaf : List Str := ["_law_flow_here", "_law_now", "_law_names_here"]
theorem sc_law_leaf : FnScope N_law_leaf ["_law_flow_here", "_law_now", "_law_names_here"] (defScope s_law_leaf) := ⟨rfl, rfl, rfl, by decide +kernel, rfl, by decide +kernel, by decide +kernel⟩
abbrev s_law_tree : Stmt := topS 41
abbrev N_law_tree : List Str := ["_law_flow_here", "_law_room", "_law_now", "_law_names_here", "_law_word_here", "_law_one", "_law_parts"]
theorem sc_law_tree : FnScope N_law_tree ["_law_flow_here", "_law_room", "_law_now", "_law_names_here"] (defScope s_law_tree) := ⟨rfl, rfl, rfl, by decide +kernel, rfl, by decide +kernel, by decide +kernel⟩
abbrev s_law_formulas : Stmt := topS 42
abbrev N_law_formulas : List Str := ["_law_flow_here", "_law_most", "_law_names_here", "_law_ins", "_law_own", "_law_every", "_law_trees", "_law_k", "_law_name", "_law_rules", "_law_was", "_law_outs"]
theorem sc_law_formulas : FnScope N_law_formulas ["_law_flow_here", "_law_most"] (defScope s_law_formulas) := ⟨rfl, rfl, rfl, by decide +kernel, rfl, by decide +kernel, by decide +kernel⟩
abbrev s_law_signs : Stmt := topS 43
abbrev N_law_signs : List Str := ["_law_some"]
theorem sc_law_signs : FnScope N_law_signs [] (defScope s_law_signs) := ⟨rfl, rfl, rfl, by decide +kernel, rfl, by decide +kernel, by decide +kernel⟩
abbrev s_law_is_name : Stmt := topS 44
abbrev N_law_is_name : List Str := ["_law_text_here", "_law_sign"]
theorem sc_law_is_name : FnScope N_law_is_name ["_law_text_here"] (defScope s_law_is_name) := ⟨rfl, rfl, rfl, by decide +kernel, rfl, by decide +kernel, by decide +kernel⟩
abbrev s_law_number : Stmt := topS 45
abbrev N_law_number : List Str := ["_law_text_here", "_law_figures", "_law_sign", "_law_number_here"]
theorem sc_law_number : FnScope N_law_number ["_law_text_here"] (defScope s_law_number) := ⟨rfl, rfl, rfl, by decide +kernel, rfl, by decide +kernel, by decide +kernel⟩
abbrev s_law_put : Stmt := topS 46
abbrev N_law_put : List Str := ["_law_flow_here", "_law_some", "_law_one", "_law_way", "_law_at"]
theorem sc_law_put : FnScope N_law_put ["_law_flow_here", "_law_some", "_law_one"] (defScope s_law_put) := ⟨rfl, rfl, rfl, by decide +kernel, rfl, by decide +kernel, by decide +kernel⟩
abbrev s_law_written : Stmt := topS 47
abbrev N_law_written : List Str := ["_law_flow_here", "_law_tree_here", "_law_level", "_law_own"]
theorem sc_law_written : FnScope N_law_written ["_law_flow_here", "_law_tree_here", "_law_level"] (defScope s_law_written) := ⟨rfl, rfl, rfl, by decide +kernel, rfl, by decide +kernel, by decide +kernel⟩
abbrev s_law_bare : Stmt := topS 48
abbrev N_law_bare : List Str := ["_law_flow_here", "_law_tree_here", "_law_words", "_law_sign"]
theorem sc_law_bare : FnScope N_law_bare ["_law_flow_here", "_law_tree_here"] (defScope s_law_bare) := ⟨rfl, rfl, rfl, by decide +kernel, rfl, by decide +kernel, by decide +kernel⟩
abbrev s_law_text : Stmt := topS 49
abbrev N_law_text : List Str := ["_law_flow_here", "_law_formulas_here", "_law_ins", "_law_was", "_law_rules", "_law_outs", "_law_rows", "_law_thing_here", "_law_name", "_law_things", "_law_kept", "_law_place", "_law_tree_here", "_law_words"]
theorem sc_law_text : FnScope N_law_text ["_law_flow_here", "_law_formulas_here"] (defScope s_law_text) := ⟨rfl, rfl, rfl, by decide +kernel, rfl, by decide +kernel, by decide +kernel⟩
abbrev s_law_gone : Stmt := topS 50
abbrev N_law_gone : List Str := ["_law_words"]
theorem sc_law_gone : FnScope N_law_gone ["_law_words"] (defScope s_law_gone) := ⟨rfl, rfl, rfl, by decide +kernel, rfl, by decide +kernel, by decide +kernel⟩
abbrev s_law_seen : Stmt := topS 51
abbrev N_law_seen : List Str := ["_law_tree_here", "_law_words", "_law_sign"]
theorem sc_law_seen : FnScope N_law_seen ["_law_tree_here", "_law_words", "_law_sign"] (defScope s_law_seen) := ⟨rfl, rfl, rfl, by decide +kernel, rfl, by decide +kernel, by decide +kernel⟩
abbrev s_law_e : Stmt := topS 52
abbrev N_law_e : List Str := ["_law_words", "_law_one", "_law_other", "_law_third"]
theorem sc_law_e : FnScope N_law_e ["_law_words"] (defScope s_law_e) := ⟨rfl, rfl, rfl, by decide +kernel, rfl, by decide +kernel, by decide +kernel⟩
abbrev s_law_s : Stmt := topS 53
abbrev N_law_s : List Str := ["_law_words", "_law_tree_here", "_law_word_here", "_law_other"]
theorem sc_law_s : FnScope N_law_s ["_law_words"] (defScope s_law_s) := ⟨rfl, rfl, rfl, by decide +kernel, rfl, by decide +kernel, by decide +kernel⟩
abbrev s_law_t : Stmt := topS 54
abbrev N_law_t : List Str := ["_law_words", "_law_number_here", "_law_tree_here"]
theorem sc_law_t : FnScope N_law_t ["_law_words"] (defScope s_law_t) := ⟨rfl, rfl, rfl, by decide +kernel, rfl, by decide +kernel, by decide +kernel⟩
abbrev s_law_p : Stmt := topS 55
abbrev N_law_p : List Str := ["_law_words", "_law_word_here", "_law_tree_here", "_law_one", "_law_other", "_law_ago"]
theorem sc_law_p : FnScope N_law_p ["_law_words"] (defScope s_law_p) := ⟨rfl, rfl, rfl, by decide +kernel, rfl, by decide +kernel, by decide +kernel⟩
abbrev s_law_row : Stmt := topS 56
abbrev N_law_row : List Str := ["_law_words", "_law_things", "_law_word_here", "_law_left", "_law_tree_here"]
theorem sc_law_row : FnScope N_law_row ["_law_words"] (defScope s_law_row) := ⟨rfl, rfl, rfl, by decide +kernel, rfl, by decide +kernel, by decide +kernel⟩
abbrev s_law_due : Stmt := topS 57
abbrev N_law_due : List Str := ["_law_text_here", "_law_rows", "_law_row_here", "_law_parts", "_law_k", "_law_words", "_law_names_here", "_law_word_here", "_law_found"]
theorem sc_law_due : FnScope N_law_due ["_law_text_here"] (defScope s_law_due) := ⟨rfl, rfl, rfl, by decide +kernel, rfl, by decide +kernel, by decide +kernel⟩
abbrev s_law_told : Stmt := topS 58
abbrev N_law_told : List Str := ["_law_text_here", "_law_told_here", "e"]
theorem sc_law_told : FnScope N_law_told ["_law_text_here"] (defScope s_law_told) := ⟨rfl, rfl, rfl, by decide +kernel, rfl, by decide +kernel, by decide +kernel⟩
abbrev s_law_spoilt : Stmt := topS 59
abbrev N_law_spoilt : List Str := ["_law_flow_here", "_law_text_here", "_law_way", "_law_signs_here", "_law_sign", "_law_rows", "_law_row_here", "_law_k", "_law_some", "_law_words"]
theorem sc_law_spoilt : FnScope N_law_spoilt ["_law_flow_here", "_law_text_here"] (defScope s_law_spoilt) := ⟨rfl, rfl, rfl, by decide +kernel, rfl, by decide +kernel, by decide +kernel⟩
abbrev s_law : Stmt := topS 60
abbrev N_law : List Str := ["_law_script", "_law_flow_here", "_law_good", "_law_k", "_law_text_here", "_law_j", "_law_one"]
theorem sc_law : FnScope N_law ["_law_script"] (defScope s_law) := ⟨rfl, rfl, rfl, by decide +kernel, rfl, by decide +kernel, by decide +kernel⟩

/-- a def of the text stands, binds and is bound -/
def Dd (K : PySem.W.Frag) (mg : Str → Option Value) (name : Str) (st : Stmt) (ps : List Str) : Prop :=
  ∃ (f : Addr) (fd : FuncData), Fun K name name st f fd ∧ Binds K fd ps [] ∧ mg name = some (.ref f)
/-! ### an own error with fields -/
abbrev s_NoText_init : Stmt := inClass (topS 2) 0
abbrev N_NoText_init : List Str := ["self", "row"]
theorem sc_NoText_init : FnScope N_NoText_init ["self", "row"] (defScope s_NoText_init) := ⟨rfl, rfl, rfl, by decide +kernel, rfl, by decide +kernel, by decide +kernel⟩
structure NsC (K : PySem.W.Frag) (mg : Str → Option Value) (C CB fI : Addr) (fd : FuncData) : Prop where
  gC : mg "NoText" = some (.ref C)
  gB : mg "BeltError" = some (.ref CB)
  T : OexC K C
  nr : PySem.W.findIn K (.ref C) "row" = some none
  iC : PySem.W.findIn K (.ref C) "__init__" = some (some (.ref fI))
  tI : PySem.W.typeIn K (.ref fI) = some (.type "function")
  F : Fun K "__init__" "NoText.__init__" s_NoText_init fI fd
  b : Binds K fd ["self", "row"] []
  te : PySem.W.exmOne K (.ref C) (.ref CB) = some true
  xf : XfC K C
  is_ : ExcC K C
  tc : PySem.W.exmOne K (.ref C) (.ref C) = some true
  kb : PySem.W.kitOne K (.ref C) (.ref CB) = some true
  ko : PySem.W.kitAny K (.ref C) [.ref (He.ga K "NoFormula"), .ref (He.ga K "NoRoom"), .ref (He.ga K "NoShift"), .ref (He.ga K "NoName"), .ref (He.ga K "NoRow")] = some false
/-! ### the table of the signs -/
def twoS : List Str := ["+", "-"]
def signW (z : Str) : Str := if z = "+" then "sum" else "gap"
structure SignsAt (K : PySem.W.Frag) (w : World) (a : Addr) : Prop where
  dict : ∃ es n, KDict K w a es n
  yes : ∀ z ∈ twoS, ∃ t, PySem.W.nsIn K a z = some (some (.str (signW z) t))
  no : ∀ z, z ∉ twoS → PySem.W.nsIn K a z = some none
def figS : Str := "0123456789"
def takV : List V := [.str "in", .str "out", .str "was", .str "if", .str "then", .str "else", .str "most", .str "least"]
def letS : Str := "abcdefghijklmnopqrstuvwxyz"
structure Top (w : World) (K : PySem.W.Frag) (mg : Str → Option Value) (C : Addr) : Prop where
  d_is_name : Dd K mg "is_name" s_is_name ["text"]
  d_number_of : Dd K mg "number_of" s_number_of ["text"]
  d_read_formulas : Dd K mg "read_formulas" s_read_formulas ["text"]
  d_Reader___init__ : ∃ (f : Addr) (fd : FuncData), Fun K "__init__" "Reader.__init__" s_Reader___init__ f fd ∧ Binds K fd ["self", "words", "row"] [] ∧ Mk K C f
  d_Reader_over : ∃ (f : Addr) (fd : FuncData), Fun K "over" "Reader.over" s_Reader_over f fd ∧ Binds K fd ["self"] [] ∧ Meth K C "over" f
  d_Reader_ahead : ∃ (f : Addr) (fd : FuncData), Fun K "ahead" "Reader.ahead" s_Reader_ahead f fd ∧ Binds K fd ["self"] [] ∧ Meth K C "ahead" f
  d_Reader_take : ∃ (f : Addr) (fd : FuncData), Fun K "take" "Reader.take" s_Reader_take f fd ∧ Binds K fd ["self"] [] ∧ Meth K C "take" f
  d_Reader_take_just : ∃ (f : Addr) (fd : FuncData), Fun K "take_just" "Reader.take_just" s_Reader_take_just f fd ∧ Binds K fd ["self", "word"] [] ∧ Meth K C "take_just" f
  d_Reader_take_name : ∃ (f : Addr) (fd : FuncData), Fun K "take_name" "Reader.take_name" s_Reader_take_name f fd ∧ Binds K fd ["self"] [] ∧ Meth K C "take_name" f
  d_Reader_take_number : ∃ (f : Addr) (fd : FuncData), Fun K "take_number" "Reader.take_number" s_Reader_take_number f fd ∧ Binds K fd ["self"] [] ∧ Meth K C "take_number" f
  d_Reader_end : ∃ (f : Addr) (fd : FuncData), Fun K "end" "Reader.end" s_Reader_end f fd ∧ Binds K fd ["self"] [] ∧ Meth K C "end" f
  d_names_behind : Dd K mg "names_behind" s_names_behind ["word", "reader"]
  d_was_row : Dd K mg "was_row" s_was_row ["reader"]
  d_rule_row : Dd K mg "rule_row" s_rule_row ["reader"]
  d_whole_tree : Dd K mg "whole_tree" s_whole_tree ["reader"]
  d_pick_tree : Dd K mg "pick_tree" s_pick_tree ["reader"]
  d_sum_tree : Dd K mg "sum_tree" s_sum_tree ["reader"]
  d_times_tree : Dd K mg "times_tree" s_times_tree ["reader"]
  d_small_tree : Dd K mg "small_tree" s_small_tree ["reader"]
  d_bracket_tree : Dd K mg "bracket_tree" s_bracket_tree ["reader"]
  d_two_tree : Dd K mg "two_tree" s_two_tree ["reader"]
  d_bells_ago : Dd K mg "bells_ago" s_bells_ago ["reader"]
  d_law_flow : Dd K mg "_law_flow" s_law_flow ["_law_script"]
  d_law_pick : Dd K mg "_law_pick" s_law_pick ["_law_flow_here", "_law_many"]
  d_law_thing : Dd K mg "_law_thing" s_law_thing ["_law_flow_here"]
  d_law_shuffled : Dd K mg "_law_shuffled" s_law_shuffled ["_law_flow_here", "_law_some"]
  d_law_word : Dd K mg "_law_word" s_law_word ["_law_flow_here", "_law_most"]
  d_law_taken : Dd K mg "_law_taken" s_law_taken []
  d_law_names : Dd K mg "_law_names" s_law_names ["_law_flow_here", "_law_many"]
  d_law_leaf : Dd K mg "_law_leaf" s_law_leaf ["_law_flow_here", "_law_now", "_law_names_here"]
  d_law_tree : Dd K mg "_law_tree" s_law_tree ["_law_flow_here", "_law_room", "_law_now", "_law_names_here"]
  d_law_formulas : Dd K mg "_law_formulas" s_law_formulas ["_law_flow_here", "_law_most"]
  d_law_signs : Dd K mg "_law_signs" s_law_signs []
  d_law_is_name : Dd K mg "_law_is_name" s_law_is_name ["_law_text_here"]
  d_law_number : Dd K mg "_law_number" s_law_number ["_law_text_here"]
  d_law_put : Dd K mg "_law_put" s_law_put ["_law_flow_here", "_law_some", "_law_one"]
  d_law_written : Dd K mg "_law_written" s_law_written ["_law_flow_here", "_law_tree_here", "_law_level"]
  d_law_bare : Dd K mg "_law_bare" s_law_bare ["_law_flow_here", "_law_tree_here"]
  d_law_text : Dd K mg "_law_text" s_law_text ["_law_flow_here", "_law_formulas_here"]
  d_law_gone : Dd K mg "_law_gone" s_law_gone ["_law_words"]
  d_law_seen : Dd K mg "_law_seen" s_law_seen ["_law_tree_here", "_law_words", "_law_sign"]
  d_law_e : Dd K mg "_law_e" s_law_e ["_law_words"]
  d_law_s : Dd K mg "_law_s" s_law_s ["_law_words"]
  d_law_t : Dd K mg "_law_t" s_law_t ["_law_words"]
  d_law_p : Dd K mg "_law_p" s_law_p ["_law_words"]
  d_law_row : Dd K mg "_law_row" s_law_row ["_law_words"]
  d_law_due : Dd K mg "_law_due" s_law_due ["_law_text_here"]
  d_law_told : Dd K mg "_law_told" s_law_told ["_law_text_here"]
  d_law_spoilt : Dd K mg "_law_spoilt" s_law_spoilt ["_law_flow_here", "_law_text_here"]
  m_all : mg "all" = none
  m_enumerate : mg "enumerate" = none
  m_int : mg "int" = none
  m_isinstance : mg "isinstance" = none
  m_len : mg "len" = none
  m_list : mg "list" = none
  m_range : mg "range" = none
  m_repr : mg "repr" = none
  m_str : mg "str" = none
  m_tuple : mg "tuple" = none
  x_tak : ∃ aT : Addr, mg "TAKEN" = some (.ref aT) ∧ ∀ H : Hp, SqT K H aT takV
  x_len : ∃ t, mg "LONGEST_NAME" = some (.int 6 t)
  x_fig : ∃ t, mg "MOST_FIGURES" = some (.int 9 t)
  x_let : ∃ t, mg "LETTERS" = some (.str letS t)
  x_num : ∃ t, mg "FIGURES" = some (.str figS t)
  x_sg : ∃ aSg : Addr, mg "SIGNS" = some (.ref aSg) ∧ SignsAt K w aSg
  x_mw : ∃ t, mg "MOST_WORDS" = some (.int 40 t)
  x_ns : ∃ fd : FuncData, NsC K mg (He.ga K "NoText") (He.ga K "BeltError") (He.fAd K ("NoText", some "__init__")) fd
  x_NoFormula : mg "NoFormula" = some (.ref (He.ga K "NoFormula"))
  x_NoRoom : mg "NoRoom" = some (.ref (He.ga K "NoRoom"))
  x_NoShift : mg "NoShift" = some (.ref (He.ga K "NoShift"))
  x_NoName : mg "NoName" = some (.ref (He.ga K "NoName"))
  x_NoRow : mg "NoRow" = some (.ref (He.ga K "NoRow"))
  cl : Cls K C
  mgC : mg "Reader" = some (.ref C)
  n_words : NoAttr K C "words"
  n_row : NoAttr K C "row"
  n_at : NoAttr K C "at"

/-! ### heaps -/
def But (f : Addr) (H H' : Hp) : Prop := ∀ b o, H b = some o → b ≠ f → H' b = some o
theorem But.refl {f : Addr} {H : Hp} : But f H H := fun _ _ e _ => e
theorem But.trans {f : Addr} {H H1 H2 : Hp} (a : But f H H1) (b : But f H1 H2) : But f H H2 := fun x o e n => b x o (a x o e n) n
theorem But.upd {f : Addr} {H H1 : Hp} {o : HO} (a : But f H H1) : But f H (upd H1 f o) := fun x u e n => by rw [upd_ne n]; exact a x u e n
theorem But.new {f p : Addr} {H H1 : Hp} {o : HO} (a : But f H H1) (h : H1 p = none) : But f H (L2.upd H1 p o) := fun x u e n => by
  have e1 := a x u e n
  rw [upd_ne (ne_of_none e1 h)]
  exact e1
theorem same_new {H : Hp} {p : Addr} {o : HO} (h : H p = none) : Same H (upd H p o) := fun b u q => by rw [upd_ne (ne_of_none q h)]; exact q
theorem But.same {f : Addr} {H H1 H2 : Hp} (a : But f H H1) (b : Same H1 H2) : But f H H2 := fun x o e n => b x o (a x o e n)
theorem But.seqT {K : PySem.W.Frag} {f a : Addr} {H H1 : Hp} {xs : List V} (b : But f H H1) (h : SqT K H a xs) (n : a ≠ f) : SqT K H1 a xs := by
  rcases h with h | h
  · left
    rcases h with h | ⟨o, h⟩
    · exact .inl (b _ _ h n)
    · exact .inr ⟨o, b _ _ h n⟩
  · exact .inr h
/-- a comprehension without a test -/
theorem yes_in {σ : L2.St} {H : Hp} {A B : Hp → Prop} (h : A H) : tYes σ H (fun b H3 => if b = true then A H3 else B H3) := by
  show (if true = true then A H else B H)
  rw [if_pos rfl]
  exact h
/-! ### the draw -/
/-- the list of the law's draws at f, the script's copy at c -/
def Flow (H : Hp) (f c : Addr) : Prop := ∃ (ns : List Int) (i p q r : Int), H f = some (.lst [.ref c, .int i, .int p, .int q, .int r]) ∧ H c = some (.lst (ns.map V.int)) ∧ 0 ≤ i ∧ 0 ≤ p ∧ 0 ≤ q ∧ q < 2147483647
theorem Flow.new {H : Hp} {f c p : Addr} {o : HO} (h : Flow H f c) (n : H p = none) : Flow (upd H p o) f c := by
  obtain ⟨ns, i, a, q, r, e1, e2, e⟩ := h
  exact ⟨ns, i, a, q, r, same_new n _ _ e1, same_new n _ _ e2, e⟩
theorem Flow.ne {H : Hp} {f c p : Addr} (h : Flow H f c) (n : H p = none) : p ≠ f := by
  obtain ⟨ns, i, a, q, r, e1, _⟩ := h
  exact fun e => by rw [e, e1] at n; cases n
theorem Flow.nec {H : Hp} {f c p : Addr} (h : Flow H f c) (n : H p = none) : p ≠ c := by
  obtain ⟨ns, i, a, q, r, _, e1, _⟩ := h
  exact fun e => by rw [e, e1] at n; cases n
theorem Flow.lst {H : Hp} {f c p : Addr} {o : HO} (h : Flow H f c) (n1 : p ≠ f) (n2 : p ≠ c) : Flow (upd H p o) f c := by
  obtain ⟨ns, i, a, q, r, e1, e2, e⟩ := h
  exact ⟨ns, i, a, q, r, by rw [upd_ne n1.symm]; exact e1, by rw [upd_ne n2.symm]; exact e2, e⟩
theorem Flow.same {H H' : Hp} {f c : Addr} (h : Flow H f c) (s : Same H H') : Flow H' f c := by
  obtain ⟨ns, i, a, q, r, e1, e2, e⟩ := h
  exact ⟨ns, i, a, q, r, s _ _ e1, s _ _ e2, e⟩
theorem Flow.tup {H : Hp} {f c p : Addr} {xs : List V} (h : Flow H f c) (e : H p = some (.tup xs)) : p ≠ f := by
  obtain ⟨ns, i, a, q, r, e1, _⟩ := h
  exact ne_of e e1 (by intro z; cases z)
theorem at_ints {ns : List Int} {i : Int} (h0 : 0 ≤ i) (h1 : i < (ns.length : Int)) : ∃ v : Int, atI (ns.map V.int) i = some (.int v) := by
  have hk : i.toNat < ns.length := by omega
  have ek : i = ((i.toNat : Nat) : Int) := by omega
  have q : atI (ns.map V.int) ((i.toNat : Nat) : Int) = some (.int ns[i.toNat]) := atI_nat (by rw [List.getElem?_map, List.getElem?_eq_getElem hk]; rfl)
  rw [← ek] at q
  exact ⟨_, q⟩
/-- a block by less than it asks -/
theorem PSs.to {X : Cx} {ss : List Stmt} {t : TS} (h : PSs X ss t) (u : TS) (k : ∀ D σ H, u D σ H → t D σ H) : PSs X ss u := ⟨fun pins s σ H D I q => h.run pins s σ H D I (k D σ H q)⟩
theorem if_bl {b : Bool} {A B : Prop} (h1 : b = true → A) (h2 : b = false → B) : if b = true then A else B := by
  cases b
  · rw [if_neg Bool.false_ne_true]; exact h2 rfl
  · rw [if_pos rfl]; exact h1 rfl
/-! ### defs whose callers are showing nothing: a promise that may lean on it (repr of a list or tuple asks) -/
structure FnG (P : Program) (w : World) (K : PySem.W.Frag) (mg : Str → Option Value) (base : Heap) (CX : CXT) (lv : Nat) (fn : Addr) (dat : FuncData) (names : List Str) (sp : Sp) : Prop where
  many : ∀ xs H Q E, sp xs H Q E → xs.length = names.length
  goes : ∀ (A : Around) (outer : List Env) (st : Shared) (H : Hp) (given : Args) (us : List Value) (xs : List V) (Q : VK) (E : XK), Room lv A → A.guards = some [] →
    Env0 P w K mg base A outer st H → BindsTo st dat given (names.zip us) → Vals xs us → sp xs H Q E → codeAny (model P w) A (.call (.ref fn) given) (CR CX outer P w H st Q E) st
theorem FnG.of {P : Program} {w : World} {K : PySem.W.Frag} {mg : Str → Option Value} {base : Heap} {CX : CXT} {lv : Nat} {fn : Addr} {dat : FuncData} {names : List Str} {sp : Sp} (h : FnOk P w K mg base CX lv fn dat names sp) : FnG P w K mg base CX lv fn dat names sp :=
  ⟨h.len, fun A o st H g us xs Q E r _ e b v q => h.run A o st H g us xs Q E r e b v q⟩
section
variable {P : Program} {w : World} {K : PySem.W.Frag} {mg : Str → Option Value} {base : Heap} {CX : CXT} {lv : Nat}
theorem fnG_of {fn : Addr} {nm ql : Str} {pr : Arguments} {bd : List Stmt} {sc : Scope} {d1 d2 d3 d4 d5 d6 d7 : Value} {o1 o2 : Option Addr} {o3 : Array (Option Value)} {N names : List Str} {sp : Sp}
    (at_ : K.lookup fn = some ⟨d7, o2, .func (PySem.W.fnOf nm ql pr bd sc d1 d2 d3 d4 o1 d5 d6), o3⟩) (code : PySem.W.codeIn K d5 ql = true) (S : FnScope N names sc) (many : ∀ xs H Q E, sp xs H Q E → xs.length = names.length)
    (body : ∀ (A : Around) (outer : List Env) (st : Shared) (H : Hp) (xs : List V) (Q : VK) (E : XK), Room lv (A.deeper (envOfC ql sc st.heap.objs.size fn d5)) → (A.deeper (envOfC ql sc st.heap.objs.size fn d5)).guards = some [] → sp xs H Q E →
      ∃ t, PSs (cxOf CX P w K mg base N ql sc fn d5 A outer st H E) bd t ∧ t { nx := fun _ H' => Q .non H', rt := Q } (start N xs) H) :
    FnG P w K mg base CX (lv + 1) fn (PySem.W.fnOf nm ql pr bd sc d1 d2 d3 d4 o1 d5 d6) names sp := by
  refine ⟨many, fun A outer st H given us xs Q E rm gd e0 bnd rel asked => ?_⟩
  have inK : K.In st.heap := e0.mod.kin.keeps fun z u e => (e0.bs z u e).1
  have noL : st.heap.NoLimit := e0.mod.nolimit.keeps fun z u e => (e0.bs z u e).1
  have kinds : ∀ z ∈ names.zip us, sc.names.lookup z.1 = some .local ∨ (sc.names.lookup z.1 = some .cell ∧ ((cellsFrom (st.heap.objs.size + 1) sc.names []).lookup z.1).isSome = true) := by
    intro z hz
    rcases S.par z.1 (List.of_mem_zip (a := z.1) (b := z.2) hz).1 with k | k
    · left; exact k
    · right; exact ⟨k, PySem.W.cellsFrom_some _ _ _ (.inl k)⟩
  refine codeAny_call_function rm.depth (inK _ _ at_) rfl S.co S.gen rfl (PySem.W.codeRec_of inK code) (bnd _ _ _ _ ?_)
  refine wpAny_newFunctionEnv_cells S.kind kinds fun env eenv st1 inn => ?_
  subst eenv
  refine ⟨noL.keeps inn.toInCall.keep, codeAny_func ?_⟩
  obtain ⟨t, der, now⟩ := body A outer st H xs Q E (rm.deeper _) gd asked
  have J0 := inv_start (CX := CX) (E := E) S rm.hd e0 (many _ _ _ _ asked) rel inn
  refine wpAny_mono (der.run [] st1 (start N xs) H _ J0 now) (fun flow st' got => ?_) fun _ _ z => z
  cases flow with
  | ret u =>
    obtain ⟨v, σ', H', J, rv, fine⟩ := got
    exact ⟨v, H', J.os, J.bare, J.base, J.hok, rv, fine⟩
  | next =>
    obtain ⟨σ', H', J, fine⟩ := got
    exact ⟨V.non, H', J.os, J.bare, J.base, J.hok, rfl, fine⟩
  | brk =>
    obtain ⟨_, _, _, no⟩ := got
    exact no.elim
  | cont =>
    obtain ⟨_, _, _, no⟩ := got
    exact no.elim
theorem Fun.okG {nm ql : Str} {st : Stmt} {fn : Addr} {dat : FuncData} {N names : List Str} {sp : Sp} (F : L2.Fun K nm ql st fn dat) (S : FnScope N names (defScope st)) (many : ∀ xs H Q E, sp xs H Q E → xs.length = names.length)
    (body : ∀ (cdv : Value) (A : Around) (outer : List Env) (s : Shared) (H : Hp) (xs : List V) (Q : VK) (E : XK), Room lv (A.deeper (envOfC ql (defScope st) s.heap.objs.size fn cdv)) → (A.deeper (envOfC ql (defScope st) s.heap.objs.size fn cdv)).guards = some [] → sp xs H Q E →
      ∃ t, PSs (cxOf CX0 P w K mg base N ql (defScope st) fn cdv A outer s H E).nox (defBody st) t ∧ t { nx := fun _ H' => Q .non H', rt := Q } (start N xs) H) : FnG P w K mg base CX0 (lv + 1) fn dat names sp := by
  obtain ⟨c1, c2, c3, c4, c5, c6, cdv, c8, c9, rfl, at_, code⟩ := F.ex
  refine fnG_of at_ code S many fun A outer s H xs Q E rm gd asked => ?_
  obtain ⟨t, der, now⟩ := body cdv A outer s H xs Q E rm gd asked
  exact ⟨t, der.nox, now⟩
end
section
variable {X : Cx} {CX : CXT} {lv : Nat} {fn : Addr} {dat : FuncData} {names : List Str} {sp : Sp} {more : List V} {ds : List Value} {E : XK}
theorem goesG {pins : List (Addr × Obj)} {σ : L2.St} {H : Hp} {st : Shared} {Q : VK} {us : List Value} {xs : List V} (F : FnG X.prog X.w X.K X.mg X.base CX lv fn dat names sp) (rm : Room lv X.A) (gd : X.A.guards = some []) (bnd : Binds X.K dat names ds) (dv : Vals more ds) (out : Passes CX X E)
    (J : Inv X pins σ H st) (rel : Vals xs us) (asked : sp (xs ++ more) H Q E) : wpAny (model X.prog X.w) X.A (call (.ref fn) us) (EP X pins σ Q) X.xe st := by
  have rel2 := rel.append dv
  have len2 : (us ++ ds).length = names.length := by
    rw [← rel2.length]
    exact F.many _ _ _ _ asked
  refine wpAny_call (codeAny_mono (F.goes X.A X.stack st H ⟨us, []⟩ (us ++ ds) (xs ++ more) Q E rm gd J.env0 (bnd st us J.kIn len2) rel2 asked) fun res st' got => ?_)
  cases res with
  | error e => exact out pins σ H st e st' J got
  | ok flow =>
    cases flow with
    | ret u => exact J.after got
    | next => exact got.elim
    | brk => exact got.elim
    | cont => exact got.elim
theorem pe_callG {x : Str} {p pos : Pos} {e : Expr} {es : List Expr} {t : TA} (F : FnG X.prog X.w X.K X.mg X.base CX lv fn dat names sp) (rm : Room lv X.A) (gd : X.A.guards = some []) (glob : Gl X x) (here : X.mg x = some (.ref fn)) (kept : PySem.W.keepIn X.K (.ref fn) = true)
    (bnd : Binds X.K dat names ds) (dv : Vals more ds) (out : Passes CX X E) (args : PA X (e :: es) t) (n1 : (x == ("__debug__" : Str)) = false := by decide)
    (n2 : starEach (e :: es) X.env = (false, eval e X.env) :: starEach es X.env := by rfl) (n3 : (backTo pos (starEach es X.env)).any (·.1) = false := by rfl) : PE X (.Call (.Name x p) (e :: es) [] pos) (tCall sp more E t) := by
  refine ⟨fun pins st σ H Q J asked => ?_⟩
  refine wpAny_Call_Name_kw (ld_glob J glob here ?_ n1)
  exact PySem.W.callWith_K (h₀ := X.base) J.ok.mod.kin kept (thn (args.run pos pins st σ H _ J asked) fun us st1 ⟨xs, H1, J1, rel, now⟩ => ⟨J1.kIn, goesG F rm gd bnd dv out J1 rel now⟩) n2 n3
theorem pe_call0G {x : Str} {p pos : Pos} (F : FnG X.prog X.w X.K X.mg X.base CX lv fn dat names sp) (rm : Room lv X.A) (gd : X.A.guards = some []) (glob : Gl X x) (here : X.mg x = some (.ref fn)) (kept : PySem.W.keepIn X.K (.ref fn) = true)
    (bnd : Binds X.K dat names ds) (dv : Vals more ds) (out : Passes CX X E) (n1 : (x == ("__debug__" : Str)) = false := by decide) : PE X (.Call (.Name x p) [] [] pos) (tCall sp more E tNil) := by
  refine ⟨fun pins st σ H Q J asked => ?_⟩
  refine wpAny_Call_Name_kw (ld_glob J glob here ?_ n1)
  exact PySem.W.callWith_K0 J.kIn kept (goesG (us := []) F rm gd bnd dv out J .nil asked)
/-- repr of data -/
def rReprD (K : PySem.W.Frag) : List V → Hp → VK → Prop := fun xs H Q => ∃ (a : Addr) (d : PyData), xs = [.ref a] ∧ Dp K H (.ref a) d ∧ d.showable = true ∧ d.hasDict = false ∧ d.depth ≤ 60 ∧ d.shown.length ≤ sizeLine ∧ Q (.str d.shown) H
theorem call_reprD (gd : X.A.guards = some []) (un : X.A.units + 64 < cLine) : CallR X (.builtin "repr") (rReprD X.K) := by
  intro pins st σ H xs us Q J rel asked
  obtain ⟨a, d, rfl, hd, h1, h2, h3, h4, now⟩ := asked
  obtain ⟨u, rfl, ru⟩ := vals1 rel
  obtain rfl : u = Value.ref a := ru
  obtain ⟨as, rd⟩ := Dp.reads J d _ _ hd rfl
  exact repr_of_reads' rd h1 (PyData.noDict_hsm h2) gd (by omega) (fun _ _ e => e) (fun h' u tk kp => ⟨.str d.shown, H, J.kept (t' := tk) kp, ⟨_, rfl⟩, now⟩) h4
end
/-! ### the law's own call, its code objects' tables told, by a promise that leans on nothing being shown -/
theorem endGT {P : Program} {w : World} {K : PySem.W.Frag} {mg mb : Str → Option Value} {CX : CXT} {lv : Nat} {fn a : Addr} {dat : FuncData} {x : Str} {sp : Sp} {st : Shared} {us : List Value} {ns : List Int} {cs : List (Addr × Addr)}
    (inK : K.In st.heap) (gl : st.heap.Ns mainGlobals mg) (bl : st.heap.Ns builtinsNs mb) (boot : ∀ z : Str, z ≠ "__name__" → mb z = bootBuiltins z) (noL : st.heap.NoLimit) (gens : st.gens = #[])
    (bm : ∃ (m : Addr) (o : Obj), mg "__builtins__" = some (.ref m) ∧ m ≠ builtinsNs ∧ st.heap.get? m = some o ∧ o.cls = .type "module" ∧ o.dict = some builtinsNs ∧ o.data = .plain)
    (tabs : ∀ p ∈ cs, st.heap.get? p.2 = some { cls := .none, data := .fields #[] }) (free : ∀ p ∈ cs, K.lookup p.2 = none) (codes : ∀ p ∈ cs, PySem.W.CodeHd st.heap p.1 p.2)
    (obj : st.heap.get? a = some { cls := .type "list", data := .seq us.toArray }) (iv : IntsAre us ns) (short : ns.length ≤ sizeLine) (rm : Room lv callerA)
    (F : ∀ bs : Heap, K.In bs → bs.Ns mainGlobals mg → (∀ p ∈ cs, LamX.TabB bs mg p.1 p.2) → FnG P w K mg bs CX lv fn dat [x] sp) (bnd : ∀ (z : Shared) (u : Value), BindsTo z dat ⟨[u], []⟩ [(x, u)])
    (asked : ∀ H : Hp, (∀ p ∈ cs, H p.2 = some (.tbl #[])) → SqL K H a (ns.map V.int) → sp [.ref a] H (fun v _ => v = .bl true) fun _ _ _ => False)
    (never : ∀ H e st', CX [] H st (fun _ _ _ => False) e st' → False) :
    codeAny (model P w) callerA (.call (.ref fn) ⟨[.ref a], []⟩) (fun res st' => res = .ok (.ret (.bool true)) ∧ OldK st.heap st'.heap ∧ st'.os = st.os ∧ AllBare st'.gens) st := by
  classical
  have rel := vals_ints iv
  have many := iv.length
  let tb : Addr → Prop := fun b => ∃ p ∈ cs, p.2 = b
  have tObj : ∀ {b : Addr}, tb b → st.heap.get? b = some { cls := .none, data := .fields #[] } := fun {b} ⟨p, hp, e⟩ => e ▸ tabs p hp
  have aT : ¬ tb a := fun h => by
    have z : Data.fields #[] = Data.seq us.toArray _ := congrArg Obj.data (Option.some.inj ((tObj h).symm.trans obj))
    cases z
  have main : ∀ H : Hp, (∀ b, tb b → H b = some (.tbl #[])) → (∀ b, H b = none ∨ tb b ∨ (b = a ∧ K.lookup a = none ∧ ∃ o xs, H b = some (.frz o (.lst xs)))) → SqL K H a (ns.map V.int) → HOk P w H st.heap →
      codeAny (model P w) callerA (.call (.ref fn) ⟨[.ref a], []⟩) (fun res st' => res = .ok (.ret (.bool true)) ∧ OldK st.heap st'.heap ∧ st'.os = st.os ∧ AllBare st'.gens) st := by
    intro H ht trk sq ok
    have kClear : ∀ {b : Addr} {o : Obj}, K.lookup b = some o → H b = none := fun {b o} e => by
      rcases trk b with h | ⟨p, hp, rfl⟩ | ⟨rfl, h, _⟩
      · exact h
      · rw [free p hp] at e; cases e
      · rw [h] at e; cases e
    have dClear : ∀ {b : Addr} {o : Obj}, st.heap.get? b = some o → o.data ≠ .fields #[] → (∀ vs n, o.data ≠ .seq vs n) → H b = none := fun {b o} e n1 n2 => by
      rcases trk b with h | h | ⟨rfl, _⟩
      · exact h
      · rw [tObj h] at e; cases e; exact (n1 rfl).elim
      · rw [obj] at e; cases e; exact (n2 _ _ rfl).elim
    have names : ∀ {b : Addr} {m : Str → Option Value}, st.heap.Ns b m → (hidT st.heap H).Ns b m := by
      rintro b m ⟨u, es, ep, e, d, r⟩
      exact ⟨u, es, ep, hidT_get e (dClear e (by rw [d]; exact fun z => nomatch z) (by rw [d]; exact fun _ _ z => nomatch z)), d, r⟩
    have inB : K.In (hidT st.heap H) := fun b u e => hidT_get (inK b u e) (kClear e)
    have TB : ∀ p ∈ cs, LamX.TabB (hidT st.heap H) mg p.1 p.2 := fun p hp => by
      obtain ⟨o, vs, file, tf, flags, tg, inF, text, tt, e1, r1, r2, r3, rest⟩ := codes p hp
      obtain ⟨m, ob, b1, b2, b3, b4, b5, b6⟩ := bm
      obtain ⟨og, es, ep, eg, dg, _⟩ := gl
      have nG : m ≠ mainGlobals := fun z => by
        rw [z, eg] at b3; cases b3; rw [dg] at b6; cases b6
      have nP : m ≠ p.2 := fun z => by
        rw [z, tabs p hp] at b3; cases b3; cases b6
      refine ⟨⟨o, vs, file, tf, flags, tg, inF, text, tt, hidT_get e1 (dClear e1 (fun z => ?_) (by rw [r2]; exact fun _ _ z => nomatch z)), r1, r2, r3, rest⟩, ⟨m, ob, b1, b2, nG, nP, hidT_get b3 (dClear b3 (by rw [b6]; exact fun z => nomatch z) (by rw [b6]; exact fun _ _ z => nomatch z)), b4, b5, b6⟩, fun z => ?_⟩
      · rw [r2] at z; cases z; simp at r3
      · rw [z, tabs p hp] at eg; cases eg; cases dg
    obtain ⟨mc, l1, l2⟩ := noL
    have env : Env0 P w K mg (hidT st.heap H) callerA [] st H :=
      ⟨rfl, ⟨inB, names gl, ⟨mb, names bl, boot⟩, ⟨mc, names l1, l2⟩⟩, fun b u e => of_hidT e, Nat.le_of_eq (hidT_size _ _), trivial, (fun b z => nomatch z), ok, .of_eq gens⟩
    refine codeAny_mono ((F _ inB (names gl) TB).goes callerA [] st H ⟨[.ref a], []⟩ [.ref a] [.ref a] _ _ rm rfl env (bnd st (.ref a)) (.cons rfl .nil) (asked H (fun p hp => ht _ ⟨p, hp, rfl⟩) sq)) fun res st' got => ?_
    cases res with
    | error e => exact (never H e st' got).elim
    | ok flow =>
      cases flow with
      | next => exact got.elim
      | brk => exact got.elim
      | cont => exact got.elim
      | ret u =>
        obtain ⟨v, H', os, bare, un, ok', rv, now⟩ := got
        obtain rfl : v = V.bl true := now
        obtain rfl : u = Value.bool true := rv
        have stay : ∀ b o, ¬ tb b → st.heap.get? b = some o → st'.heap.get? b = some o := fun b o nb e => by
          rcases trk b with h | h | ⟨_, _, ob, xs, h⟩
          · exact un.keep b o e h (fun z => by cases z) (by simp)
          · exact absurd h nb
          · obtain ⟨f1, _⟩ := ok b _ h
            obtain ⟨f2, _⟩ := ok' b _ (un.frzs b ob _ h)
            rw [e] at f1
            cases f1
            exact f2
        have grown : ∀ p ∈ cs, ∃ more : Array Value, st'.heap.get? p.2 = some { cls := .none, data := .fields more } := fun p hp => by
          obtain ⟨more, z⟩ := un.tbls p.2 #[] (ht _ ⟨p, hp, rfl⟩)
          exact ⟨_, ok' p.2 _ z⟩
        refine ⟨rfl, ⟨fun b o e => ?_, fun b o e => ?_⟩, os, bare⟩
        · by_cases h : tb b
          · obtain ⟨p, hp, rfl⟩ := h
            obtain ⟨more, g⟩ := grown p hp
            rw [tabs p hp] at e
            cases e
            exact .inr (.inl ⟨((codes p hp).tab (tabs p hp)).isCodeTable, rfl, #[], more, rfl, by rw [Array.empty_append]; exact g⟩)
          · exact .inl (stay b o h e)
        · by_cases h : tb b
          · obtain ⟨p, hp, rfl⟩ := h
            obtain ⟨more, g⟩ := grown p hp
            exact ⟨_, g⟩
          · exact ⟨o, stay b o h e⟩
  cases hk : K.lookup a with
  | some u =>
    have e := inK a u hk
    rw [obj] at e
    cases e
    refine main (fun b => if tb b then some (.tbl #[]) else none) (fun b h => if_pos h) (fun b => ?_) (.inr ⟨_, us.toArray, _, hk, rfl, rfl, rfl, by rw [List.size_toArray, many]; exact short, by simpa using rel⟩) fun b z k => ?_
    · by_cases h : tb b
      · exact .inr (.inl h)
      · exact .inl (if_neg h)
    · by_cases h : tb b
      · have k2 := (if_pos h).symm.trans k
        cases k2
        exact tObj h
      · have k2 := (if_neg h).symm.trans k
        cases k2
  | none =>
    refine main (fun b => if b = a then some (.frz { cls := .type "list", data := .seq us.toArray } (.lst (ns.map V.int))) else if tb b then some (.tbl #[]) else none) (fun b h => (if_neg (fun (z : b = a) => aT (by rw [← z]; exact h))).trans (if_pos h)) (fun b => ?_) (.inl (.inr ⟨_, if_pos rfl⟩)) fun b z k => ?_
    · by_cases j : b = a
      · exact .inr (.inr ⟨j, hk, _, _, if_pos j⟩)
      · by_cases h : tb b
        · exact .inr (.inl h)
        · exact .inl ((if_neg j).trans (if_neg h))
    · by_cases j : b = a
      · have k2 := (if_pos j).symm.trans k
        cases k2
        subst j
        exact ⟨obj, by rw [List.length_map]; exact short, us, _, rel, obj⟩
      · have k1 := (if_neg j).symm.trans k
        by_cases h : tb b
        · have k2 := (if_pos h).symm.trans k1
          cases k2
          exact tObj h
        · have k2 := (if_neg h).symm.trans k1
          cases k2
/-- what is known of such a law's promise at the head's heap -/
def LawAtG (l : PySem.W.OpenLaw) (w : World) (K : PySem.W.Frag) (CX : CXT) (lv n : Nat) (x : Str) (mg : Str → Option Value) (fn : Addr) (h : Heap) : Prop :=
  ∃ (dat : FuncData) (cs : List (Addr × Addr)) (sp : Sp), (∀ p ∈ cs, h.get? p.2 = some { cls := .none, data := .fields #[] }) ∧ (∀ p ∈ cs, K.lookup p.2 = none) ∧ (∀ p ∈ cs, PySem.W.CodeHd h p.1 p.2) ∧ (∀ (z : Shared) (u : Value), BindsTo z dat ⟨[u], []⟩ [(x, u)]) ∧
    (∀ (H : Hp) (a : Addr) (ns : List Int), ns.length ≤ n → (∀ z ∈ ns, Builtin.Int.intBits z ≤ 1048576) → (∀ p ∈ cs, H p.2 = some (.tbl #[])) → SqL K H a (ns.map V.int) → sp [.ref a] H (fun v _ => v = .bl true) fun _ _ _ => False) ∧
    ∀ bs : Heap, K.In bs → bs.Ns mainGlobals mg → (∀ p ∈ cs, LamX.TabB bs mg p.1 p.2) → FnG l.prog w K mg bs CX lv fn dat [x] sp
theorem walkGT {l : PySem.W.OpenLaw} {n k : Nat} {q : Program} {loose : List Str} {XP : (Str → Option Value) → Heap → Prop} {YP : World → Heap → Prop} {d : DefRec} {CX : World → CXT} {x : Str}
    (h1 : l.most = some n) (h2 : n ≤ sizeLine) (h3 : d.params.defaults = []) (rm : Room k callerA)
    (F : ∀ (w : World) (mg : Str → Option Value) (fn : Addr) (h : Heap), YP w h → h.Ns mainGlobals mg → mg d.name = some (.ref fn) → ∃ K : PySem.W.Frag, K.In h ∧ LawAtG l w K (CX w) k n x mg fn h)
    (h6 : ∀ (w : World) (H : Hp) (s : Shared) (e : Value) (s' : Shared), CX w [] H s (fun _ _ _ => False) e s' → False) :
    PySem.W.WalkO q loose XP YP l.row.toRowW d [] (fun f vs => PySem.call f vs) := by
  refine Att.attach_callB h1 h3 fun w s₀ s₁ mg mb fn o pm cd doc a us ns G Y ho hd hcd hmg hobj hints hlen hbits hg => ?_
  obtain ⟨K, inK, dat, cs, sp, t1, t2, t3, bnd, ask, got⟩ := F w mg fn _ Y G.T.g hmg
  exact endGT inK G.T.g G.T.b G.T.builtins G.T.nolimit hg G.T.bmain t1 t2 t3 hobj hints (Nat.le_trans hlen h2) rm got bnd (fun H t o => ask H a ns hlen hbits t o) fun H e s' => h6 w H s₁ e s'
/-! ### lists, two by two -/
inductive All2 {α β : Type} (R : α → β → Prop) : List α → List β → Prop
  | nil : All2 R [] []
  | cons {a b as bs} : R a b → All2 R as bs → All2 R (a :: as) (b :: bs)
theorem All2.imp {α β : Type} {R S : α → β → Prop} (h : ∀ a b, R a b → S a b) : ∀ {as bs}, All2 R as bs → All2 S as bs
  | _, _, .nil => .nil
  | _, _, .cons a b => .cons (h _ _ a) (All2.imp h b)
theorem All2.length {α β : Type} {R : α → β → Prop} : ∀ {as bs}, All2 R as bs → as.length = bs.length
  | _, _, .nil => rfl
  | _, _, .cons _ b => congrArg (· + 1) (All2.length b)
theorem All2.snoc {α β : Type} {R : α → β → Prop} {a b} (r : R a b) : ∀ {as bs}, All2 R as bs → All2 R (as ++ [a]) (bs ++ [b])
  | _, _, .nil => .cons r .nil
  | _, _, .cons h t => .cons h (All2.snoc r t)
theorem All2.get {α β : Type} {R : α → β → Prop} {as : List α} {bs : List β} (h : All2 R as bs) : ∀ {i : Nat} {b : β}, bs[i]? = some b → ∃ a, as[i]? = some a ∧ R a b := by
  induction h with
  | nil => intro i b e; cases e
  | cons r t ih =>
    intro i b e
    cases i with
    | zero => cases e; exact ⟨_, rfl, r⟩
    | succ i => exact ih e
theorem All2.getL {α β : Type} {R : α → β → Prop} {as : List α} {bs : List β} (h : All2 R as bs) : ∀ {i : Nat} {a : α}, as[i]? = some a → ∃ b, bs[i]? = some b ∧ R a b := by
  induction h with
  | nil => intro i b e; cases e
  | cons r t ih =>
    intro i b e
    cases i with
    | zero => cases e; exact ⟨_, rfl, r⟩
    | succ i => exact ih e
/-! ### tuples stay -/
def TK (H H' : Hp) : Prop := ∀ b xs, H b = some (.tup xs) → H' b = some (.tup xs)
theorem TK.refl {H : Hp} : TK H H := fun _ _ e => e
theorem TK.trans {H H1 H2 : Hp} (a : TK H H1) (b : TK H1 H2) : TK H H2 := fun x xs e => b x xs (a x xs e)
theorem TK.same {H H' : Hp} (s : Same H H') : TK H H' := fun x xs e => s _ _ e
theorem TK.new {H : Hp} {p : Addr} {o : HO} (n : H p = none) : TK H (upd H p o) := fun x xs e => same_new n _ _ e
theorem TK.lst {H : Hp} {p : Addr} {xs ys : List V} (h : H p = some (.lst xs)) : TK H (upd H p (.lst ys)) := fun x zs e => by
  rw [upd_ne (ne_of e h (by intro z; cases z))]
  exact e
theorem TK.but {H H' : Hp} {f c : Addr} (F : Flow H f c) (b : But f H H') : TK H H' := fun x xs e => b _ _ e (F.tup e)
theorem same_none {H H' : Hp} {p : Addr} (s : Same H H') (n : H' p = none) : H p = none := by
  cases e : H p with
  | none => rfl
  | some o => rw [s _ _ e] at n; cases n
theorem But.none {f p : Addr} {H H' : Hp} (b : But f H H') (n : H' p = Option.none) (h : p ≠ f) : H p = Option.none := by
  cases e : H p with
  | none => rfl
  | some o => rw [b _ _ e h] at n; cases n
theorem But.of {f : Addr} {H H' : Hp} (s : Same H H') : But f H H' := fun _ _ e _ => s _ _ e
/-- a list that was not there is written: what was stays -/
theorem But.own {f p : Addr} {H H1 : Hp} {o : HO} (a : But f H H1) (h : H p = Option.none) : But f H (L2.upd H1 p o) := fun x u e n => by
  rw [upd_ne (ne_of_none e h)]
  exact a x u e n
theorem Same.own {p : Addr} {H H1 : Hp} {o : HO} (a : Same H H1) (h : H p = Option.none) : Same H (L2.upd H1 p o) := fun x u e => by
  rw [upd_ne (ne_of_none e h)]
  exact a x u e
/-! ### loops over any iterator -/
theorem for_it {J : It} {n : Nat} {g : TG} {tb : TS} {D : Ends} {σ : L2.St} {H : Hp} (Pv : Nat → L2.St → Hp → Prop) (h0 : Pv 0 σ H) (go : ∀ i σ H, i < n → Pv i σ H → J.go i H) (st : ∀ σ H, Pv n σ H → J.stop n H)
    (hs : ∀ i x σ H H', i < n → Pv i σ H → J.yld i H x H' → g x σ H' fun σ2 H2 => tb { D with nx := Pv (i + 1), ct := Pv (i + 1), bk := D.nx } σ2 H2) (hd : ∀ σ H, Pv n σ H → D.nx σ H) :
    ∃ W : Nat → Nat → L2.St → Hp → Prop, (∃ m, W 0 m σ H) ∧ ∀ i m σ H, W i m σ H →
      (J.stop i H ∧ D.nx σ H) ∨ (J.go i H ∧ ∃ N : L2.St → Hp → Prop, (∀ σ' H', N σ' H' → ∃ m', m' < m ∧ W (i + 1) m' σ' H') ∧ ∀ x H', J.yld i H x H' → g x σ H' fun σ2 H2 => tb { D with nx := N, ct := N, bk := D.nx } σ2 H2) := by
  refine ⟨fun i m σ H => i + m = n ∧ Pv i σ H, ⟨n, by omega, h0⟩, fun i m σ H ⟨e, p⟩ => ?_⟩
  by_cases k : i < n
  · exact .inr ⟨go i σ H k p, Pv (i + 1), fun σ' H' p' => ⟨m - 1, by omega, by omega, p'⟩, fun x H' y => hs i x σ H H' k p y⟩
  · have z : i = n := by omega
    subst z
    exact .inl ⟨st σ H p, hd σ H p⟩
theorem lc_it {J : It} {n : Nat} {g : TG} {tt : TT} {te : TE} {vs : List Nat} {σ : L2.St} {H1 : Hp} {D : Addr} {Qd : Hp → Prop} (Pv : Nat → Hp → Prop) (h0 : Pv 0 (upd H1 D (.lst []))) (go : ∀ i H, i < n → Pv i H → J.go i H) (st : ∀ H, Pv n H → J.stop n H)
    (hs : ∀ i x H H', i < n → Pv i H → J.yld i H x H' → g x (wipe σ vs) H' fun σ2 H2 => wipe σ2 vs = wipe σ vs ∧ tt σ2 H2 fun b H3 =>
      if b = true then te σ2 H3 fun y H4 => ∃ acc, H4 D = some (.lst acc) ∧ acc.length < sizeLine ∧ Pv (i + 1) (upd H4 D (.lst (acc ++ [y]))) else Pv (i + 1) H3) (hd : ∀ H, Pv n H → Qd H) :
    ∃ W : Nat → Nat → Hp → Prop, (∃ m, W 0 m (upd H1 D (.lst []))) ∧ ∀ i m H, W i m H →
      (J.stop i H ∧ Qd H) ∨ (J.go i H ∧ ∃ Nx : Hp → Prop, (∀ H', Nx H' → ∃ m', m' < m ∧ W (i + 1) m' H') ∧ ∀ x H', J.yld i H x H' → g x (wipe σ vs) H' fun σ2 H2 => wipe σ2 vs = wipe σ vs ∧ tt σ2 H2 fun b H3 =>
        if b = true then te σ2 H3 fun y H4 => ∃ acc, H4 D = some (.lst acc) ∧ acc.length < sizeLine ∧ Nx (upd H4 D (.lst (acc ++ [y]))) else Nx H3) := by
  refine ⟨fun i m H => i + m = n ∧ Pv i H, ⟨n, by omega, h0⟩, fun i m H ⟨e, p⟩ => ?_⟩
  by_cases k : i < n
  · exact .inr ⟨go i H k p, Pv (i + 1), fun H' p' => ⟨m - 1, by omega, by omega, p'⟩, fun x H' y => hs i x H H' k p y⟩
  · have z : i = n := by omega
    subst z
    exact .inl ⟨st H p, hd H p⟩
/-! ### tests -/
theorem if_str {x z : Str} {A B : Prop} (h1 : x = z → A) (h2 : x ≠ z → B) : if decide (V.str x = V.str z) = true then A else B :=
  if_bl (fun e => h1 (V.str.inj (of_decide_eq_true e))) (fun e => h2 (fun q => of_decide_eq_false e (congrArg V.str q)))
theorem inV_strs {x : Str} {zs : List Str} : inV (.str x) (zs.map V.str) = true ↔ x ∈ zs := by
  unfold inV
  induction zs with
  | nil => simp
  | cons z zs ih =>
    rw [List.map_cons, List.any_cons, Bool.or_eq_true, ih, List.mem_cons]
    constructor
    · rintro (h | h)
      · exact .inl (by simpa [eqV] using (show (z == x) = true from h) |> fun k => (eq_of_beq k).symm)
      · exact .inr h
    · rintro (h | h)
      · exact .inl (show (z == x) = true by rw [h]; exact beq_self_eq_true z)
      · exact .inr h
theorem if_in {x : Str} {zs : List Str} {A B : Prop} (h1 : x ∈ zs → A) (h2 : x ∉ zs → B) : if (if false = true then !inV (.str x) (zs.map V.str) else inV (.str x) (zs.map V.str)) = true then A else B := by
  have e : (if false = true then !inV (.str x) (zs.map V.str) else inV (.str x) (zs.map V.str)) = inV (.str x) (zs.map V.str) := if_neg Bool.false_ne_true
  rw [e]
  exact if_bl (fun c => h1 (inV_strs.mp c)) (fun c => h2 (fun k => by rw [inV_strs.mpr k] at c; cases c))
theorem same_seqT {K : PySem.W.Frag} {a : Addr} {H H1 : Hp} {xs : List V} (b : Same H H1) (h : SqT K H a xs) : SqT K H1 a xs := by
  rcases h with h | h
  · left
    rcases h with h | ⟨o, h⟩
    · exact .inl (b _ _ h)
    · exact .inr ⟨o, b _ _ h⟩
  · exact .inr h
theorem little {n : Nat} (h : n ≤ 1000) : n ≤ sizeLine := Nat.le_of_lt (small1000 h)
/-! ### xs[i] op= e -/
def rGetL (K : PySem.W.Frag) : V → V → Hp → VK → Prop := fun o i H Q => ∃ (p : Addr) (xs : List V) (j : Nat) (v : V), o = .ref p ∧ i = .int (j : Nat) ∧ SqL K H p xs ∧ xs[j]? = some v ∧ Q v H
theorem get_list {X : Cx} : PGet X (rGetL X.K) := by
  intro pins st σ H o i ov iv Q J ro ri asked
  obtain ⟨p, xs, j, v, rfl, rfl, hq, hj, now⟩ := asked
  cases ro
  obtain ⟨t, rfl⟩ := ri
  obtain ⟨its, r, pl, hz⟩ := J.list hq
  obtain ⟨u, eu, ru⟩ := r.get hj
  have n1 := (List.getElem?_eq_some_iff.mp hj).1
  have n2 := line63
  exact wpAny_getItem_list pl.isList (by omega) (by omega) (by simpa using eu) ⟨v, H, J, ru, now⟩
/-! ### the same rules, the written part named (so that they fit within comprehensions) -/
section
variable {X : Cx}
theorem ix_listK (K : PySem.W.Frag) (h : X.K = K) : IxR X (rIxL K) := by subst h; exact ix_list
theorem ix_tupK (K : PySem.W.Frag) (h : X.K = K) : IxR X (rIxT K) := by subst h; exact ix_tup
def rLenK (K : PySem.W.Frag) : List V → Hp → VK → Prop := fun xs H Q => ∃ (p : Addr) (ys : List V), xs = [.ref p] ∧ (SqL K H p ys ∨ SqT K H p ys) ∧ Q (.int (ys.length : Nat)) H
theorem call_len_seqK (K : PySem.W.Frag) (h : X.K = K) : CallR X (.builtin "len") (rLenK K) := by subst h; exact call_len_seq
def rListOfK (K : PySem.W.Frag) : List V → Hp → VK → Prop := fun xs H Q => ∃ (p : Addr) (ys : List V), xs = [.ref p] ∧ (SqL K H p ys ∨ SqT K H p ys) ∧ ∀ l, H l = none → Q (.ref l) (upd H l (.lst ys))
theorem call_list_ofK (K : PySem.W.Frag) (h : X.K = K) : CallR X (.type "list") (rListOfK K) := by subst h; exact call_list_of
def rTupOfK (K : PySem.W.Frag) : List V → Hp → VK → Prop := fun xs H Q => ∃ (p : Addr) (ys : List V), xs = [.ref p] ∧ ((SqL K H p ys ∧ ∀ l, H l = none → Q (.ref l) (upd H l (.tup ys))) ∨ (SqT K H p ys ∧ Q (.ref p) H))
theorem call_tuple_ofK (K : PySem.W.Frag) (h : X.K = K) : CallR X (.type "tuple") (rTupOfK K) := by subst h; exact call_tuple_of
theorem op_in_seqK (K : PySem.W.Frag) (h : X.K = K) : OpR X (compareOp .In) (rIn K false) := by subst h; exact op_in_seq
theorem op_notIn_seqK (K : PySem.W.Frag) (h : X.K = K) : OpR X (compareOp .NotIn) (rIn K true) := by subst h; exact op_notIn_seq
theorem sl_listK (K : PySem.W.Frag) (h : X.K = K) : SlR X (rSlL K) := by subst h; exact sl_list
theorem sl_tupAK (K : PySem.W.Frag) (h : X.K = K) : SlR X (rSlA K) := by subst h; exact sl_tupA
theorem op_eqDK (K : PySem.W.Frag) (h : X.K = K) (hu : X.A.units + 64 < cLine) : OpR X (compareOp .Eq) (rEqD K) := by subst h; exact op_eqD hu
theorem op_neDK (K : PySem.W.Frag) (h : X.K = K) (hu : X.A.units + 64 < cLine) : OpR X (compareOp .NotEq) (rNeD K) := by subst h; exact op_neD hu
theorem call_isiKK (K : PySem.W.Frag) (h : X.K = K) : CallR X (.builtin "isinstance") (rIsi K) := by subst h; exact call_isi
theorem cr_allK (K : PySem.W.Frag) (h : X.K = K) (hc : X.calm = true) : CallR X (.builtin "all") (rAll K) := by subst h; exact cr_all hc
theorem cr_anyK (K : PySem.W.Frag) (h : X.K = K) (hc : X.calm = true) : CallR X (.builtin "any") (rAny K) := by subst h; exact cr_any hc
theorem cr_minKK (K : PySem.W.Frag) (h : X.K = K) (hc : X.calm = true) : CallR X (.builtin "min") (rMin K) := by subst h; exact cr_min hc
theorem cr_maxKK (K : PySem.W.Frag) (h : X.K = K) (hc : X.calm = true) : CallR X (.builtin "max") (rMax K) := by subst h; exact cr_max hc
def tTruK (K : PySem.W.Frag) (ta : TE) : TT := fun σ H Q => ta σ H fun x H' => ∃ k, TruV K x H' k ∧ Q k H'
theorem pt_truthK (K : PySem.W.Frag) (h : X.K = K) {a : Expr} {ta : TE} (ha : PE X a ta) (he : ∀ whole, isTrue a X.env whole = (do let v ← whole; standAt a.pos; holding [v] (truthy v))) : PT X a (tTruK K ta) := by subst h; exact pt_truth ha he
theorem get_listK (K : PySem.W.Frag) (h : X.K = K) : PGet X (rGetL K) := by subst h; exact get_list
theorem pg_tupK (K : PySem.W.Frag) (h : X.K = K) {es : List Expr} {k n : Nat} {t : TGs} {pos : Pos} (hc : X.calm = true) (g : PGs X es t)
    (hn : (assignEach es X.env).length = n := by rfl) (hst : (assignEach es X.env).findIdx? (·.1) = none := by rfl) : PG X (.Tuple es k pos) (gTup K n t) := by subst h; exact pg_tup hc g hn hst
theorem pg_unlK (K : PySem.W.Frag) (h : X.K = K) {es : List Expr} {k n : Nat} {t : TGs} {pos : Pos} (hc : X.calm = true) (g : PGs X es t)
    (hn : (assignEach es X.env).length = n := by rfl) (hst : (assignEach es X.env).findIdx? (·.1) = none := by rfl) : PG X (.Tuple es k pos) (gUnl K n t) := by subst h; exact pg_unl hc g hn hst
theorem pi_listK (K : PySem.W.Frag) (h : X.K = K) {tg e : Expr} {te : TE} (he : PE X e te) : PI X tg e (iList K te) := by subst h; exact pi_list he
theorem pi_tupK (K : PySem.W.Frag) (h : X.K = K) {tg e : Expr} {te : TE} (he : PE X e te) : PI X tg e (iTup K te) := by subst h; exact pi_tup he
theorem pe_revLK (K : PySem.W.Frag) (h : X.K = K) {e : Expr} {te : TE} {k : Nat} {p1 p2 p3 pos : Pos} (he : PE X e te) : PE X (.Subscript e (.Slice none none (some (.UnaryOp .USub (.Constant (.int 1) k p1) p2)) p3) pos) (tRevL K te) := by subst h; exact pe_revL he
theorem pe_bmK (K : PySem.W.Frag) (h : X.K = K) {o e : Expr} {es : List Expr} {to : TE} {t : TA} {name : Str} {apos cpos : Pos} {T id : String} {r : V → List V → Hp → VK → Prop}
    (pa : PlainAttrs T) (slot : Slot T name id) (hty : typeOf (.builtin id) = pure (.type "method_descriptor")) (hm : MtR X id r) (ho : PE X o to) (ha : PA X (e :: es) t)
    (n1 : attributeBase o name X.env (eval o X.env) = eval o X.env := by rfl)
    (n2 : ((backTo cpos (starEach (e :: es) X.env)).all (fun x => !x.1) && (backToKw cpos (keywordEach [] X.env)).all (fun x => x.1.isSome) && decide ((e :: es).length + ([] : List Keyword).length + (if ([] : List Keyword).isEmpty then 0 else 1) < 30)) = true := by rfl)
    (n3 : (apos.endLine == cpos.line) = true := by rfl) (n4 : starEach (e :: es) X.env = (false, eval e X.env) :: starEach es X.env := by rfl) (n5 : (backTo cpos (starEach es X.env)).any (·.1) = false := by rfl) :
    PE X (.Call (.Attribute o name apos) (e :: es) [] cpos) (tBM K T r to t) := by subst h; exact pe_bm pa slot hty hm ho ha n1 n2 n3 n4 n5
theorem pe_bm0K (K : PySem.W.Frag) (h : X.K = K) {o : Expr} {to : TE} {name : Str} {apos cpos : Pos} {T id : String} {r : V → List V → Hp → VK → Prop}
    (pa : PlainAttrs T) (slot : Slot T name id) (hty : typeOf (.builtin id) = pure (.type "method_descriptor")) (hm : MtR X id r) (ho : PE X o to)
    (n1 : attributeBase o name X.env (eval o X.env) = eval o X.env := by rfl) (n3 : (apos.endLine == cpos.line) = true := by rfl) : PE X (.Call (.Attribute o name apos) [] [] cpos) (tBM0 K T r to) := by subst h; exact pe_bm0 pa slot hty hm ho n1 n3
theorem op_catAK (K : PySem.W.Frag) (h : X.K = K) : OpR X (binaryOp .Add) (rCatA K) := by subst h; exact op_catA
theorem call_isiTK (K : PySem.W.Frag) (h : X.K = K) : CallR X (.builtin "isinstance") (rIsiT K) := by subst h; exact call_isiT
theorem pi_zipAK (K : PySem.W.Frag) (h : X.K = K) {e e2 : Expr} {ta : TA} {p pos tpos : Pos} {elts : List Expr} {kk : Nat} (hg : Gl X "zip") (hm : X.mg "zip" = none) (ha : PA X [e, e2] ta)
    (hs : starEach [e, e2] X.env = (false, eval e X.env) :: starEach [e2] X.env := by rfl) (hpl : (backTo pos (starEach [e2] X.env)).any (·.1) = false := by rfl) :
    PI X (.Tuple elts kk tpos) (.Call (.Name "zip" p) [e, e2] [] pos) (RZ.iZipA K ta) := by subst h; exact RZ.pi_zipA hg hm ha hs hpl
theorem pi_or {tg e : Expr} {t1 t2 : TI} (h1 : PI X tg e t1) (h2 : PI X tg e t2) : PI X tg e (fun σ H R => t1 σ H R ∨ t2 σ H R) := ⟨fun pins s σ H R I h => h.elim (h1.run pins s σ H R I) (h2.run pins s σ H R I)⟩
theorem pe_fldK (K : PySem.W.Frag) (h : X.K = K) {e : Expr} {ta : TE} {f : Str} {pos : Pos} (he : PE X e ta) (hb : attributeBase e f X.env (eval e X.env) = eval e X.env) : PE X (.Attribute e f pos) (tFld K ta f) := by subst h; exact pe_fld he hb
theorem ps_fldK (K : PySem.W.Frag) (h : X.K = K) {o value : Expr} {ta tv : TE} {f : Str} {pos pos' : Pos} (ha : PE X o ta) (hv : PE X value tv) (hs : swapsWith value (some (.Attribute o f pos')) pos.line X.env = pure false) : PS X (.Assign [.Attribute o f pos'] value pos) (sFld K ta tv f) := by subst h; exact ps_fld ha hv hs
theorem ps_fldaugK (K : PySem.W.Frag) (h : X.K = K) {o value : Expr} {ta tv : TE} {f : Str} {pos tpos : Pos} {op : Operator} {rd : V → V → Hp → VK → Prop} (ha : PE X o ta) (hv : PE X value tv) (hop : InOp X op rd) : PS X (.AugAssign (.Attribute o f tpos) op value pos) (sFldAug K ta tv rd f) := by subst h; exact ps_fldaug ha hv hop
end
section
variable {X : Cx}
theorem cr_sumK (K : PySem.W.Frag) (h : X.K = K) (hc : X.calm = true) : CallR X (.builtin "sum") (rSum K) := by subst h; exact cr_sum hc
end
section
variable {X : Cx}
theorem op_ltTK (K : PySem.W.Frag) (h : X.K = K) (hu : X.A.units < cLine) : OpR X (compareOp .Lt) (rLtT K) := by subst h; exact op_ltT hu
end
section
variable {X : Cx}
theorem cr_sortedRevK (K : PySem.W.Frag) (h : X.K = K) {b : Bool} : CallRK X (.builtin "sorted") [Str.ofString "reverse"] (rSortedKw K b [.bl b]) := by subst h; exact cr_sortedRev
theorem op_inDK (K : PySem.W.Frag) (h : X.K = K) (hu : X.A.units + 65 < cLine) : OpR X (compareOp .In) (rInD K) := by subst h; exact op_inD hu
end
theorem hu65 {A : Around} {k : Nat} (hr : Room k A) : A.units + 65 < cLine := by have := hr.un; omega
section
variable {X : Cx}
/-- x not in t, t a tuple of data of any depth -/
def rNotInDT (K : PySem.W.Frag) : R2 := fun x y H Q => ∃ d ds, Dp K H x d ∧ Dp K H y (.tuple ds) ∧ SeqAt.shaped d = true ∧ SeqAt.shaped (.tuple ds) = true ∧ Q (.bl (!ds.any fun z => PyData.eqv z d)) H
theorem op_notInDTK (K : PySem.W.Frag) (same : X.K = K) (room : X.A.units + 65 < cLine) : OpR X (compareOp .NotIn) (rNotInDT K) := by
  subst same
  intro pins st σ H one many ov mv Q J ro rm asked
  have ⟨d, ds, dpO, dpM, shO, shM, done⟩ := asked
  have ⟨_, readO⟩ := Dp.reads J d one ov dpO ro
  have ⟨_, readM⟩ := Dp.reads J (.tuple ds) many mv dpM rm
  exact SeqAt.notIn_tuple_reads readM readO (SeqAt.canLay_of_shaped shM) (SeqAt.canLay_of_shaped shO) (room_in_shaped shO room) ⟨.bl _, H, J, rfl, done⟩
end
section
variable {X : Cx}
/-- x in t, t a tuple of data of any depth -/
def rInDT (K : PySem.W.Frag) : R2 := fun x y H Q => ∃ d ds, Dp K H x d ∧ Dp K H y (.tuple ds) ∧ SeqAt.shaped d = true ∧ SeqAt.shaped (.tuple ds) = true ∧ Q (.bl (ds.any fun z => PyData.eqv z d)) H
theorem op_inDTK (K : PySem.W.Frag) (same : X.K = K) (room : X.A.units + 65 < cLine) : OpR X (compareOp .In) (rInDT K) := by
  subst same
  intro pins st σ H one many ov mv Q J ro rm asked
  have ⟨d, ds, dpO, dpM, shO, shM, done⟩ := asked
  have ⟨_, readO⟩ := Dp.reads J d one ov dpO ro
  have ⟨_, readM⟩ := Dp.reads J (.tuple ds) many mv dpM rm
  exact SeqAt.in_tuple_reads readM readO (SeqAt.canLay_of_shaped shM) (SeqAt.canLay_of_shaped shO) (room_in_shaped shO room) ⟨.bl _, H, J, rfl, done⟩
end
section
variable {X : Cx}
def rReprG (K : PySem.W.Frag) : List V → Hp → VK → Prop := fun xs H Q => ∃ (x : V) (d : PyData), xs = [x] ∧ Dp K H x d ∧ d.showable = true ∧ d.hasDict = false ∧ d.depth ≤ 60 ∧ d.shown.length ≤ sizeLine ∧ Q (.str d.shown) H
theorem call_reprG (K : PySem.W.Frag) (hk : X.K = K) (gd : X.A.guards = some []) (un : X.A.units + 64 < cLine) : CallR X (.builtin "repr") (rReprG K) := by
  subst hk
  intro pins st σ H xs us Q J rel asked
  obtain ⟨x, d, rfl, hd, h1, h2, h3, h4, now⟩ := asked
  obtain ⟨u, rfl, ru⟩ := vals1 rel
  cases hd with
  | non =>
    obtain rfl : u = Value.none := ru
    exact PySem.P.repr_of_none ⟨.str _, H, J.tok _, ⟨_, rfl⟩, now⟩
  | bl b =>
    obtain rfl : u = Value.bool b := ru
    refine PySem.P.repr_of_bool ⟨.str (PyData.bool b).shown, H, J.tok _, ⟨st.toks, ?_⟩, now⟩
    cases b <;> rfl
  | int i =>
    obtain ⟨t, rfl⟩ := ru
    refine PySem.P.repr_of_int (by simpa [PyData.showable] using h1) ⟨.str (PyData.int i).shown, H, J.tok _, ⟨st.toks, ?_⟩, now⟩
    first | rfl | (simp only [PyData.shown]; rfl)
  | str z =>
    obtain ⟨t, rfl⟩ := ru
    refine PySem.P.repr_of_str ⟨.str (PyData.str z).shown, H, J.tok _, ⟨st.toks, ?_⟩, now⟩ (by simpa only [PyData.shown] using h4)
    first | rfl | (simp only [PyData.shown])
  | lst a b =>
    obtain rfl : u = Value.ref _ := ru
    obtain ⟨as, rd⟩ := Dp.reads J _ _ _ (.lst a b) rfl
    exact repr_of_reads' rd h1 (PyData.noDict_hsm h2) gd (by omega) (fun _ _ e => e) (fun h' u tk kp => ⟨.str _, H, J.kept (t' := tk) kp, ⟨_, rfl⟩, now⟩) h4
  | tup a b =>
    obtain rfl : u = Value.ref _ := ru
    obtain ⟨as, rd⟩ := Dp.reads J _ _ _ (.tup a b) rfl
    exact repr_of_reads' rd h1 (PyData.noDict_hsm h2) gd (by omega) (fun _ _ e => e) (fun h' u tk kp => ⟨.str _, H, J.kept (t' := tk) kp, ⟨_, rfl⟩, now⟩) h4
end
/-! ### for i, x in enumerate(t), t a tuple -/
section
open Sem (wp)
open AutoSeq1 (wpAny_loadPart')
theorem enum_of_tup (t : Addr) (its : Array Value) (n : Nat) (dct : Option Addr) (sl : Array (Option Value)) :
    Meets (Builtin.«enumerate.__new__» ⟨[.type "enumerate", .ref t], []⟩) (fun _ R st => st.heap.get? t = some { cls := .type "tuple", dict := dct, data := .seq its n, slots := sl } ∧
      R (.ok (.ret (.ref (st.heap.push { cls := .type "tuple_iterator", data := .fields #[.ref t, .int 0 0] }).objs.size)))
        { st with heap := (st.heap.push { cls := .type "tuple_iterator", data := .fields #[.ref t, .int 0 0] }).push { cls := .type "enumerate", data := .fields #[.none, .bool false, .ref st.heap.objs.size, rawInt 0, .none, .none] } }) :=
  .of_wp fun prog w A R st asked => by
    obtain ⟨hp, g, d, tk, os⟩ := st; obtain ⟨at_, asked⟩ := asked
    have sub := sub_enumerate
    have hT : Heap.IsTuple (Shared.heap ⟨hp, g, d, tk, os⟩) t its := ⟨_, at_, rfl, n, rfl⟩
    wp_walk using wpAny_loadPart' at_
    refine wpAny_stack_any fun stk => wpAny_pure ?_
    split
    · rename_i c _ _ _ _ _
      cases (c == Value.type "enumerate")
      · wp_walk using wpAny_loadPart' at_, wpAny_pyIter_tuple hT
        exact ⟨_, rfl, asked⟩
      · wp_walk using wpAny_loadPart' at_, wpAny_pyIter_tuple hT
        exact ⟨_, rfl, asked⟩
    · wp_walk using wpAny_loadPart' at_, wpAny_pyIter_tuple hT
      exact ⟨_, rfl, asked⟩
theorem call_enum_tup {prog : Program} {w : World} {A : Around} {E : Value → Shared → Prop} {st : Shared} {t : Addr} {its : Array Value} {Q : Value → Shared → Prop} (hT : st.heap.IsTuple t its)
    (now : ∀ h', IsEnum h' (st.heap.objs.size + 1) st.heap.objs.size 0 .none → h'.IsTupleIter st.heap.objs.size t 0 → h'.objs.size = st.heap.objs.size + 2 →
      (∀ b o, st.heap.get? b = some o → h'.get? b = some o) → Q (.ref (st.heap.objs.size + 1)) { st with heap := h' }) :
    wpAny (model prog w) A (call (.type "enumerate") [.ref t]) Q E st := by
  obtain ⟨⟨c, dct, dt, sl⟩, at_, hc, n, hd⟩ := hT
  replace hc : c = .type "tuple" := hc
  replace hd : dt = .seq its n := hd
  subst hc hd
  refine callType_new F.called_enumerate (by decide) (F.typeCall_enumerate_1 _) (F.newCall_enumerate_1 _) (fun obj => F.args_object_init_2 obj _) F.entry_enumerate_new (enum_of_tup t its n dct sl) ⟨at_, ?_⟩
  have size1 : (st.heap.push { cls := .type "tuple_iterator", data := .fields #[.ref t, .int 0 0] }).objs.size = st.heap.objs.size + 1 := Heap.size_push ..
  show _ ∧ _
  rw [size1]
  have made := Heap.get?_push_size (st.heap.push { cls := .type "tuple_iterator", data := .fields #[.ref t, .int 0 0] }) (o := { cls := .type "enumerate", data := .fields #[.none, .bool false, .ref st.heap.objs.size, rawInt 0, .none, .none] }) rfl
  rw [size1] at made
  exact ⟨⟨_, made, rfl⟩, now _ made ⟨_, Heap.get?_push_of_some _ (Heap.get?_push_size _ rfl), rfl, rfl⟩ (by rw [Heap.size_push, size1]) fun b o e => Heap.get?_push_of_some _ (Heap.get?_push_of_some _ e)⟩
end
/-- the tuple at a, each item in a new pair -/
def IteT (K : PySem.W.Frag) (a : Addr) (xs : List V) : It :=
  ⟨fun i H => SqT K H a xs ∧ i < xs.length, fun i H v H' => ∃ T x, v = .ref T ∧ H T = none ∧ H' = upd H T (.tup [.int (i : Nat), x]) ∧ xs[i]? = some x, fun i H => SqT K H a xs ∧ i = xs.length⟩
theorem turn_enumT {P : Program} {w : World} {K : PySem.W.Frag} {elts : List Expr} {kk : Nat} {tpos : Pos} (a e it : Addr) (xs : List V) :
    Turn P w K (.Tuple elts kk tpos) (IteT K a xs) [e, it] e (fun i h => (∃ old, IsEnum h e it ((i : Nat) : Int) old) ∧ h.IsTupleIter it a i ∧ e ≠ it ∧ a ≠ it ∧ a ≠ e) where
  mem := by simp
  obj := fun i h st b hb => by
    obtain ⟨⟨old, he⟩, ⟨o, ho, hc, hd⟩, _⟩ := st
    have either : b = e ∨ b = it := by simpa using hb
    rcases either with z | z
    · rw [z]; exact ⟨_, he, fun v q => nomatch q⟩
    · rw [z]; exact ⟨o, ho, fun v q => by rw [hd] at q; cases q⟩
  keep := fun i h h' st k => let ⟨⟨old, he⟩, hi, apart⟩ := st; ⟨⟨old, k e (by simp) _ he⟩, hi.at fun o q => k it (by simp) o q, apart⟩
  item := by
    intro X hP hw hK hc i pins st σ H E J hf stt going
    subst hP hw hK
    obtain ⟨⟨old, he⟩, hit, n1, n2, n3⟩ := stt
    obtain ⟨hq, hi⟩ := going
    obtain ⟨its, rv, tup, hz⟩ := J.tuple hq
    have len := rv.length
    have el : e < st.heap.objs.size := Heap.lt_size he
    have il : it < st.heap.objs.size := by obtain ⟨_, q, _⟩ := hit; exact Heap.lt_size q
    have D := Draws.tuple (prog := X.prog) (w := X.w) (A := X.A.in1) (J.ok.hd hc) it a n2 its.toArray
    refine wpAny_pyNext_enum_itemD D he ⟨hit, tup⟩ (by rw [List.size_toArray]; omega) n1 (by simp [n1, n3.symm]) fun u h' tk px out stt' new size kp => ?_
    refine ⟨_, rfl, wpAny_letOwnedTupleGo_enum (s := { st with heap := h', toks := tk + 1 }) out fun h'' he' sb => ?_⟩
    obtain ⟨x, hx⟩ : ∃ x, xs[i]? = some x := ⟨_, List.getElem?_eq_getElem hi⟩
    obtain ⟨u', hu', ru⟩ := rv.get hx
    have eu : u' = u := by
      have px : its.toArray[i]? = some u := px
      rw [List.getElem?_toArray, hu'] at px
      exact Option.some.inj px
    subst eu
    have there : h''.get? st.heap.objs.size = some { cls := .type "tuple", data := .seq #[.int i tk, u'] } := (sb.2 _ (Nat.ne_of_gt el)).trans new
    have ok2 : ObjOk X.prog X.w (upd H st.heap.objs.size (.tup [.int (i : Nat), x])) h'' st.heap.objs.size (.tup [.int (i : Nat), x]) :=
      ⟨by show 2 ≤ sizeLine; decide, [.int i tk, u'], .cons ⟨_, rfl⟩ (.cons ru .nil), ⟨_, there, rfl, _, rfl⟩⟩
    have J1 : Inv X pins σ (upd H st.heap.objs.size (.tup [.int (i : Nat), x])) { st with heap := h'', toks := tk + 1 } :=
      J.turnedNew (ch := [e, it]) (fun b ob hb q => (sb.2 b (fun z => hb (by simp [z]))).trans (kp b ob (fun z => hb (by simp [z])) (fun z => hb (by simp [z])) q)) hf (Nat.le_refl _) ok2
    refine ⟨.ref st.heap.objs.size, _, J1, rfl, ⟨_, x, rfl, J.hok.fresh (Nat.le_refl _), rfl, hx⟩, ⟨⟨u', ?_⟩, stt'.1.at fun o q => (sb.2 it (Ne.symm n1)).trans q, n1, n2, n3⟩, fun b hb => ?_⟩
    · rw [show ((i + 1 : Nat) : Int) = (i : Int) + 1 by omega]
      exact he'
    · have bl : b < st.heap.objs.size := by
        have either : b = e ∨ b = it := by simpa using hb
        rcases either with z | z
        · rw [z]; exact el
        · rw [z]; exact il
      rw [upd_ne (Nat.ne_of_lt bl)]
      exact (hf b hb).1
  done := by
    intro X hP hw hK hc i pins st σ H E J hf stt over
    subst hP hw hK
    obtain ⟨⟨old, he⟩, hit, n1, n2, n3⟩ := stt
    obtain ⟨hq, hi⟩ := over
    obtain ⟨its, rv, tup, hz⟩ := J.tuple hq
    obtain ⟨f0, f1, f2, f3, f4, f5⟩ := hf it (by simp)
    have len := rv.length
    have D := Draws.tuple (prog := X.prog) (w := X.w) (A := X.A.in1) (J.ok.hd hc) it a n2 its.toArray
    have ei : its.toArray.size = i := by rw [List.size_toArray]; omega
    exact wpAny_pyNext_enum_endD D he ⟨by rw [ei]; exact hit, tup⟩ fun h' eb => ⟨rfl, J.turned (t' := st.toks) (fun b o hb q => eb b o hb q) f0 f1 f3 f4 f5⟩
  self := fun A i st Q E stt now => let ⟨⟨_, he⟩, _⟩ := stt; wpAny_pyIter_enum he now
def iEnumT (K : PySem.W.Frag) (ta : TA) : TI := fun σ H R => ta σ H fun vs H1 => ∃ a xs, vs = [.ref a] ∧ SqT K H1 a xs ∧ R (IteT K a xs) H1
theorem pi_enumT (K : PySem.W.Frag) {X : Cx} (hk : X.K = K) {e : Expr} {ta : TA} {p pos tpos : Pos} {elts : List Expr} {kk : Nat} (hg : Gl X "enumerate") (hm : X.mg "enumerate" = none) (ha : PA X [e] ta) (hs : starEach [e] X.env = [(false, eval e X.env)] := by rfl) :
    PI X (.Tuple elts kk tpos) (.Call (.Name "enumerate" p) [e] [] pos) (iEnumT K ta) := by
  subst hk
  refine ⟨fun pins st σ H R J asked => ?_⟩
  refine Call_ (ld_blt J hg hm boot_enumerate (PyProof.Rows.callWith_type1 (thn (ha.run pos pins st σ H _ J asked) fun us st1 ⟨vs, H1, J1, rel, now⟩ => ?_) hs rfl))
  obtain ⟨a, xs, ex, hq, now⟩ := now
  subst ex
  obtain ⟨u, rfl, ru⟩ := vals1 rel
  obtain rfl : u = Value.ref a := ru
  obtain ⟨its, rv, tup, hz⟩ := J1.tuple hq
  have al : a < st1.heap.objs.size := by obtain ⟨o, ho, _⟩ := tup; exact Heap.lt_size ho
  refine call_enum_tup tup fun h' he hit size kp => wpAny_pyIter_enum he ?_
  have J2 : Inv X pins σ H1 { st1 with heap := h' } := J1.kept (t' := st1.toks) kp
  refine ⟨st1.heap.objs.size + 1, [st1.heap.objs.size + 1, st1.heap.objs.size], _, _, H1, rfl, J2, turn_enumT a (st1.heap.objs.size + 1) st1.heap.objs.size xs, ⟨⟨.none, he⟩, hit, Nat.succ_ne_self _, Nat.ne_of_lt al, Nat.ne_of_lt (Nat.lt_succ_of_lt al)⟩, fun b hb => ?_, now⟩
  have either : b = st1.heap.objs.size + 1 ∨ b = st1.heap.objs.size := by simpa using hb
  have low : st1.heap.objs.size ≤ b := by
    rcases either with z | z
    · rw [z]; exact Nat.le_add_right _ _
    · rw [z]; exact Nat.le_refl _
  exact J1.fpOk low (J1.hok.fresh low)
theorem pi_enumK (K : PySem.W.Frag) (h : X.K = K) {e : Expr} {ta : TA} {p pos tpos : Pos} {elts : List Expr} {kk : Nat} (hg : Gl X "enumerate") (hm : X.mg "enumerate" = none) (ha : PA X [e] ta) (hs : starEach [e] X.env = [(false, eval e X.env)] := by rfl) :
    PI X (.Tuple elts kk tpos) (.Call (.Name "enumerate" p) [e] [] pos) (iEnum K ta) := by subst h; exact pi_enum hg hm ha hs
/-! ### dict(zip(xs, ys)), xs a list, ys a tuple -/
section
open Sem (wp)
variable {prog : Program} {w : World} {A : Around} {E : Value → Shared → Prop} {st : Shared} {z TI TO T i1 i2 : Addr} {fp1 fp2 : List Addr} {n1 n2 i : Nat} {P1 P2 : Nat → Value → Prop} {S1 S2 : Nat → Heap → Prop} {f : Bool} {oT : Obj}
theorem out_next (S : ZipSep2 z TI TO i1 i2 fp1 fp2) (D1 : Draws prog w A i1 fp1 n1 P1 S1) (D2 : Draws prog w A i2 fp2 n2 P2 S2) {Q : Value → Shared → Prop}
    (out : IsZipHeld st.heap z TI TO T f) (hT : st.heap.get? T = some oT) (both : IsTupOf2 st.heap TI (.ref i1) (.ref i2)) (at1 : S1 i st.heap) (at2 : S2 i st.heap) (l1 : i < n1) (l2 : i < n2)
    (now : ∀ x y h' tk, P1 i x → P2 i y → IsZipHeld h' z TI TO T true → S1 (i + 1) h' → S2 (i + 1) h' → IsTupOf2 h' st.heap.objs.size x y → (∀ c o, c ≠ z → c ≠ i1 → c ≠ i2 → st.heap.get? c = some o → h'.get? c = some o) → Q (.ref st.heap.objs.size) { st with heap := h', toks := tk }) :
    wpAny (model prog w) A (Builtin.«zip.__next__» ⟨[.ref z], []⟩) (fun fin s' => ∃ v, fin = .done (.ret v) ∧ Q v s') E st := by
  obtain ⟨hp, g, d, tk0, os⟩ := st
  show wpAny _ _ (field (.ref z) 2 >>= _) _ _ _; refine wpAny_bind (wpAny_field out rfl (x := .bool false) rfl ?_)
  show wpAny _ _ (field (.ref z) 3 >>= _) _ _ _; refine wpAny_bind (wpAny_field out rfl (x := .ref TI) rfl ?_)
  refine wpAny_bind (wpAny_seqItems both rfl ?_); show wpAny _ _ (Builtin.SmallTypes.ownedTupleIsFree (.ref z) >>= _) _ _ _
  refine wpAny_bind (wpAny_tupleHeld_zip out hT fun g1 out1 b1 => ?_)
  replace b1 : Heap.SameBut z hp g1 := b1
  simp only [Bool.false_eq_true, if_false]; refine wpAny_bind ?_; rw [← Array.forIn_toList]; simp only [List.forIn_cons, List.forIn_nil]
  refine wpAny_bind (wpAny_bind (wpAny_holding ?_)); show wpAny _ _ (Builtin.SmallTypes.nextOf (.ref i1) >>= _) _ _ ⟨g1, g, d, tk0, os⟩
  refine wpAny_bind (D1.item i _ _ _ l1 (D1.over at1 b1 S.zf1) fun x g2 tk1 px n1' b2 => wpAny_pure ?_)
  replace b2 : Heap.SameBut i1 g1 g2 := b2
  refine wpAny_pure ?_; refine wpAny_bind (wpAny_bind (wpAny_holding ?_)); show wpAny _ _ (Builtin.SmallTypes.nextOf (.ref i2) >>= _) _ _ ⟨g2, g, d, tk1, os⟩
  refine wpAny_bind (D2.item i _ _ _ l2 (D2.over (D2.over at2 b1 S.zf2) b2 S.sep1_2) fun y g3 tk2 py n2' b3 => wpAny_pure ?_)
  replace b3 : Heap.SameBut i2 g2 g3 := b3
  refine wpAny_pure (wpAny_pure ?_); show wpAny _ _ (newTuple [x, y] >>= _) _ _ ⟨g3, g, d, tk2, os⟩
  refine wpAny_bind (wpAny_newTuple ?_); refine wpAny_pure ⟨_, rfl, ?_⟩
  have size : g3.objs.size = hp.objs.size := by rw [b3.1, b2.1, b1.1]
  have out3 : IsZipHeld g3 z TI TO T true := b3.extBut _ _ S.zi2 (b2.extBut _ _ S.zi1 out1)
  have new : IsTupOf2 (g3.push { cls := .type "tuple", data := .seq #[x, y] }) g3.objs.size x y := Heap.get?_push_size _ rfl
  show Q (.ref g3.objs.size) _
  rw [size] at new ⊢
  exact now x y _ tk2 px py (Heap.get?_push_of_some _ out3) (D1.frame _ _ _ (D1.over n1' b3 S.sep2_1) fun _ _ _ q => Heap.get?_push_of_some _ q) (D2.frame _ _ _ n2' fun _ _ _ q => Heap.get?_push_of_some _ q) new
    fun c o c1 c2 c3 q => Heap.get?_push_of_some _ (b3.extBut _ _ c3 (b2.extBut _ _ c2 (b1.extBut _ _ c1 q)))
theorem out_end (S : ZipSep2 z TI TO i1 i2 fp1 fp2) (D1 : Draws prog w A i1 fp1 n1 P1 S1) (D2 : Draws prog w A i2 fp2 n2 P2 S2) {Q : Fin → Shared → Prop}
    (out : IsZipHeld st.heap z TI TO T f) (hT : st.heap.get? T = some oT) (both : IsTupOf2 st.heap TI (.ref i1) (.ref i2)) (at1 : S1 i st.heap) (at2 : S2 i st.heap) (l1 : i ≤ n1) (l2 : i ≤ n2) (last : i = n1 ∨ i = n2)
    (now : ∀ h' tk e, (∀ c o, c ≠ z → c ≠ i1 → c ≠ i2 → st.heap.get? c = some o → h'.get? c = some o) → (∃ o, h'.get? e = some o ∧ o.cls = .type "StopIteration") → E (.ref e) { st with heap := h', toks := tk }) :
    wpAny (model prog w) A (Builtin.«zip.__next__» ⟨[.ref z], []⟩) Q E st := by
  obtain ⟨hp, g, d, tk0, os⟩ := st
  show wpAny _ _ (field (.ref z) 2 >>= _) _ _ _; refine wpAny_bind (wpAny_field out rfl (x := .bool false) rfl ?_)
  show wpAny _ _ (field (.ref z) 3 >>= _) _ _ _; refine wpAny_bind (wpAny_field out rfl (x := .ref TI) rfl ?_)
  refine wpAny_bind (wpAny_seqItems both rfl ?_); show wpAny _ _ (Builtin.SmallTypes.ownedTupleIsFree (.ref z) >>= _) _ _ _
  refine wpAny_bind (wpAny_tupleHeld_zip out hT fun g1 out1 b1 => ?_)
  replace b1 : Heap.SameBut z hp g1 := b1
  simp only [Bool.false_eq_true, if_false]; refine wpAny_bind ?_; rw [← Array.forIn_toList]; simp only [List.forIn_cons, List.forIn_nil]
  refine wpAny_bind (wpAny_bind (wpAny_holding ?_)); show wpAny _ _ (Builtin.SmallTypes.nextOf (.ref i1) >>= _) _ _ ⟨g1, g, d, tk0, os⟩
  by_cases more : i < n1
  · refine wpAny_bind (D1.item i _ _ _ more (D1.over at1 b1 S.zf1) fun x g2 tk1 px n1' b2 => wpAny_pure ?_)
    replace b2 : Heap.SameBut i1 g1 g2 := b2
    refine wpAny_pure ?_; refine wpAny_bind (wpAny_bind (wpAny_holding ?_)); show wpAny _ _ (Builtin.SmallTypes.nextOf (.ref i2) >>= _) _ _ ⟨g2, g, d, tk1, os⟩
    have e2 : i = n2 := by omega
    subst e2
    refine wpAny_bind (D2.done _ _ _ (D2.over (D2.over at2 b1 S.zf2) b2 S.sep1_2) fun g3 e b3 he => ?_)
    exact now g3 tk1 e (fun c o c1 c2 c3 q => b3 _ _ c3 (b2.extBut _ _ c2 (b1.extBut _ _ c1 q))) he
  · have e1 : i = n1 := by omega
    subst e1
    refine wpAny_bind (D1.done _ _ _ (D1.over at1 b1 S.zf1) fun g3 e b3 he => ?_)
    exact now g3 tk0 e (fun c o c1 c2 c3 q => b3 _ _ c2 (b1.extBut _ _ c1 q)) he
theorem out_pyNext (S : ZipSep2 z TI TO i1 i2 fp1 fp2) (D1 : Draws prog w A.in1 i1 fp1 n1 P1 S1) (D2 : Draws prog w A.in1 i2 fp2 n2 P2 S2) {Q : Option Value → Shared → Prop}
    (out : IsZipHeld st.heap z TI TO T f) (hT : st.heap.get? T = some oT) (both : IsTupOf2 st.heap TI (.ref i1) (.ref i2)) (at1 : S1 i st.heap) (at2 : S2 i st.heap) (l1 : i < n1) (l2 : i < n2)
    (now : ∀ x y h' tk, P1 i x → P2 i y → IsZipHeld h' z TI TO T true → S1 (i + 1) h' → S2 (i + 1) h' → IsTupOf2 h' st.heap.objs.size x y → (∀ c o, c ≠ z → c ≠ i1 → c ≠ i2 → st.heap.get? c = some o → h'.get? c = some o) → Q (some (.ref st.heap.objs.size)) { st with heap := h', toks := tk }) :
    wpAny (model prog w) A (pyNext (.ref z)) Q E st := by
  have ty : st.TypeIs (.ref z) "zip" := ⟨_, out, rfl⟩
  unfold pyNext
  refine wpAny_bind (wpAny_attempt (wpAny_callSpecial?_slot (name := Str.ofString "__next__") ty F.slot_zip_next (wpAny_call_entry F.slot_zip_next ty F.entry_zip_next (out_next S D1 D2 out hT both at1 at2 l1 l2 ?_) (F.args_zip_next_1 _))))
  exact fun x y h' tk a b c d e g k => wpAny_pure (now x y h' tk a b c d e g k)
theorem out_pyNext_end (S : ZipSep2 z TI TO i1 i2 fp1 fp2) (D1 : Draws prog w A.in1 i1 fp1 n1 P1 S1) (D2 : Draws prog w A.in1 i2 fp2 n2 P2 S2) {Q : Option Value → Shared → Prop}
    (out : IsZipHeld st.heap z TI TO T f) (hT : st.heap.get? T = some oT) (both : IsTupOf2 st.heap TI (.ref i1) (.ref i2)) (at1 : S1 i st.heap) (at2 : S2 i st.heap) (l1 : i ≤ n1) (l2 : i ≤ n2) (last : i = n1 ∨ i = n2)
    (now : ∀ h' tk, (∀ c o, c ≠ z → c ≠ i1 → c ≠ i2 → st.heap.get? c = some o → h'.get? c = some o) → Q none { st with heap := h', toks := tk }) :
    wpAny (model prog w) A (pyNext (.ref z)) Q E st := by
  have ty : st.TypeIs (.ref z) "zip" := ⟨_, out, rfl⟩
  unfold pyNext
  refine wpAny_bind (wpAny_attempt (wpAny_callSpecial?_slot (name := Str.ofString "__next__") ty F.slot_zip_next (wpAny_call_entry F.slot_zip_next ty F.entry_zip_next (out_end S D1 D2 out hT both at1 at2 l1 l2 last ?_) (F.args_zip_next_1 _))))
  rintro h' tk e kp ⟨o, ho, hc⟩
  exact wpAny_bind (wpAny_isInstance (T := "StopIteration") (b := true) ⟨o, ho, hc⟩ isSubtype_stop (wpAny_pure (now _ _ kp)))
/-- the zip of the list l and the tuple t, begun -/
def ZipLT (h : Heap) (z TI TO i1 i2 l t : Addr) (xs ys : Array Value) (n : Nat) : Prop := IsTupOf2 h TI (.ref i1) (.ref i2) ∧ (h.IsListIter i1 l n ∧ h.IsList l xs) ∧ (h.IsTupleIter i2 t n ∧ h.IsTuple t ys)
theorem ZipLT.keep {h h' : Heap} {z TI TO i1 i2 l t : Addr} {xs ys : Array Value} {n : Nat} (q : ZipLT h z TI TO i1 i2 l t xs ys n) (k : ∀ b, b = TI ∨ b = i1 ∨ b = i2 ∨ b = l ∨ b = t → ∀ o, h.get? b = some o → h'.get? b = some o) : ZipLT h' z TI TO i1 i2 l t xs ys n :=
  ⟨k _ (.inl rfl) _ q.1, ⟨q.2.1.1.at fun o e => k _ (.inr (.inl rfl)) o e, q.2.1.2.at fun o e => k _ (.inr (.inr (.inr (.inl rfl)))) o e⟩, ⟨q.2.2.1.at fun o e => k _ (.inr (.inr (.inl rfl))) o e, q.2.2.2.at fun o e => k _ (.inr (.inr (.inr (.inr rfl)))) o e⟩⟩
theorem pairs_LT (z TI TO i1 i2 l t : Addr) (S : ZipSep2 z TI TO i1 i2 [i1, l] [i2, t]) (hl : l ≠ i1) (ht : t ≠ i2) (xs ys : Array Value) :
    PairArg prog w "zip" z [z, TI, TO, i1, i2, l, t] [z, TO, i1, i2] (min xs.size ys.size) (fun i k v => xs[i]? = some k ∧ ys[i]? = some v)
      (fun h => IsZip h z TI TO .none ∧ (∃ a b, IsTupOf2 h TO a b) ∧ ZipLT h z TI TO i1 i2 l t xs ys 0) where
  type := fun s ok => ⟨_, ok.1, rfl⟩
  notDict := by decide
  keep := fun h h' ok k => by
    obtain ⟨a1, ⟨a, b, a2⟩, a3⟩ := ok
    exact ⟨k _ _ a1, ⟨a, b, k _ _ a2⟩, a3.keep fun b _ o e => k b o e⟩
  there := fun h ok b hb => by
    obtain ⟨a1, ⟨a, c, a2⟩, a3, ⟨⟨o1, e1, _⟩, ⟨o2, e2, _⟩⟩, ⟨⟨o3, e3, _⟩, ⟨o4, e4, _⟩⟩⟩ := ok
    have either : b = z ∨ b = TI ∨ b = TO ∨ b = i1 ∨ b = i2 ∨ b = l ∨ b = t := by simpa using hb
    rcases either with q | q | q | q | q | q | q <;> subst q
    · exact ⟨_, a1⟩
    · exact ⟨_, a3⟩
    · exact ⟨_, a2⟩
    · exact ⟨_, e1⟩
    · exact ⟨_, e3⟩
    · exact ⟨_, e2⟩
    · exact ⟨_, e4⟩
  sub := fun b hb => by
    have either : b = z ∨ b = TO ∨ b = i1 ∨ b = i2 := by simpa using hb
    rcases either with q | q | q | q <;> subst q <;> simp
  noKeys := fun A s Q E hA ok now => getAttrOr_miss_zip ok.1 rfl rfl rfl zip_no_keys (by decide +kernel) hA now
  iter := fun A s d Q E hA ok dlt dfar now => by
    obtain ⟨a1, ⟨a, b, a2⟩, a3⟩ := ok
    have far : d ≠ z ∧ d ≠ TI ∧ d ≠ TO ∧ d ≠ i1 ∧ d ≠ i2 ∧ d ≠ l ∧ d ≠ t := by simpa using dfar
    obtain ⟨d1, d2, d3, d4, d5, d6, d7⟩ := far
    have D1 := Draws.list (prog := prog) (w := w) (A := A.in1) hA i1 l hl xs
    have D2 := Draws.tuple (prog := prog) (w := w) (A := A.in1) hA i2 t ht ys
    refine wpAny_pyIter_zip a1 (now z [z, TO, i1, i2] (fun n h => ZipLT h z TI TO i1 i2 l t xs ys n ∧ ((IsZip h z TI TO .none ∧ ∃ a b, IsTupOf2 h TO a b) ∨ ∃ T f oT, IsZipHeld h z TI TO T f ∧ h.get? T = some oT ∧ T ≠ z ∧ T ≠ i1 ∧ T ≠ i2 ∧ T ≠ d)) s.heap s.toks ?_ ⟨a3, .inl ⟨a1, a, b, a2⟩⟩ (fun _ _ e => e) fun b hb => .inl hb)
    refine ⟨fun hm => ?_, fun n h h' q k => ?_, fun n s1 Q1 E1 hn q dl now1 => ?_, fun s1 Q1 E1 q now1 => ?_⟩
    · have either : d = z ∨ d = TO ∨ d = i1 ∨ d = i2 := by simpa using hm
      rcases either with q | q | q | q
      · exact d1 q
      · exact d3 q
      · exact d4 q
      · exact d5 q
    · refine ⟨q.1.keep fun b hb o e => k b o (fun y => ?_) e, ?_⟩
      · rcases hb with q | q | q | q | q <;> rw [q] at y
        · exact d2 y.symm
        · exact d4 y.symm
        · exact d5 y.symm
        · exact d6 y.symm
        · exact d7 y.symm
      · rcases q.2 with ⟨q1, a, b, q2⟩ | ⟨T, f, oT, q1, q2, r1, r2, r3, r4⟩
        · exact .inl ⟨k _ _ (Ne.symm d1) q1, a, b, k _ _ (Ne.symm d3) q2⟩
        · exact .inr ⟨T, f, oT, k _ _ (Ne.symm d1) q1, k _ _ r4 q2, r1, r2, r3, r4⟩
    · obtain ⟨⟨both, at1, at2⟩, q⟩ := q
      have m1 : n < xs.size := Nat.lt_of_lt_of_le hn (Nat.min_le_left ..)
      have m2 : n < ys.size := Nat.lt_of_lt_of_le hn (Nat.min_le_right ..)
      have lt : ∀ {c o}, s1.heap.get? c = some o → s1.heap.objs.size ≠ c := fun e => Nat.ne_of_gt (Heap.lt_size e)
      have j1 : s1.heap.objs.size ≠ i1 := let ⟨_, e⟩ := D1.live _ _ at1; lt e
      have j2 : s1.heap.objs.size ≠ i2 := let ⟨_, e⟩ := D2.live _ _ at2; lt e
      rcases q with ⟨q1, a, b, q2⟩ | ⟨T, f, oT, q1, q2, r1, r2, r3, r4⟩
      · refine wpAny_pyNext_zipD2_item S D1 D2 q1 both q2 at1 at2 m1 m2 fun x y h' tk px py b1 b2 b3 b4 b5 b6 k => ?_
        exact now1 s1.heap.objs.size x y h' tk ⟨px, py⟩ (.inl ⟨_, b5, rfl, _, rfl⟩) ⟨⟨k _ _ S.TIz S.TITO S.TIi1 S.TIi2 both, b3, b4⟩, .inr ⟨_, false, _, b1, b5, lt q1, j1, j2, Nat.ne_of_gt dl⟩⟩
          fun c o hc e => k c o (fun y => hc (by simp [y])) (fun y => hc (by simp [y])) (fun y => hc (by simp [y])) (fun y => hc (by simp [y])) e
      · refine out_pyNext S D1 D2 q1 q2 both at1 at2 m1 m2 fun x y h' tk px py b1 b3 b4 b5 k => ?_
        exact now1 s1.heap.objs.size x y h' tk ⟨px, py⟩ (.inl ⟨_, b5, rfl, _, rfl⟩) ⟨⟨k _ _ S.TIz S.TIi1 S.TIi2 both, b3, b4⟩, .inr ⟨T, true, oT, b1, k _ _ r1 r2 r3 q2, r1, r2, r3, r4⟩⟩
          fun c o hc e => k c o (fun y => hc (by simp [y])) (fun y => hc (by simp [y])) (fun y => hc (by simp [y])) e
    · obtain ⟨⟨both, at1, at2⟩, q⟩ := q
      rcases q with ⟨q1, a, b, q2⟩ | ⟨T, f, oT, q1, q2, r1, r2, r3, r4⟩
      · exact wpAny_pyNext_zipD2_end S D1 D2 q1 both q2 at1 at2 (Nat.min_le_left ..) (Nat.min_le_right ..) (by omega) fun h' tk k => now1 h' tk fun c o hc e => k c o (fun y => hc (by simp [y])) (fun y => hc (by simp [y])) (fun y => hc (by simp [y])) (fun y => hc (by simp [y])) e
      · exact out_pyNext_end S D1 D2 q1 q2 both at1 at2 (Nat.min_le_left ..) (Nat.min_le_right ..) (by omega) fun h' tk k => now1 h' tk fun c o hc e => k c o (fun y => hc (by simp [y])) (fun y => hc (by simp [y])) (fun y => hc (by simp [y])) e
end
/-- dict(zip(e1, e2)): keys from a list, values from a tuple -/
def eDictZip (K : PySem.W.Frag) (ta : TA) : TE := fun σ H Q => ta σ H fun vs H1 => ∃ (a b : Addr) (ks : List Key) (xs : List V), vs = [.ref a, .ref b] ∧ SqL K H1 a (ks.map kV) ∧ SqT K H1 b xs ∧ ∀ p, H1 p = none → Q (.ref p) (upd H1 p (.dK (mergeK [] (ks.zip xs))))
theorem pe_dictZip (K : PySem.W.Frag) {X : Cx} (hk : X.K = K) (hcalm : X.calm = true) {e e2 : Expr} {ta : TA} {p p2 pos pos2 : Pos} (hd : Gl X "dict") (md : X.mg "dict" = none) (hg : Gl X "zip") (hm : X.mg "zip" = none) (ha : PA X [e, e2] ta)
    (hs : starEach [e, e2] X.env = (false, eval e X.env) :: starEach [e2] X.env := by rfl) (hpl : (backTo pos2 (starEach [e2] X.env)).any (·.1) = false := by rfl)
    (hs1 : starEach [.Call (.Name "zip" p2) [e, e2] [] pos2] X.env = [(false, eval (.Call (.Name "zip" p2) [e, e2] [] pos2) X.env)] := by rfl) :
    PE X (.Call (.Name "dict" p) [.Call (.Name "zip" p2) [e, e2] [] pos2] [] pos) (eDictZip K ta) := by
  subst hk
  refine ⟨fun pins st σ H Q J asked => ?_⟩
  refine Call_ (ld_blt J hd md boot_dict (PyProof.Rows.callWith_type1 (args_cons (Call_ (ld_blt J hg hm boot_zip (PyProof.Rows.callWith_type1 (thn (ha.run pos2 pins st σ H _ J asked) fun us st1 ⟨vs, H1, J1, rel, now⟩ => ?_) hs hpl))) hs1) hs1 rfl))
  obtain ⟨a, b, ks, xs, ex, hq1, hq2, now⟩ := now
  subst ex
  cases rel with
  | cons r1 rel =>
  cases rel with
  | cons r2 rel =>
  cases rel
  cases r1
  cases r2
  obtain ⟨its, rv, p1, z1⟩ := J1.list hq1
  obtain ⟨its2, rv2, p2, z2⟩ := J1.tuple hq2
  have al : a < st1.heap.objs.size := p1.lt
  have bl : b < st1.heap.objs.size := by obtain ⟨o, ho, _⟩ := p2; exact Heap.lt_size ho
  have B1 := begins_list a its.toArray
  have B2 := begins_tuple b its2.toArray
  refine zip_begins2 B1 B2 p1.isList p2 fun h' c1 c2 c3 c4 c5 size kp => args_nil ?_
  have S := zip_sep2 (N := st1.heap.objs.size) (fp1 := [a]) (fp2 := [b]) (by simpa using al) (by simpa using bl)
  have P := pairs_LT (prog := X.prog) (w := X.w) _ _ _ _ _ a b S (Nat.ne_of_lt al) (Nat.ne_of_lt (Nat.lt_succ_of_lt bl)) its.toArray its2.toArray
  have n1 := rv.length
  have n2 := rv2.length
  rw [List.length_map] at n1 z1
  have all : ∀ (ks : List Key) (xs : List V) (us vs : List Value), Vals (ks.map kV) us → Vals xs vs → ∃ rs : List (Key × Value), KV (ks.zip xs) rs ∧ rs.length = min us.length vs.length ∧ ∀ (i : Nat) (k v : Value), us[i]? = some k → vs[i]? = some v → ∃ q, rs[i]? = some (q, v) ∧ (mixKind X.prog X.w).is q k = true := by
    intro ks
    induction ks with
    | nil => intro xs us vs r1 r2; cases r1; exact ⟨[], .nil, by simp, fun i k v e => nomatch e⟩
    | cons k ks ih =>
      intro xs us vs r1 r2
      cases r1 with
      | cons h1 t1 =>
      cases r2 with
      | nil => exact ⟨[], .nil, by simp, fun i k v _ e => nomatch e⟩
      | cons h2 t2 =>
        obtain ⟨rs, e1, e2, e3⟩ := ih _ _ _ t1 t2
        refine ⟨(k, _) :: rs, .cons ⟨rfl, h2⟩ e1, by simp only [List.length_cons, e2]; omega, fun i q v e f => ?_⟩
        cases i with
        | zero => cases e; cases f; exact ⟨k, rfl, kV_is h1⟩
        | succ i => exact e3 i q v e f
  obtain ⟨rs, e1, e2, e3⟩ := all ks xs its its2 rv rv2
  have PH : PairsHave (mixKind X.prog X.w) (min its.toArray.size its2.toArray.size) (fun i k v => its.toArray[i]? = some k ∧ its2.toArray[i]? = some v) rs :=
    ⟨by simpa using e2, fun i k v q => e3 i k v (by simpa using q.1) (by simpa using q.2)⟩
  refine _root_.PySem.call_dict_pairs (s := { st1 with heap := h' }) P (J1.ok.hd hcalm) ⟨c1, ⟨_, _, c3⟩, c2, ⟨⟨_, c4, rfl, rfl⟩, B1.keeps _ _ p1.isList kp⟩, ⟨⟨_, c5, rfl, rfl⟩, B2.keeps _ _ p2 kp⟩⟩ PH (by have := n1; have := n2; simp only [List.size_toArray]; omega) fun h2 tk isd kp2 => ?_
  replace isd : h2.DictOf (mixKind X.prog X.w) h'.objs.size (merged [] rs) := isd
  have low : st1.heap.objs.size ≤ h'.objs.size := by rw [size]; exact Nat.le_add_right _ _
  have big : sysModules < h'.objs.size := Nat.lt_of_lt_of_le J1.big low
  have ne : (h'.objs.size == sysModules) = false := beq_eq_false_iff_ne.mpr (Nat.ne_of_gt big)
  have few : (mergeK [] (ks.zip xs)).length ≤ sizeLine := by
    refine Nat.le_trans (length_mergeK _ []) ?_
    rw [List.length_nil, Nat.zero_add, List.length_zip]
    omega
  refine ⟨.ref h'.objs.size, upd H1 h'.objs.size (.dK (mergeK [] (ks.zip xs))), J1.laid (t' := tk) (fun c o q => kp2 c o (fun hm => ?_) (kp c o q)) low (show ObjOk X.prog X.w _ _ _ (.dK (mergeK [] (ks.zip xs))) from ⟨few, ne, merged [] rs, KV.merge e1 .nil, isd⟩), rfl, now _ (J1.hok.fresh low)⟩
  have cl := Heap.lt_size q
  have either : c = st1.heap.objs.size + 4 ∨ c = st1.heap.objs.size + 3 ∨ c = st1.heap.objs.size ∨ c = st1.heap.objs.size + 1 := by simpa using hm
  rcases either with y | y | y | y <;> rw [y] at cl
  · exact absurd cl (Nat.not_lt.mpr (Nat.le_add_right _ _))
  · exact absurd cl (Nat.not_lt.mpr (Nat.le_add_right _ _))
  · exact absurd cl (Nat.lt_irrefl _)
  · exact absurd cl (Nat.not_lt.mpr (Nat.le_add_right _ _))
/-! ### dict(zip(xs, ys)), xs and ys tuples -/
section
open Sem (wp)
variable {prog : Program} {w : World}
/-- the zip of the list l and the tuple t, begun (tuples) -/
def ZipTT (h : Heap) (z TI TO i1 i2 l t : Addr) (xs ys : Array Value) (n : Nat) : Prop := IsTupOf2 h TI (.ref i1) (.ref i2) ∧ (h.IsTupleIter i1 l n ∧ h.IsTuple l xs) ∧ (h.IsTupleIter i2 t n ∧ h.IsTuple t ys)
theorem ZipTT.keep {h h' : Heap} {z TI TO i1 i2 l t : Addr} {xs ys : Array Value} {n : Nat} (q : ZipTT h z TI TO i1 i2 l t xs ys n) (k : ∀ b, b = TI ∨ b = i1 ∨ b = i2 ∨ b = l ∨ b = t → ∀ o, h.get? b = some o → h'.get? b = some o) : ZipTT h' z TI TO i1 i2 l t xs ys n :=
  ⟨k _ (.inl rfl) _ q.1, ⟨q.2.1.1.at fun o e => k _ (.inr (.inl rfl)) o e, q.2.1.2.at fun o e => k _ (.inr (.inr (.inr (.inl rfl)))) o e⟩, ⟨q.2.2.1.at fun o e => k _ (.inr (.inr (.inl rfl))) o e, q.2.2.2.at fun o e => k _ (.inr (.inr (.inr (.inr rfl)))) o e⟩⟩
theorem pairs_TT (z TI TO i1 i2 l t : Addr) (S : ZipSep2 z TI TO i1 i2 [i1, l] [i2, t]) (hl : l ≠ i1) (ht : t ≠ i2) (xs ys : Array Value) :
    PairArg prog w "zip" z [z, TI, TO, i1, i2, l, t] [z, TO, i1, i2] (min xs.size ys.size) (fun i k v => xs[i]? = some k ∧ ys[i]? = some v)
      (fun h => IsZip h z TI TO .none ∧ (∃ a b, IsTupOf2 h TO a b) ∧ ZipTT h z TI TO i1 i2 l t xs ys 0) where
  type := fun s ok => ⟨_, ok.1, rfl⟩
  notDict := by decide
  keep := fun h h' ok k => by
    obtain ⟨a1, ⟨a, b, a2⟩, a3⟩ := ok
    exact ⟨k _ _ a1, ⟨a, b, k _ _ a2⟩, a3.keep fun b _ o e => k b o e⟩
  there := fun h ok b hb => by
    obtain ⟨a1, ⟨a, c, a2⟩, a3, ⟨⟨o1, e1, _⟩, ⟨o2, e2, _⟩⟩, ⟨⟨o3, e3, _⟩, ⟨o4, e4, _⟩⟩⟩ := ok
    have either : b = z ∨ b = TI ∨ b = TO ∨ b = i1 ∨ b = i2 ∨ b = l ∨ b = t := by simpa using hb
    rcases either with q | q | q | q | q | q | q <;> subst q
    · exact ⟨_, a1⟩
    · exact ⟨_, a3⟩
    · exact ⟨_, a2⟩
    · exact ⟨_, e1⟩
    · exact ⟨_, e3⟩
    · exact ⟨_, e2⟩
    · exact ⟨_, e4⟩
  sub := fun b hb => by
    have either : b = z ∨ b = TO ∨ b = i1 ∨ b = i2 := by simpa using hb
    rcases either with q | q | q | q <;> subst q <;> simp
  noKeys := fun A s Q E hA ok now => getAttrOr_miss_zip ok.1 rfl rfl rfl zip_no_keys (by decide +kernel) hA now
  iter := fun A s d Q E hA ok dlt dfar now => by
    obtain ⟨a1, ⟨a, b, a2⟩, a3⟩ := ok
    have far : d ≠ z ∧ d ≠ TI ∧ d ≠ TO ∧ d ≠ i1 ∧ d ≠ i2 ∧ d ≠ l ∧ d ≠ t := by simpa using dfar
    obtain ⟨d1, d2, d3, d4, d5, d6, d7⟩ := far
    have D1 := Draws.tuple (prog := prog) (w := w) (A := A.in1) hA i1 l hl xs
    have D2 := Draws.tuple (prog := prog) (w := w) (A := A.in1) hA i2 t ht ys
    refine wpAny_pyIter_zip a1 (now z [z, TO, i1, i2] (fun n h => ZipTT h z TI TO i1 i2 l t xs ys n ∧ ((IsZip h z TI TO .none ∧ ∃ a b, IsTupOf2 h TO a b) ∨ ∃ T f oT, IsZipHeld h z TI TO T f ∧ h.get? T = some oT ∧ T ≠ z ∧ T ≠ i1 ∧ T ≠ i2 ∧ T ≠ d)) s.heap s.toks ?_ ⟨a3, .inl ⟨a1, a, b, a2⟩⟩ (fun _ _ e => e) fun b hb => .inl hb)
    refine ⟨fun hm => ?_, fun n h h' q k => ?_, fun n s1 Q1 E1 hn q dl now1 => ?_, fun s1 Q1 E1 q now1 => ?_⟩
    · have either : d = z ∨ d = TO ∨ d = i1 ∨ d = i2 := by simpa using hm
      rcases either with q | q | q | q
      · exact d1 q
      · exact d3 q
      · exact d4 q
      · exact d5 q
    · refine ⟨q.1.keep fun b hb o e => k b o (fun y => ?_) e, ?_⟩
      · rcases hb with q | q | q | q | q <;> rw [q] at y
        · exact d2 y.symm
        · exact d4 y.symm
        · exact d5 y.symm
        · exact d6 y.symm
        · exact d7 y.symm
      · rcases q.2 with ⟨q1, a, b, q2⟩ | ⟨T, f, oT, q1, q2, r1, r2, r3, r4⟩
        · exact .inl ⟨k _ _ (Ne.symm d1) q1, a, b, k _ _ (Ne.symm d3) q2⟩
        · exact .inr ⟨T, f, oT, k _ _ (Ne.symm d1) q1, k _ _ r4 q2, r1, r2, r3, r4⟩
    · obtain ⟨⟨both, at1, at2⟩, q⟩ := q
      have m1 : n < xs.size := Nat.lt_of_lt_of_le hn (Nat.min_le_left ..)
      have m2 : n < ys.size := Nat.lt_of_lt_of_le hn (Nat.min_le_right ..)
      have lt : ∀ {c o}, s1.heap.get? c = some o → s1.heap.objs.size ≠ c := fun e => Nat.ne_of_gt (Heap.lt_size e)
      have j1 : s1.heap.objs.size ≠ i1 := let ⟨_, e⟩ := D1.live _ _ at1; lt e
      have j2 : s1.heap.objs.size ≠ i2 := let ⟨_, e⟩ := D2.live _ _ at2; lt e
      rcases q with ⟨q1, a, b, q2⟩ | ⟨T, f, oT, q1, q2, r1, r2, r3, r4⟩
      · refine wpAny_pyNext_zipD2_item S D1 D2 q1 both q2 at1 at2 m1 m2 fun x y h' tk px py b1 b2 b3 b4 b5 b6 k => ?_
        exact now1 s1.heap.objs.size x y h' tk ⟨px, py⟩ (.inl ⟨_, b5, rfl, _, rfl⟩) ⟨⟨k _ _ S.TIz S.TITO S.TIi1 S.TIi2 both, b3, b4⟩, .inr ⟨_, false, _, b1, b5, lt q1, j1, j2, Nat.ne_of_gt dl⟩⟩
          fun c o hc e => k c o (fun y => hc (by simp [y])) (fun y => hc (by simp [y])) (fun y => hc (by simp [y])) (fun y => hc (by simp [y])) e
      · refine out_pyNext S D1 D2 q1 q2 both at1 at2 m1 m2 fun x y h' tk px py b1 b3 b4 b5 k => ?_
        exact now1 s1.heap.objs.size x y h' tk ⟨px, py⟩ (.inl ⟨_, b5, rfl, _, rfl⟩) ⟨⟨k _ _ S.TIz S.TIi1 S.TIi2 both, b3, b4⟩, .inr ⟨T, true, oT, b1, k _ _ r1 r2 r3 q2, r1, r2, r3, r4⟩⟩
          fun c o hc e => k c o (fun y => hc (by simp [y])) (fun y => hc (by simp [y])) (fun y => hc (by simp [y])) e
    · obtain ⟨⟨both, at1, at2⟩, q⟩ := q
      rcases q with ⟨q1, a, b, q2⟩ | ⟨T, f, oT, q1, q2, r1, r2, r3, r4⟩
      · exact wpAny_pyNext_zipD2_end S D1 D2 q1 both q2 at1 at2 (Nat.min_le_left ..) (Nat.min_le_right ..) (by omega) fun h' tk k => now1 h' tk fun c o hc e => k c o (fun y => hc (by simp [y])) (fun y => hc (by simp [y])) (fun y => hc (by simp [y])) (fun y => hc (by simp [y])) e
      · exact out_pyNext_end S D1 D2 q1 q2 both at1 at2 (Nat.min_le_left ..) (Nat.min_le_right ..) (by omega) fun h' tk k => now1 h' tk fun c o hc e => k c o (fun y => hc (by simp [y])) (fun y => hc (by simp [y])) (fun y => hc (by simp [y])) e
end
/-- dict(zip(e1, e2)): from tuples -/
def eDictZipTT (K : PySem.W.Frag) (ta : TA) : TE := fun σ H Q => ta σ H fun vs H1 => ∃ (a b : Addr) (ks : List Key) (xs : List V), vs = [.ref a, .ref b] ∧ SqT K H1 a (ks.map kV) ∧ SqT K H1 b xs ∧ ∀ p, H1 p = none → Q (.ref p) (upd H1 p (.dK (mergeK [] (ks.zip xs))))
theorem pe_dictZipTT (K : PySem.W.Frag) {X : Cx} (hk : X.K = K) (hcalm : X.calm = true) {e e2 : Expr} {ta : TA} {p p2 pos pos2 : Pos} (hd : Gl X "dict") (md : X.mg "dict" = none) (hg : Gl X "zip") (hm : X.mg "zip" = none) (ha : PA X [e, e2] ta)
    (hs : starEach [e, e2] X.env = (false, eval e X.env) :: starEach [e2] X.env := by rfl) (hpl : (backTo pos2 (starEach [e2] X.env)).any (·.1) = false := by rfl)
    (hs1 : starEach [.Call (.Name "zip" p2) [e, e2] [] pos2] X.env = [(false, eval (.Call (.Name "zip" p2) [e, e2] [] pos2) X.env)] := by rfl) :
    PE X (.Call (.Name "dict" p) [.Call (.Name "zip" p2) [e, e2] [] pos2] [] pos) (eDictZipTT K ta) := by
  subst hk
  refine ⟨fun pins st σ H Q J asked => ?_⟩
  refine Call_ (ld_blt J hd md boot_dict (PyProof.Rows.callWith_type1 (args_cons (Call_ (ld_blt J hg hm boot_zip (PyProof.Rows.callWith_type1 (thn (ha.run pos2 pins st σ H _ J asked) fun us st1 ⟨vs, H1, J1, rel, now⟩ => ?_) hs hpl))) hs1) hs1 rfl))
  obtain ⟨a, b, ks, xs, ex, hq1, hq2, now⟩ := now
  subst ex
  cases rel with
  | cons r1 rel =>
  cases rel with
  | cons r2 rel =>
  cases rel
  cases r1
  cases r2
  obtain ⟨its, rv, p1, z1⟩ := J1.tuple hq1
  obtain ⟨its2, rv2, p2, z2⟩ := J1.tuple hq2
  have al : a < st1.heap.objs.size := by obtain ⟨o, ho, _⟩ := p1; exact Heap.lt_size ho
  have bl : b < st1.heap.objs.size := by obtain ⟨o, ho, _⟩ := p2; exact Heap.lt_size ho
  have B1 := begins_tuple a its.toArray
  have B2 := begins_tuple b its2.toArray
  refine zip_begins2 B1 B2 p1 p2 fun h' c1 c2 c3 c4 c5 size kp => args_nil ?_
  have S := zip_sep2 (N := st1.heap.objs.size) (fp1 := [a]) (fp2 := [b]) (by simpa using al) (by simpa using bl)
  have P := pairs_TT (prog := X.prog) (w := X.w) _ _ _ _ _ a b S (Nat.ne_of_lt al) (Nat.ne_of_lt (Nat.lt_succ_of_lt bl)) its.toArray its2.toArray
  have n1 := rv.length
  have n2 := rv2.length
  rw [List.length_map] at n1 z1
  have all : ∀ (ks : List Key) (xs : List V) (us vs : List Value), Vals (ks.map kV) us → Vals xs vs → ∃ rs : List (Key × Value), KV (ks.zip xs) rs ∧ rs.length = min us.length vs.length ∧ ∀ (i : Nat) (k v : Value), us[i]? = some k → vs[i]? = some v → ∃ q, rs[i]? = some (q, v) ∧ (mixKind X.prog X.w).is q k = true := by
    intro ks
    induction ks with
    | nil => intro xs us vs r1 r2; cases r1; exact ⟨[], .nil, by simp, fun i k v e => nomatch e⟩
    | cons k ks ih =>
      intro xs us vs r1 r2
      cases r1 with
      | cons h1 t1 =>
      cases r2 with
      | nil => exact ⟨[], .nil, by simp, fun i k v _ e => nomatch e⟩
      | cons h2 t2 =>
        obtain ⟨rs, e1, e2, e3⟩ := ih _ _ _ t1 t2
        refine ⟨(k, _) :: rs, .cons ⟨rfl, h2⟩ e1, by simp only [List.length_cons, e2]; omega, fun i q v e f => ?_⟩
        cases i with
        | zero => cases e; cases f; exact ⟨k, rfl, kV_is h1⟩
        | succ i => exact e3 i q v e f
  obtain ⟨rs, e1, e2, e3⟩ := all ks xs its its2 rv rv2
  have PH : PairsHave (mixKind X.prog X.w) (min its.toArray.size its2.toArray.size) (fun i k v => its.toArray[i]? = some k ∧ its2.toArray[i]? = some v) rs :=
    ⟨by simpa using e2, fun i k v q => e3 i k v (by simpa using q.1) (by simpa using q.2)⟩
  refine _root_.PySem.call_dict_pairs (s := { st1 with heap := h' }) P (J1.ok.hd hcalm) ⟨c1, ⟨_, _, c3⟩, c2, ⟨⟨_, c4, rfl, rfl⟩, B1.keeps _ _ p1 kp⟩, ⟨⟨_, c5, rfl, rfl⟩, B2.keeps _ _ p2 kp⟩⟩ PH (by have := n1; have := n2; simp only [List.size_toArray]; omega) fun h2 tk isd kp2 => ?_
  replace isd : h2.DictOf (mixKind X.prog X.w) h'.objs.size (merged [] rs) := isd
  have low : st1.heap.objs.size ≤ h'.objs.size := by rw [size]; exact Nat.le_add_right _ _
  have big : sysModules < h'.objs.size := Nat.lt_of_lt_of_le J1.big low
  have ne : (h'.objs.size == sysModules) = false := beq_eq_false_iff_ne.mpr (Nat.ne_of_gt big)
  have few : (mergeK [] (ks.zip xs)).length ≤ sizeLine := by
    refine Nat.le_trans (length_mergeK _ []) ?_
    rw [List.length_nil, Nat.zero_add, List.length_zip]
    omega
  refine ⟨.ref h'.objs.size, upd H1 h'.objs.size (.dK (mergeK [] (ks.zip xs))), J1.laid (t' := tk) (fun c o q => kp2 c o (fun hm => ?_) (kp c o q)) low (show ObjOk X.prog X.w _ _ _ (.dK (mergeK [] (ks.zip xs))) from ⟨few, ne, merged [] rs, KV.merge e1 .nil, isd⟩), rfl, now _ (J1.hok.fresh low)⟩
  have cl := Heap.lt_size q
  have either : c = st1.heap.objs.size + 4 ∨ c = st1.heap.objs.size + 3 ∨ c = st1.heap.objs.size ∨ c = st1.heap.objs.size + 1 := by simpa using hm
  rcases either with y | y | y | y <;> rw [y] at cl
  · exact absurd cl (Nat.not_lt.mpr (Nat.le_add_right _ _))
  · exact absurd cl (Nat.not_lt.mpr (Nat.le_add_right _ _))
  · exact absurd cl (Nat.lt_irrefl _)
  · exact absurd cl (Nat.not_lt.mpr (Nat.le_add_right _ _))
theorem one_at {K : PySem.W.Frag} {a : Addr} {od : Option Addr} {z : Str} {t1 : Tok} {n : Nat} {sl : Array (Option Value)} (l : K.lookup a = some ⟨.type "tuple", od, .seq #[.str z t1] n, sl⟩) (H : Hp) : SqT K H a [.str z] :=
  .inr ⟨_, _, _, l, rfl, rfl, (show 1 ≤ sizeLine by decide), .cons ⟨_, rfl⟩ .nil⟩
/-! ### dicts whose keys are tuples of tuples -/
mutual
/-- a value that is such a key -/
inductive NkV (H : Hp) : NestedKey → V → Prop
  | num (i : Int) : NkV H (.num i) (.int i)
  | text (x : Str) : NkV H (.text x) (.str x)
  | tup {a : Addr} {xs : List V} {ks : List NestedKey} : H a = some (.tup xs) → NkL H ks xs → NkV H (.tup ks) (.ref a)
inductive NkL (H : Hp) : List NestedKey → List V → Prop
  | nil : NkL H [] []
  | cons {k : NestedKey} {x : V} {ks : List NestedKey} {xs : List V} : NkV H k x → NkL H ks xs → NkL H (k :: ks) (x :: xs)
end
section
variable {P : Program} {w : World} {H H' : Hp} {h : Heap}
mutual
theorem NkV.keep (kp : TK H H') : ∀ {k : NestedKey} {x : V}, NkV H k x → NkV H' k x
  | _, _, .num i => .num i
  | _, _, .text x => .text x
  | _, _, .tup e l => .tup (kp _ _ e) (NkL.keep kp l)
theorem NkL.keep (kp : TK H H') : ∀ {ks : List NestedKey} {xs : List V}, NkL H ks xs → NkL H' ks xs
  | _, _, .nil => .nil
  | _, _, .cons a b => .cons (NkV.keep kp a) (NkL.keep kp b)
end
mutual
theorem NkV.is (ok : HOk P w H h) : ∀ {k : NestedKey} {x : V} {u : Value}, NkV H k x → RelV x u → NestedIs h k u
  | _, _, u, .num i, r => by
    obtain ⟨t, rfl⟩ := (show ∃ t, u = Value.int i t from r)
    exact .int i t
  | _, _, u, .text x, r => by
    obtain ⟨t, rfl⟩ := (show ∃ t, u = Value.str x t from r)
    exact .text x t
  | _, _, u, @NkV.tup _ a xs ks e l, r => by
    obtain rfl : u = Value.ref a := r
    obtain ⟨_, its, rv, o, e1, e2, n, e3⟩ := (show ObjOk P w H h a (.tup xs) from ok a _ e)
    exact .tup e1 e2 e3 (by simpa using NkL.is ok l rv)
theorem NkL.is (ok : HOk P w H h) : ∀ {ks : List NestedKey} {xs : List V} {us : List Value}, NkL H ks xs → Vals xs us → NestedAll h ks us
  | _, _, _, .nil, .nil => .nil
  | _, _, _, .cons a b, .cons r t => .cons (NkV.is ok a r) (NkL.is ok b t)
end
/-- what stands in the heap for a dict with the entries kas: key, the key's address, number -/
def nkRow (k : NestedKey × Addr × Int) (x : NestedKey × Addr × Value) : Prop := x.1 = k.1 ∧ x.2.1 = k.2.1 ∧ ∃ t, x.2.2 = .int k.2.2 t
def nkObj (P : Program) (w : World) (d : Addr) (kas : List (NestedKey × Addr × Int)) (h : Heap) : Prop :=
  (d == sysModules) = false ∧ kas.length ≤ sizeLine ∧ ∃ xs : List (NestedKey × Addr × Value), All2 nkRow kas xs ∧ ∃ o es ep, h.get? d = some o ∧ o.ExactDict ∧ o.data = .dict es ep ∧ es.toList = xs.map (entryOfKey (nestedKind P w)) ∧ (xs.map (·.1)).Nodup
def nkO (P : Program) (w : World) (d : Addr) (kas : List (NestedKey × Addr × Int)) : HO := .ext (nkObj P w d kas)
structure NkD (P : Program) (w : World) (H : Hp) (d : Addr) (kas : List (NestedKey × Addr × Int)) : Prop where
  at_ : H d = some (nkO P w d kas)
  key : ∀ q ∈ kas, NkV H q.1 (.ref q.2.1) ∧ q.1.depth ≤ 8
theorem nkO_tup {d : Addr} {kas : List (NestedKey × Addr × Int)} {xs : List V} : nkO P w d kas ≠ .tup xs := fun z => by
  have z' : HO.ext _ = HO.tup xs := z
  cases z'
theorem nkObj_ok {d : Addr} {kas : List (NestedKey × Addr × Int)} (q : nkObj P w d kas h) : ObjOk P w H h d (nkO P w d kas) := by
  have q0 := q
  obtain ⟨_, _, xs, _, o, es, ep, e, _⟩ := q0
  refine ⟨q, ⟨o, e⟩, fun h1 h2 q1 k => ?_⟩
  obtain ⟨a1, a2, xs, al, o, es, ep, e, r⟩ := q1
  exact ⟨a1, a2, xs, al, o, es, ep, k _ e, r⟩
theorem nk_names : ∀ {kas : List (NestedKey × Addr × Int)} {xs : List (NestedKey × Addr × Value)}, All2 nkRow kas xs → xs.map (·.1) = kas.map (·.1)
  | _, _, .nil => rfl
  | _, _, .cons r t => by rw [List.map_cons, List.map_cons, r.1, nk_names t]
/-- the number at a key -/
def nkAt (kas : List (NestedKey × Addr × Int)) (k : NestedKey) : Option Int := (kas.find? fun q => decide (q.1 = k)).map fun q => q.2.2
theorem nk_at {k : NestedKey} : ∀ {kas : List (NestedKey × Addr × Int)} {xs : List (NestedKey × Addr × Value)}, All2 nkRow kas xs → (nkAt kas k = none ∧ atKey xs k = none) ∨ ∃ n a t, nkAt kas k = some n ∧ atKey xs k = some (a, .int n t)
  | _, _, .nil => .inl ⟨rfl, rfl⟩
  | _, _, @All2.cons _ _ _ c x cs xs r t => by
    unfold nkAt atKey
    rw [List.find?_cons, List.find?_cons, r.1]
    by_cases e : c.1 = k
    · rw [decide_eq_true e]
      obtain ⟨tt, ht⟩ := r.2.2
      refine .inr ⟨c.2.2, x.2.1, tt, rfl, ?_⟩
      show some x.2 = _
      rw [← ht]
    · rw [decide_eq_false e]
      exact nk_at t
theorem NkD.get {d : Addr} {kas : List (NestedKey × Addr × Int)} (D : NkD P w H d kas) (ok : HOk P w H h) : (d == sysModules) = false ∧ kas.length ≤ sizeLine ∧ ∃ xs, All2 nkRow kas xs ∧ h.DictOfH (nestedKind P w) d xs := by
  obtain ⟨⟨a1, a2, xs, al, o, es, ep, e1, e2, e3, e4, e5⟩, _⟩ := (show ObjOk P w H h d (nkO P w d kas) from ok d _ D.at_)
  refine ⟨a1, a2, xs, al, o, es, ep, e1, e2, e3, e4, fun x hx => ?_, e5⟩
  have : ∀ {kas : List (NestedKey × Addr × Int)} {xs : List (NestedKey × Addr × Value)}, All2 nkRow kas xs → ∀ x ∈ xs, ∃ q ∈ kas, x.1 = q.1 ∧ x.2.1 = q.2.1 := by
    intro kas xs al
    induction al with
    | nil => intro x hx; cases hx
    | cons r t ih =>
      intro x hx
      rcases List.mem_cons.mp hx with rfl | hx
      · exact ⟨_, List.mem_cons_self .., r.1, r.2.1⟩
      · obtain ⟨q, hq, z⟩ := ih x hx
        exact ⟨q, List.mem_cons_of_mem _ hq, z⟩
  obtain ⟨q, hq, z1, z2⟩ := this al x hx
  obtain ⟨k1, k2⟩ := D.key q hq
  rw [z1, z2]
  exact ⟨NkV.is ok k1 rfl, k2⟩
theorem NkD.go {d : Addr} {kas : List (NestedKey × Addr × Int)} (D : NkD P w H d kas) (e : H' d = H d) (kp : TK H H') : NkD P w H' d kas := ⟨e.trans D.at_, fun q hq => ⟨(D.key q hq).1.keep kp, (D.key q hq).2⟩⟩
theorem NkD.same {d : Addr} {kas : List (NestedKey × Addr × Int)} (D : NkD P w H d kas) (s : Same H H') : NkD P w H' d kas := D.go ((s _ _ D.at_).trans D.at_.symm) (TK.same s)
end
section
variable {X : Cx} {o i e : Expr} {pos pos' : Pos} {td ty tv : TE}
theorem nk_room {X : Cx} (hu : X.A.units + 65 < cLine) : (nestedKind X.prog X.w).room X.A.in1 := by
  show X.A.in1.units + 8 < cLine
  show X.A.units + 1 + 8 < cLine
  omega
/-- {}, for such keys -/
def tNkNew (P : Program) (w : World) : TE := fun _ H Q => ∀ p, H p = none → NkD P w (upd H p (nkO P w p [])) p [] → Q (.ref p) (upd H p (nkO P w p []))
theorem pe_nknew (P : Program) (w : World) (h1 : X.prog = P) (h2 : X.w = w) : PE X (.Dict [] [] pos) (tNkNew P w) := by
  subst h1 h2
  refine ⟨fun pins s σ H Q I h => ?_⟩
  have hb := I.big
  have ob : nkObj X.prog X.w s.heap.objs.size [] (s.heap.push { cls := .type "dict", data := .dict #[] }) := ⟨beq_eq_false_iff_ne.mpr (Ne.symm (Nat.ne_of_lt hb)), Nat.zero_le _, [], .nil, _, #[], 0, Heap.get?_push_size _ rfl, ⟨rfl, rfl, rfl⟩, rfl, rfl, List.nodup_nil⟩
  exact wpAny_Dict_empty ⟨.ref s.heap.objs.size, _, I.laid (a := s.heap.objs.size) (o := nkO X.prog X.w s.heap.objs.size []) (t' := s.toks) (fun _ _ q => Heap.get?_push_of_some _ q) (Nat.le_refl _) (nkObj_ok ob), rfl, h _ (I.hok.fresh (Nat.le_refl _)) ⟨upd_same, fun q hq => by cases hq⟩⟩
/-- y not in d -/
def tNkOut (P : Program) (w : World) (ty td : TE) : TE := fun σ H Q => ty σ H fun y H1 => td σ H1 fun x H2 => ∃ (d b : Addr) (kas : List (NestedKey × Addr × Int)) (k : NestedKey), x = .ref d ∧ y = .ref b ∧ NkD P w H2 d kas ∧ NkV H2 k (.ref b) ∧ k.depth ≤ 8 ∧ Q (.bl (!(nkAt kas k).isSome)) H2
theorem pc_nkout (P : Program) (w : World) (h1 : X.prog = P) (h2 : X.w = w) (hu : X.A.units + 65 < cLine) (hi : PE X i ty) (ho : PE X o td) : PC X .NotIn i o (tNkOut P w ty td) := by
  subst h1 h2
  refine ⟨fun pins s σ H Q I h => ?_⟩
  refine thn (hi.run pins s σ H _ I h) fun iv s1 ⟨y, H1, I1, ry, q1⟩ => thn (ho.run pins s1 σ H1 _ I1 q1) fun u s2 ⟨x, H2, I2, rx, d, b, kas, k, ex, ey, D, kv, dp, q2⟩ => ?_
  subst ex ey
  obtain rfl : u = Value.ref d := rx
  obtain rfl : iv = Value.ref b := ry
  obtain ⟨a1, a2, xs, al, dd⟩ := D.get I2.hok
  refine wpAny_notIn_heap (nk_room hu) ⟨NkV.is I2.hok kv rfl, dp⟩ a1 dd ⟨.bl (!(nkAt kas k).isSome), H2, I2.tok _, ?_, q2⟩
  rcases nk_at (k := k) al with ⟨z1, z2⟩ | ⟨n, a, t, z1, z2⟩ <;> rw [z1, z2] <;> rfl
/-- d[y] -/
def tNkGet (P : Program) (w : World) (td ty : TE) : TE := fun σ H Q => td σ H fun x H1 => ty σ H1 fun y H2 => ∃ (d b : Addr) (kas : List (NestedKey × Addr × Int)) (k : NestedKey) (n : Int), x = .ref d ∧ y = .ref b ∧ NkD P w H2 d kas ∧ NkV H2 k (.ref b) ∧ k.depth ≤ 8 ∧ nkAt kas k = some n ∧ Q (.int n) H2
theorem pe_nkget (P : Program) (w : World) (h1 : X.prog = P) (h2 : X.w = w) (hu : X.A.units + 65 < cLine) (ho : PE X o td) (hi : PE X i ty) (hs : NoSl i) : PE X (.Subscript o i pos) (tNkGet P w td ty) := by
  subst h1 h2
  refine ⟨fun pins s σ H Q I h => ?_⟩
  refine subD_of PySem.F.slot_dict_getitem.lookup hs (thn (ho.run pins s σ H _ I h) fun u s1 ⟨x, H1, I1, rx, q1⟩ => thn (hi.run pins s1 σ H1 _ I1 q1) fun iv s2 ⟨y, H2, I2, ry, d, b, kas, k, n, ex, ey, D, kv, dp, hk, q2⟩ => ?_)
  subst ex ey
  obtain rfl : u = Value.ref d := rx
  obtain rfl : iv = Value.ref b := ry
  obtain ⟨a1, a2, xs, al, dd⟩ := D.get I2.hok
  refine ⟨dd.typeIs, ?_⟩
  rcases nk_at (k := k) al with ⟨z1, z2⟩ | ⟨m, a, t, z1, z2⟩
  · rw [z1] at hk; cases hk
  · rw [z1] at hk
    cases hk
    exact wpAny_getItem_heap (nk_room hu) ⟨NkV.is I2.hok kv rfl, dp⟩ dd z2 ⟨.int n, H2, I2.tok _, ⟨t, rfl⟩, q2⟩
/-- len(d) -/
theorem call_lenNk (P : Program) (w : World) (h1 : X.prog = P) (h2 : X.w = w) : CallR X (.builtin "len") (fun vs H Q => ∃ (d : Addr) (kas : List (NestedKey × Addr × Int)), vs = [.ref d] ∧ NkD P w H d kas ∧ Q (.int (kas.length : Nat)) H) := by
  subst h1 h2
  intro pins s σ H vs us Q I r asked
  obtain ⟨d, kas, rfl, D, q⟩ := asked
  obtain ⟨u, rfl, ru⟩ := vals1 r
  obtain rfl : u = Value.ref d := ru
  obtain ⟨a1, a2, xs, al, dd⟩ := D.get I.hok
  have l := al.length
  refine PySem.call_len_dictH a1 dd (by rw [← l]; rw [sizeLine_eq] at a2; omega) ?_
  exact ⟨.int (kas.length : Nat), H, I.tok _, ⟨_, by rw [l]⟩, q⟩
/-- d[y] = v, y not yet in d -/
def sNkPut (P : Program) (w : World) (td ty tv : TE) : TS := fun D σ H => tv σ H fun v H1 => td σ H1 fun x H2 => ty σ H2 fun y H3 => ∃ (d b : Addr) (kas : List (NestedKey × Addr × Int)) (k : NestedKey) (n : Int), x = .ref d ∧ y = .ref b ∧ v = .int n ∧ NkD P w H3 d kas ∧ NkV H3 k (.ref b) ∧ k.depth ≤ 8 ∧ nkAt kas k = none ∧ kas.length < sizeLine ∧
  (NkD P w (upd H3 d (nkO P w d (kas ++ [(k, b, n)]))) d (kas ++ [(k, b, n)]) → D.nx σ (upd H3 d (nkO P w d (kas ++ [(k, b, n)]))))
theorem ps_nkput {value : Expr} (P : Program) (w : World) (h1 : X.prog = P) (h2 : X.w = w) (hu : X.A.units + 65 < cLine) (ho : PE X o td) (hi : PE X i ty) (hv : PE X value tv) (hs : swapsWith value (some (.Subscript o i pos')) pos.line X.env = pure false) :
    PS X (.Assign [.Subscript o i pos'] value pos) (sNkPut P w td ty tv) := by
  subst h1 h2
  refine ⟨fun pins s σ H D I h => ?_⟩
  refine wpAny_Assign_Subscript (thn (hv.run pins s σ H _ I h) fun r s1 ⟨v, H1, I1, rv, q1⟩ => thn (ho.run pins s1 σ H1 _ I1 q1) fun u s2 ⟨x, H2, I2, rx, q2⟩ => thn (hi.run pins s2 σ H2 _ I2 q2) fun iv s3 ⟨y, H3, I3, ry, d, b, kas, k, n, ex, ey, ev, Dk, kv, dp, hk, hl, q3⟩ => ?_) hs
  subst ex ey ev
  obtain rfl : u = Value.ref d := rx
  obtain rfl : iv = Value.ref b := ry
  obtain ⟨t, rfl⟩ := (show ∃ t, r = Value.int n t from rv)
  obtain ⟨a1, a2, xs, al, dd⟩ := Dk.get I3.hok
  have l := al.length
  have z2 : atKey xs k = none := by
    rcases nk_at (k := k) al with ⟨z1, z2⟩ | ⟨m, a, t, z1, z2⟩
    · exact z2
    · rw [z1] at hk; cases hk
  refine wpAny_setItem_heap (hsz := by rw [← l]; exact a2) (nk_room hu) ⟨NkV.is I3.hok kv rfl, dp⟩ dd fun h' dd' hsb => ?_
  rw [storedH_new z2] at dd'
  obtain ⟨ob, es, ep, g1, g2, g3, g4, g5, g6⟩ := dd'
  have kp : TK H3 (upd H3 d (nkO X.prog X.w d (kas ++ [(k, b, n)]))) := fun a ys e => by
    rw [upd_ne (ne_of e Dk.at_ (fun z => nkO_tup z.symm))]
    exact e
  have new : nkObj X.prog X.w d (kas ++ [(k, b, n)]) h' := ⟨a1, by rw [List.length_append]; exact hl, _, al.snoc ⟨rfl, rfl, t, rfl⟩, ob, es, ep, g1, g2, g3, g4, g6⟩
  refine ⟨σ, _, d_write I3 (by rw [Dk.at_]; exact True.intro) hsb ⟨ob, g1⟩ (nkObj_ok new), q3 ⟨upd_same, fun q hq => ?_⟩⟩
  rcases List.mem_append.mp hq with hq | hq
  · exact ⟨(Dk.key q hq).1.keep kp, (Dk.key q hq).2⟩
  · rw [List.mem_singleton.mp hq]
    exact ⟨kv.keep kp, dp⟩
end
/-! ### numbers from 0 on, slices -/
abbrev nV (n : Nat) : V := .int ((n : Nat) : Int)
theorem cut_drop (xs : List V) (k : Nat) : cutV xs (some ((k : Nat) : Int)) none = xs.drop k := by
  unfold cutV
  rw [HT.sIx_nat, HT.sIx_none]
  rcases Nat.le_total k xs.length with h | h
  · rw [Nat.min_eq_left h, List.take_of_length_le]
    rw [List.length_drop]; exact Nat.le_refl _
  · rw [Nat.min_eq_right h, Nat.sub_self, List.take_zero, List.drop_eq_nil_of_le h]
/-! ### slices and sums of tuples, whatever they are -/
theorem slA_of {K : PySem.W.Frag} {H : Hp} {a : Addr} {xs : List V} {lo hi : Option Int} {Q : VK} (h : H a = some (.tup xs)) (k : ∀ (p : Addr) (H' : Hp), H' p = some (.tup (cutV xs lo hi)) → Same H H' → Q (.ref p) H') : rSlA K (.ref a) lo hi H Q := by
  refine ⟨a, xs, rfl, SqT.of h, fun z => k a H ?_ (Same.refl _), fun _ p np => k p _ upd_same (same_new np)⟩
  unfold cutV
  rw [z.1, z.2, List.drop_zero, Nat.sub_zero, List.take_length]
  exact h
theorem catA_of {K : PySem.W.Frag} {H : Hp} {a b : Addr} {xs ys : List V} {Q : VK} (h : H a = some (.tup xs)) (g : H b = some (.tup ys)) (l : xs.length + ys.length ≤ 1000) (k : ∀ (p : Addr) (H' : Hp), H' p = some (.tup (xs ++ ys)) → Same H H' → Q (.ref p) H') : rCatA K (.ref a) (.ref b) H Q := by
  refine ⟨a, b, xs, ys, rfl, rfl, SqT.of h, SqT.of g, little l, fun e => k b H ?_ (Same.refl _), fun _ e => k a H ?_ (Same.refl _), fun _ _ p np => k p _ upd_same (same_new np)⟩
  · rw [e]; exact g
  · rw [e, List.append_nil]; exact h
theorem cut_take (xs : List V) (k : Nat) : cutV xs none (some ((k : Nat) : Int)) = xs.take k := by
  unfold cutV
  rw [HT.sIx_nat, HT.sIx_none, List.drop_zero, Nat.sub_zero]
  by_cases h : k ≤ xs.length
  · rw [Nat.min_eq_left h]
  · rw [Nat.min_eq_right (by omega), List.take_length, List.take_of_length_le (by omega)]
theorem cut_part {xs : List V} {lo hi : Option Int} : ∀ x ∈ cutV xs lo hi, x ∈ xs := fun x hx => List.mem_of_mem_drop (List.mem_of_mem_take hx)
theorem cut_nats {ns : List Nat} {lo hi : Option Int} : ∃ ms : List Nat, cutV (ns.map nV) lo hi = ms.map nV ∧ ms.length ≤ ns.length ∧ ∀ x ∈ ms, x ∈ ns := by
  refine ⟨(ns.drop (HT.sIx (ns.map nV).length 0 lo)).take (HT.sIx (ns.map nV).length (ns.map nV).length hi - HT.sIx (ns.map nV).length 0 lo), ?_, ?_, fun x hx => List.mem_of_mem_drop (List.mem_of_mem_take hx)⟩
  · unfold cutV
    rw [List.map_take, List.map_drop]
  · rw [List.length_take, List.length_drop]
    omega
section
variable {P : Program} {w : World} {K : PySem.W.Frag} {mg : Str → Option Value} {base : Heap}
def sp_law_flow (K : PySem.W.Frag) : Sp := fun vs H Q _ => ∃ (a : Addr) (ns : List Int), vs = [.ref a] ∧ SqL K H a (ns.map V.int) ∧ ∀ (f c : Addr) (H' : Hp), H f = none → H c = none → Flow H' f c → Same H H' → Q (.ref f) H'
theorem ok_law_flow {f : Addr} {fd : FuncData} (F : Fun K "_law_flow" "_law_flow" s_law_flow f fd) {C : Addr} (T : Top w K mg C) : FnOk P w K mg base CX0 1 f fd ["_law_script"] (sp_law_flow K) := by
  refine F.ok sc_law_flow (fun vs H Q E h => ?_) (fun cdv A outer s H vs Q E hr h => ?_)
  · obtain ⟨a, ns, rfl, _⟩ := h
    rfl
  obtain ⟨a, ns, rfl, hS, q⟩ := h
  refine ⟨_, (pss_one (ps_ret (pe_lst (pa_cons (pe_callTy (call_list_ofK K rfl) (by rfl) T.m_list (by decide +kernel) (pa_cons (pv 0) pa_nil)) (pa_cons pe_int (pa_cons pe_int (pa_cons pe_int (pa_cons pe_int pa_nil)))))))), ?_⟩
  refine ⟨_, rfl, a, _, rfl, .inl hS, fun c hc => ?_⟩
  refine ⟨(by show 5 ≤ sizeLine; decide), fun f hf => ?_⟩
  have nf : H f = none := by
    cases e : H f with
    | none => rfl
    | some o => rw [same_new hc _ _ e] at hf; cases hf
  have s1 := same_new (o := .lst (ns.map V.int)) hc
  refine q f c _ nf hc ⟨ns, 0, 0, 1, 0, upd_same, same_new hf _ _ upd_same, by decide, by decide, by decide, by decide⟩ fun b o e => same_new hf _ _ (s1 _ _ e)
def sp_law_pick (K : PySem.W.Frag) : Sp := fun vs H Q _ => ∃ (f c : Addr) (m : Int), vs = [.ref f, .int m] ∧ 0 < m ∧ m.natAbs.log2 < 9000 ∧ Flow H f c ∧
  ∀ (v : Int) (H' : Hp), 0 ≤ v → v < m → Flow H' f c → But f H H' → Q (.int v) H'
theorem ok_law_pick {f : Addr} {fd : FuncData} (F : Fun K "_law_pick" "_law_pick" s_law_pick f fd) {C : Addr} (T : Top w K mg C) : FnOk P w K mg base CX0 1 f fd ["_law_flow_here", "_law_many"] (sp_law_pick K) := by
  refine F.ok sc_law_pick (fun vs H Q E h => ?_) (fun cdv A outer s H vs Q E hr h => ?_)
  · obtain ⟨f, c, m, rfl, _⟩ := h
    rfl
  obtain ⟨f, c, m, rfl, m0, m9, hF, q⟩ := h
  obtain ⟨ns, i, p, z, r, hf, hc, hi, hp, hz, hz2⟩ := hF
  have ncf : c ≠ f := ne_of hc hf (by intro e; injection e with e; cases ns with | nil => cases e | cons x l => cases e)
  let R1 : TS := fun D' σ' H' => D'.rt = Q ∧ ∃ x2 : Option V, σ' = [some (.ref f), some (.int m), x2, none] ∧ (∃ (i p z r : Int), H' f = some (.lst [.ref c, .int i, .int p, .int z, .int r]) ∧ H' c = some (.lst (ns.map V.int)) ∧ 0 ≤ i ∧ 0 ≤ p ∧ 0 ≤ z ∧ z < 2147483647) ∧ But f H H'
  refine ⟨_, (pss_cons (ps_if (PW.pt (pw_and (pt_cmpR op_eq (pe_ix (ix_listK K rfl) (pv 0) pe_int (fun _ _ => rfl)) pe_int (nomark _)) (pw_and1 (pt_cmpR op_lt (pe_ix (ix_listK K rfl) (pv 0) pe_int (fun _ _ => rfl)) (pe_callB (call_len_seqK K rfl) (by rfl) T.m_len (by decide +kernel) (pa_cons (pe_ix (ix_listK K rfl) (pv 0) pe_int (fun _ _ => rfl)) pa_nil)) (nomark _))))) (pss_cons (ps_set (i := 2) sc_law_pick.nd rfl (Or.inl rfl) (pe_ix (ix_listK K rfl) (pe_ix (ix_listK K rfl) (pv 0) pe_int (fun _ _ => rfl)) (pe_ix (ix_listK K rfl) (pv 0) pe_int (fun _ _ => rfl)) (fun _ _ => rfl)))
      (pss_cons (ps_asg (pe_op op_add (pe_ix (ix_listK K rfl) (pv 0) pe_int (fun _ _ => rfl)) pe_int) (pg_sub (pv 0) pe_int set_list))
      (pss_one (ps_if (pt_cmpR op_ge (pv 2) (pe_op op_pow pe_int pe_int) (nomark _)) (pss_one (ps_asg (pv 2) (pg_sub (pv 0) pe_int set_list))) (pss_one (ps_asg (pe_op op_mod (pe_op op_add (pe_op op_add (pe_op op_mul (pe_ix (ix_listK K rfl) (pv 0) pe_int (fun _ _ => rfl)) pe_int) (pe_op op_mod (pv 2) pe_int)) pe_int) pe_int) (pg_sub (pv 0) pe_int set_list))))))) pss_nil)
      (PSs.to (pss_cons (ps_if (pt_cmpR op_gt (pe_ix (ix_listK K rfl) (pv 0) pe_int (fun _ _ => rfl)) pe_int (nomark _)) (pss_cons (ps_set (i := 3) sc_law_pick.nd rfl (Or.inl rfl) (pe_op op_mod (pe_ix (ix_listK K rfl) (pv 0) pe_int (fun _ _ => rfl)) (pv 1)))
      (pss_cons (ps_asg (pe_op op_fdivW (pe_ix (ix_listK K rfl) (pv 0) pe_int (fun _ _ => rfl)) (pv 1)) (pg_sub (pv 0) pe_int set_list))
      (pss_one (ps_ret (pv 3))))) pss_nil)
      (pss_cons (ps_asg (pe_op op_add (pe_ix (ix_listK K rfl) (pv 0) pe_int (fun _ _ => rfl)) pe_int) (pg_sub (pv 0) pe_int set_list))
      (pss_cons (ps_asg (pe_op op_mod (pe_op op_add (pe_op op_add (pe_op op_mul (pe_ix (ix_listK K rfl) (pv 0) pe_int (fun _ _ => rfl)) pe_int) pe_int) (pe_ix (ix_listK K rfl) (pv 0) pe_int (fun _ _ => rfl))) pe_int) (pg_sub (pv 0) pe_int set_list))
      (pss_one (ps_ret (pe_op op_mod (pe_op op_fdiv (pe_op op_mod (pe_op op_mul (pe_op op_add (pe_op op_mod (pe_ix (ix_listK K rfl) (pv 0) pe_int (fun _ _ => rfl)) pe_int) pe_int) (pe_op op_add (pe_op op_fdiv (pe_ix (ix_listK K rfl) (pv 0) pe_int (fun _ _ => rfl)) pe_int) pe_int)) pe_int) pe_int) (pv 1))))))) R1 ?tail1)), ?_⟩
  case tail1 =>
    rintro D' σ' H1 ⟨eD, x2, rfl, ⟨i, p, z, r, hf, hc, hi, hp, hz, hz2⟩, bt⟩
    refine ⟨_, rfl, f, _, _, _, rfl, rfl, SqL.of hf, atI_nat (j := 2) rfl, _, _, rfl, rfl, _, rfl, if_bl (fun c1 => ?_) (fun c1 => ?_)⟩
    · refine ⟨_, rfl, f, _, _, _, rfl, rfl, SqL.of hf, atI_nat (j := 2) rfl, _, rfl, _, _, rfl, rfl, m0, ?_⟩
      refine ⟨_, rfl, f, _, _, _, rfl, rfl, SqL.of hf, atI_nat (j := 2) rfl, _, rfl, _, _, rfl, rfl, ⟨m0, m9⟩, _, rfl, f, _, _, 2, rfl, rfl, hf, rfl, ?_⟩
      refine ⟨_, rfl, ?_⟩
      rw [eD]
      exact q _ _ (Int.emod_nonneg _ (by omega)) (Int.emod_lt_of_pos _ m0) ⟨ns, i, p / m, z, r, upd_same, (by rw [upd_ne ncf]; exact hc), hi, Int.ediv_nonneg hp (by omega), hz, hz2⟩ bt.upd
    · refine ⟨_, rfl, f, _, _, _, rfl, rfl, SqL.of hf, atI_nat (j := 4) rfl, _, _, rfl, rfl, _, rfl, f, _, _, 4, rfl, rfl, hf, rfl, ?_⟩
      have hf2 : upd H1 f (.lst ([V.ref c, V.int i, V.int p, V.int z, V.int r].set 4 (V.int (r + 1)))) f = some (.lst [.ref c, .int i, .int p, .int z, .int (r + 1)]) := upd_same
      refine ⟨_, rfl, f, _, _, _, rfl, rfl, SqL.of hf2, atI_nat (j := 3) rfl, _, _, rfl, rfl, .inl ⟨by omega, by omega⟩, _, _, rfl, rfl, _, rfl, f, _, _, _, rfl, rfl, SqL.of hf2, atI_nat (j := 4) rfl, _, _, rfl, rfl, _, _, rfl, rfl, (by show (0 : Int) < 2147483647; decide), _, rfl, f, _, _, 3, rfl, rfl, hf2, rfl, ?_⟩
      have z0 : 0 ≤ (z * 48271 + 12820163 + (r + 1)) % 2147483647 := Int.emod_nonneg _ (by decide)
      have z1 : (z * 48271 + 12820163 + (r + 1)) % 2147483647 < 2147483647 := Int.emod_lt_of_pos _ (by decide)
      have hf3 : upd (upd H1 f (.lst ([V.ref c, V.int i, V.int p, V.int z, V.int r].set 4 (V.int (r + 1))))) f (.lst ([V.ref c, V.int i, V.int p, V.int z, V.int (r + 1)].set 3 (V.int ((z * 48271 + 12820163 + (r + 1)) % 2147483647)))) f =
        some (.lst [.ref c, .int i, .int p, .int ((z * 48271 + 12820163 + (r + 1)) % 2147483647), .int (r + 1)]) := upd_same
      have hc3 : upd (upd H1 f (.lst ([V.ref c, V.int i, V.int p, V.int z, V.int r].set 4 (V.int (r + 1))))) f (.lst ([V.ref c, V.int i, V.int p, V.int z, V.int (r + 1)].set 3 (V.int ((z * 48271 + 12820163 + (r + 1)) % 2147483647)))) c = some (.lst (ns.map V.int)) := by
        rw [upd_ne ncf, upd_ne ncf]
        exact hc
      refine ⟨_, rfl, f, _, _, _, rfl, rfl, SqL.of hf3, atI_nat (j := 3) rfl, _, _, rfl, rfl, (by show (0 : Int) < 65521; decide), _, _, rfl, rfl, _, rfl, f, _, _, _, rfl, rfl, SqL.of hf3, atI_nat (j := 3) rfl, _, _, rfl, rfl, ⟨by decide, by decide⟩, _, _, rfl, rfl, _, _, rfl, rfl, .inl ⟨?_, ?_⟩, _, _, rfl, rfl, (by show (0 : Int) < 1000003; decide), _, _, rfl, rfl, ⟨by decide, by decide⟩, _, rfl, _, _, rfl, rfl, m0, ?_⟩
      · omega
      · omega
      · rw [eD]
        exact q _ _ (Int.emod_nonneg _ (by omega)) (Int.emod_lt_of_pos _ m0) ⟨ns, i, p, _, r + 1, hf3, hc3, hi, hp, z0, z1⟩ bt.upd.upd
  refine ⟨_, rfl, f, _, _, _, rfl, rfl, SqL.of hf, atI_nat (j := 2) rfl, rfl, _, rfl, if_bl (fun c1 => ?_) (fun c1 => ?_)⟩
  · refine ⟨_, rfl, f, _, _, _, rfl, rfl, SqL.of hf, atI_nat (j := 1) rfl, _, rfl, f, _, _, _, rfl, rfl, SqL.of hf, atI_nat (j := 0) rfl, c, _, rfl, .inl (SqL.of hc), _, _, rfl, rfl, _, rfl, if_bl (fun c2 => ?_) (fun c2 => ?_)⟩
    · have c3 : i < ((ns.map V.int).length : Int) := of_decide_eq_true c2
      rw [List.length_map] at c3
      obtain ⟨v, hv⟩ := at_ints hi c3
      refine ⟨_, rfl, f, _, _, _, rfl, rfl, SqL.of hf, atI_nat (j := 0) rfl, _, rfl, f, _, _, _, rfl, rfl, SqL.of hf, atI_nat (j := 1) rfl, c, _, i, _, rfl, rfl, SqL.of hc, hv, ?_⟩
      refine ⟨_, rfl, f, _, _, _, rfl, rfl, SqL.of hf, atI_nat (j := 1) rfl, _, _, rfl, rfl, _, rfl, f, _, _, 1, rfl, rfl, hf, rfl, ?_⟩
      have hf2 : upd H f (.lst ([V.ref c, V.int i, V.int p, V.int z, V.int r].set 1 (V.int (i + 1)))) f = some (.lst [.ref c, .int (i + 1), .int p, .int z, .int r]) := upd_same
      refine ⟨_, rfl, _, _, rfl, rfl, ⟨by decide, by decide, by decide⟩, _, _, rfl, rfl, _, rfl, if_bl (fun c4 => ?_) (fun c4 => ?_)⟩
      · have c5 : (10 : Int) ^ (18 : Int).toNat ≤ v := of_decide_eq_true c4
        have c6 : (0 : Int) ≤ (10 : Int) ^ (18 : Int).toNat := by decide
        refine ⟨_, rfl, _, rfl, f, _, _, 2, rfl, rfl, hf2, rfl, rfl, _, rfl, ⟨i + 1, v, z, r, upd_same, ?_, by omega, by omega, hz, hz2⟩, But.refl.upd.upd⟩
        rw [upd_ne ncf, upd_ne ncf]
        exact hc
      · refine ⟨_, rfl, f, _, _, _, rfl, rfl, SqL.of hf2, atI_nat (j := 3) rfl, _, _, rfl, rfl, .inl ⟨by omega, by omega⟩, _, rfl, _, _, rfl, rfl, (by show (0 : Int) < 1000003; decide), _, _, rfl, rfl, _, _, rfl, rfl, _, _, rfl, rfl, (by show (0 : Int) < 2147483647; decide), _, rfl, f, _, _, 3, rfl, rfl, hf2, rfl, rfl, _, rfl, ⟨i + 1, p, _, r, upd_same, ?_, by omega, hp, Int.emod_nonneg _ (by decide), Int.emod_lt_of_pos _ (by decide)⟩, But.refl.upd.upd⟩
        rw [upd_ne ncf, upd_ne ncf]
        exact hc
    · exact ⟨rfl, _, rfl, ⟨i, p, z, r, hf, hc, hi, hp, hz, hz2⟩, But.refl⟩
  · exact ⟨rfl, _, rfl, ⟨i, p, z, r, hf, hc, hi, hp, hz, hz2⟩, But.refl⟩
end
theorem op_notB {X : Cx} : OpR X (compareOp .IsNot) (fun x y H Q => ∃ a b : Bool, x = .bl a ∧ y = .bl b ∧ Q (.bl (!decide (a = b))) H) := by
  intro pins s σ H x y v u Q I rx ry h
  obtain ⟨a, b, rfl, rfl, q⟩ := h
  obtain rfl : v = Value.bool a := rx
  obtain rfl : u = Value.bool b := ry
  exact wpAny_isNot_plain rfl (fin_bl I q (by cases a <;> cases b <;> rfl))
theorem op_isB {X : Cx} : OpR X (compareOp .Is) (fun x y H Q => ∃ a b : Bool, x = .bl a ∧ y = .bl b ∧ Q (.bl (decide (a = b))) H) := by
  intro pins s σ H x y v u Q I rx ry h
  obtain ⟨a, b, rfl, rfl, q⟩ := h
  obtain rfl : v = Value.bool a := rx
  obtain rfl : u = Value.bool b := ry
  exact wpAny_is_plain rfl (fin_bl I q (by cases a <;> cases b <;> rfl))
/-! ### a name told a dict written out -/
section
variable {X : Cx}
theorem ps_setDc {i : Nat} {y : Str} {py : Pos} {kx vx tg iter : Expr} {ifs : List Expr} {scope : Scope} {own : List (Str × Nat)} {pos spos : Pos} {wi : TI} {g : TG} {tt : TT} {tk tv : TE} (hc : X.calm = true) (hN : X.N.Nodup) (hy : X.N[i]? = some y) (hyl : X.env.scope.names.lookup y = some .local)
    (hsw : swapsWith (.DictComp kx vx [⟨tg, iter, ifs, 0⟩] scope pos) (some (.Name y py)) spos.line X.env = pure true) (hi : L2.PI X tg iter wi) (ok : BlkOk X.N X.env.scope scope own)
    (hg : ∀ (s : Shared) (H : Hp) (C : Addr) (cl : List (Str × Addr)) (fp : List Addr), L2.PG (X.blk s H scope (compEnvC scope cl C X.env) fp) tg g) (ht : ∀ (s : Shared) (H : Hp) (C : Addr) (cl : List (Str × Addr)) (fp : List Addr), PTs (X.blk s H scope (compEnvC scope cl C X.env) fp) ifs tt)
    (hk : ∀ (s : Shared) (H : Hp) (C : Addr) (cl : List (Str × Addr)) (fp : List Addr), L2.PE (X.blk s H scope (compEnvC scope cl C X.env) fp) kx tk)
    (he : ∀ (s : Shared) (H : Hp) (C : Addr) (cl : List (Str × Addr)) (fp : List Addr), L2.PE (X.blk s H scope (compEnvC scope cl C X.env) fp) vx tv) (hs : ∀ x, foldedSetIterable iter X.env x = pure x := by intro _; rfl) :
    PS X (.Assign [.Name y py] (.DictComp kx vx [⟨tg, iter, ifs, 0⟩] scope pos) spos) (tAsg (tDc wi g tt tk tv (own.map (·.2))) (gName i)) := by
  refine ⟨fun pins s σ H D I h => ?_⟩
  rw [exec_Assign_Name_used _ _ _ _ hsw]
  refine wpAny_bind (wpAny_standAt (wpAny_bind ?_))
  show wpAny _ X.A (do let _ ← comprehension (.DictComp kx vx [⟨tg, iter, ifs, 0⟩] scope pos) scope X.env (firstIterPos [⟨tg, iter, ifs, 0⟩] pos) newDict false (eval iter X.env) (some (assign (.Name y py) X.env))) _ _ s
  have h : tDc wi g tt tk tv (own.map (·.2)) σ H (fun x H1 => gName i x σ H1 D.nx) := h
  refine wpAny_bind (thn (dc_core (Qf := fun _ s' => SP X pins D .next s') hc hN I hi ok hg ht hk he hs h fun L C s' m H' I' q hn f => ?_) fun _ s' hq => wpAny_pure (wpAny_pure hq))
  refine wpAny_assign_Name (store_ok2 (v := V.ref L) I' hN hy (.inl hyl) rfl (fun s2 I2 ⟨a, sb, ha⟩ => ?_) (.inr hyl))
  obtain ⟨f0, f1, f2, f3, f4, f5⟩ := f
  have haC : C ≠ a := ha.elim (fun z => by rw [z]; exact f1) fun z e => f4 y a z e.symm
  exact ⟨m, hn.sameBut sb haC, fun h3 sb3 => ⟨_, H', I2.turned (t' := s2.toks) (fun b o hb e => (sb3.2 b hb).trans e) f0 f1 f3 f4 f5, q⟩⟩
theorem sw_dc {kx vx : Expr} {gs : List Comprehension} {scope : Scope} {pos py : Pos} {y : Str} {l : Nat} {env : Env} (hk : env.scope.kind = .function) (hy : env.scope.names.lookup y = some .local) (hl : (py.line == pos.line) = true)
    (ha : (scope.names.any fun (n, k) => n == y && (k == .local || k == .cell)) = false) : swapsWith (.DictComp kx vx gs scope pos) (some (.Name y py)) l env = pure true := by
  have ky : env.kindOf y = some .local := hy
  have hb : env.blockKind = .function := by unfold Env.blockKind; rw [hk]; rfl
  unfold swapsWith
  simp only [hb, ky, ha, Expr.pos, hl]
  rfl
end
/-- a tuple known to its object, which has no names of its own -/
theorem SqT.fz {K : PySem.W.Frag} {H : Hp} {a : Addr} {o : Obj} {xs : List V} (h : H a = some (.frz o (.tup xs))) : SqT K H a xs := .inl (.inr ⟨o, h⟩)
def rTupOfF (K : PySem.W.Frag) : List V → Hp → VK → Prop := fun xs H Q => ∃ p ys, xs = [.ref p] ∧ SqL K H p ys ∧ ∀ l ob, ob.dict = none → H l = none → Q (.ref l) (upd H l (.frz ob (.tup ys)))
theorem call_tuple_ofF {X : Cx} (K : PySem.W.Frag) (same : X.K = K) : CallR X (.type "tuple") (rTupOfF K) := by
  subst same
  intro pins s σ H xs us Q I r h
  obtain ⟨p, ys, ex, sq, q⟩ := h
  subst ex
  obtain ⟨_, rfl, rx⟩ := vals1 r
  cases rx
  obtain ⟨its, rv, pl, few⟩ := I.list sq
  have len := rv.length
  refine call_tuple_list pl.isList (fun h' kp => ?_) (by simp only [List.size_toArray] <;> omega)
  have J : Inv X pins σ H { s with heap := h' } := I.kept (t' := s.toks) kp
  have at_ : (h'.push { cls := .type "tuple", data := .seq its.toArray }).get? h'.objs.size = some { cls := .type "tuple", data := .seq its.toArray } := Heap.get?_push_size _ rfl
  refine ⟨.ref h'.objs.size, _, J.laid (o := .frz { cls := .type "tuple", data := .seq its.toArray } (.tup ys)) (t' := s.toks) (fun b o e => Heap.get?_push_of_some _ e) (Nat.le_refl _) ⟨at_, few, its, rv, IsTup.new _ _⟩, rfl, q _ _ rfl (J.hok.fresh (Nat.le_refl _))⟩
/-! ### dict(t) of a tuple of pairs -/
section
open PySem
theorem pairs_ofT {X : Cx} {pins : List (Addr × Obj)} {σ : L2.St} {H : Hp} {s : Shared} (I : Inv X pins σ H s) : ∀ {ps : List Addr} {kvs : List (Key × V)}, Paired (fun p kv => SqT X.K H p [kV kv.1, kv.2]) ps kvs →
    ∃ (prs : List (Key × Value)) (us : List (Value × Value)), KV kvs prs ∧ prs.length = ps.length ∧ us.length = ps.length ∧ ∀ (j : Nat) (k v : Value), us[j]? = some (k, v) → ∃ (b : Addr) (q : Key), ps[j]? = some b ∧ prs[j]? = some (q, v) ∧ IsTup s.heap b #[k, v] ∧ keyIs q k = true
  | _, _, .nil => ⟨[], [], .nil, rfl, rfl, fun j k v e => by simp at e⟩
  | _, _, .cons (a := p) (b := kv) h t => by
    obtain ⟨prs, us, r, hl, hu, hp⟩ := pairs_ofT I t
    obtain ⟨its, rv, ht, _⟩ := I.tuple h
    obtain ⟨u, y, ei, ru, ry⟩ := vals2 rv
    subst ei
    refine ⟨(kv.1, y) :: prs, (u, y) :: us, .cons ⟨rfl, ry⟩ r, by rw [List.length_cons, List.length_cons, hl], by rw [List.length_cons, List.length_cons, hu], fun j k v e => ?_⟩
    cases j with
    | zero =>
      obtain ⟨rfl, rfl⟩ := Prod.mk.inj (Option.some.inj e)
      exact ⟨p, kv.1, rfl, rfl, ht, kV_is (P := X.prog) (w := X.w) ru⟩
    | succ j =>
      obtain ⟨b, q, e1, e2, e3, e4⟩ := hp j k v (by simpa using e)
      exact ⟨b, q, by simpa using e1, by simpa using e2, e3, e4⟩
theorem call_dictPT {X : Cx} (K : PySem.W.Frag) (same : X.K = K) (hcalm : X.calm = true) : CallR X (.type "dict") (fun xs H Q => ∃ (a : Addr) (ob : Obj) (ps : List Addr) (kvs : List (Key × V)), xs = [.ref a] ∧ ob.dict = none ∧ H a = some (.frz ob (.tup (ps.map V.ref))) ∧ Paired (fun p kv => SqT K H p [kV kv.1, kv.2]) ps kvs ∧
    ∀ p, H p = none → Q (.ref p) (upd H p (.dK (mergeK [] kvs)))) := by
  subst same
  intro pins s σ H xs us Q I r q
  obtain ⟨a, ob, ps, kvs, ex, hd, ha, hp, q⟩ := q
  subst ex
  obtain ⟨u, eu, rx⟩ := vals1 r
  subst eu
  cases rx
  obtain ⟨its, rv, pt, hz⟩ := I.tuple (SqT.fz ha)
  have ei := refs_at rv
  subst ei
  rw [List.length_map] at hz
  obtain ⟨prs, us, rel, hl, hu, hpr⟩ := pairs_ofT I hp
  have got : s.heap.get? a = some ob := (I.hok a _ ha).1
  obtain ⟨o, ho, hc, n, hdat⟩ := pt
  obtain rfl : ob = o := Option.some.inj (got.symm.trans ho)
  have P := PairArg.tuple (prog := X.prog) (w := X.w) a (ps.map Value.ref).toArray (fun j => ps.getD j 0) us
  refine _root_.PySem.call_dict_pairs (knd := mixKind X.prog X.w) (kvs := prs) P (I.ok.hd hcalm) ⟨⟨ob, n, ho, hc, hd, hdat⟩, by simp [hu], fun j k v e => ?_⟩ ⟨by rw [hl, hu], fun i k v e => ?_⟩ (by rw [hu]; exact hz) fun h' tk hd' kp => ?_
  · obtain ⟨b, q, e1, e2, e3, e4⟩ := hpr j k v e
    refine ⟨by simp [e1], .inl ?_⟩
    have : ps.getD j 0 = b := by rw [List.getD_eq_getElem?_getD, e1]; rfl
    show _
    simp only [this]
    exact e3
  · obtain ⟨b, q, e1, e2, e3, e4⟩ := hpr i k v e
    exact ⟨q, e2, e4⟩
  · have notS : (s.heap.objs.size == sysModules) = false := beq_eq_false_iff_ne.mpr fun z => Nat.lt_irrefl _ (z ▸ I.big)
    have few : (mergeK [] kvs).length ≤ sizeLine := Nat.le_trans (length_mergeK kvs []) (by rw [rel.length, hl, List.length_nil, Nat.zero_add]; exact hz)
    exact ⟨.ref s.heap.objs.size, upd H s.heap.objs.size (.dK (mergeK [] kvs)), I.laid (t' := tk) (fun b o e => kp b o (fun z => nomatch z) e) (Nat.le_refl _) (show ObjOk X.prog X.w _ _ _ (.dK (mergeK [] kvs)) from ⟨few, notS, merged [] prs, KV.merge rel .nil, hd'⟩), rfl, q _ (I.hok.fresh (Nat.le_refl _))⟩
end
/-! ### xs[a:] = ys as a target -/
section
open PySem.Spec
variable {prog : Program} {w : World} {A : Around} {E : Value → Shared → Prop} {s : Shared}
theorem tail_run {a n : Nat} (h : a ≤ n) : sliceBounds (some ((a : Nat) : Int)) none none n = (((a : Nat) : Int), ((n : Nat) : Int), 1) := by
  have low : ¬ ((a : Nat) : Int) < 0 := fun z => by omega
  unfold sliceBounds
  simp only [Option.getD_none, low, if_false, Int.one_pos, gt_iff_lt, if_true, Prod.mk.injEq, and_true]
  omega
set_option maxRecDepth 100000 in
theorem tail_slice {l b sl : Addr} {items new : Array Value} {n n2 a : Nat} {vl vu : Value} {Q : Unit → Shared → Prop} (e : s.heap.get? l = some { cls := .type "list", data := .seq items n }) (e2 : s.heap.get? b = some { cls := .type "list", data := .seq new n2 }) (hne : l ≠ b)
    (hs : s.heap.IsSliceOf sl vl vu .none) (pl : IsPart vl (some ((a : Nat) : Int))) (pu : IsPart vu none) (ha : a ≤ items.size) (hsz : items.size + new.size ≤ sizeLine) (h : Q () { s with heap := s.heap.update l (Obj.mapSeq fun xs => xs.extract 0 a ++ new ++ xs.extract items.size xs.size) }) : wpAny (model prog w) A (setItem (.ref l) (.ref sl) (.ref b)) Q E s := by
  have L := PySem.IsL.isList e; have B := PySem.IsL.isList e2
  obtain ⟨os, f1, f2, f3⟩ := id hs; have T : s.TypeIs (.ref sl) "slice" := ⟨os, f1, f2⟩
  have other : Builtin.List.listSameRef (.ref l) (.ref b) = false := beq_eq_false_iff_ne.mpr hne
  have z0 : items.size + new.size ≤ sizeLine := hsz
  have z1 : ((fun xs : Array Value => xs.extract 0 a ++ new ++ xs.extract items.size xs.size) items).size ≤ sizeLine + 1 := by simp only [Array.size_append, Array.size_extract]; omega
  have hmax : (max ((a : Nat) : Int) ((items.size : Nat) : Int)).toNat = items.size := by omega
  unfold setItem; try with_reducible refine wpAny_holding ?_
  (try refine wpAny_bind (wpAny_pure ?_)); refine wpAny_bind (wpAny_sequenceKey L.typeIs (by decide) ?_)
  refine wpAny_bind (wpAny_callSpecial?_slot (name := Str.ofString "__setitem__") L.typeIs slot_list_setitem (wpAny_call_entry slot_list_setitem L.typeIs entry_list_setitem ?_ (args_list_setitem _ _ _)))
  show wpAny _ _ (Builtin.List.listSubscript? (.ref sl) >>= _) _ _ s; refine wpAny_bind ?_
  unfold Builtin.List.listSubscript?; refine wpAny_bind (wpAny_specialOf T slice_no_index ?_)
  simp only [Option.isNone_none, if_true]; refine wpAny_pure ?_
  show wpAny _ _ (typeOf (.ref sl) >>= _) _ _ s; refine wpAny_bind (wpAny_typeOf T ?_)
  (first | rw [if_neg (by decide)] | refine PySem.W.KFB.if_not (by decide) ?_); rw [listSliceParts_eq]
  refine wpAny_bind (wpAny_bind (wpAny_field f1 f3 (x := .none) rfl (wpAny_bind (wpAny_listPart .none ?_)))); rw [if_neg (show ¬ ((rawPart none == rawInt 0) = true) from Bool.false_ne_true)]
  refine wpAny_bind (wpAny_field f1 f3 (x := vl) rfl (wpAny_bind (wpAny_listPart pl ?_))); refine wpAny_bind (wpAny_field f1 f3 (x := vu) rfl (wpAny_bind (wpAny_listPart pu (wpAny_pure ?_))))
  (first | simp only [other, Bool.false_eq_true, if_false] | refine PySem.W.KFB.if_not other ?_ | (dsimp only; rw [if_neg (by rw [other]; exact Bool.false_ne_true)]))
  refine wpAny_bind (m := Builtin.List.listAllItems (.ref b) "must assign iterable to extended slice") ?_; unfold Builtin.List.listAllItems
  refine wpAny_bind (wpAny_typeOf B.typeIs ?_); (first | refine PySem.W.KFB.if_so (by decide) ?_ | rw [if_pos (by decide)] | simp only [beq_self_eq_true, Bool.true_or, if_true])
  unfold Builtin.List.listItems; refine wpAny_bind (wpAny_seqItems e2 rfl (wpAny_pure ?_))
  refine wpAny_bind (wpAny_bind (wpAny_seqItems e rfl (wpAny_pure ?_))); refine wpAny_bind (wpAny_of_eq ((sliceIndices_raw (some ((a : Nat) : Int)) none none items.size (by simp)).trans (congrArg (pure : Int × Int × Int → Sem (Int × Int × Int)) (tail_run ha))) ?_)
  show wpAny _ _ (if ((1 : Int) == 1) = true then _ else _) _ _ s; rw [if_pos (by decide)]; refine wpAny_bind (wpAny_rule ?_)
  (first | simp only [notLongL z0, Bool.false_eq_true, if_false] | refine PySem.W.KFB.if_not (notLongL z0) ?_); (try refine wpAny_bind (wpAny_pure ?_))
  show wpAny _ _ (updateSeq l (fun xs => xs.extract 0 (((a : Nat) : Int)).toNat ++ new ++ xs.extract (max ((a : Nat) : Int) ((items.size : Nat) : Int)).toNat xs.size) >>= _) _ _ s
  rw [hmax, Int.toNat_natCast]
  refine wpAny_bind (wpAny_updateSeq (hz := Nat.le_trans (Nat.le_add_right _ _) hsz) (_hz' := z1) e rfl ?_); refine wpAny_bind (wpAny_letGo ?_)
  (first | exact wpAny_bind (wpAny_pure (wpAny_pure ⟨.none, rfl, wpAny_pure h⟩)) | exact wpAny_pure ⟨.none, rfl, wpAny_pure h⟩)
end
section
variable {X : Cx} {pos p2 : Pos}
theorem tail_at {pins : List (Addr × Obj)} {s : Shared} {σ : L2.St} {H : Hp} {l b sl : Addr} {xs ys : List V} {a : Int} {vl : Value} {Q : Unit → Shared → Prop} (I : Inv X pins σ H s) (hH : H l = some (.lst xs)) (hB : H b = some (.lst ys)) (hne : l ≠ b) (hs : s.heap.IsSliceOf sl vl .none .none) (ra : RelV (.int a) vl)
    (h0 : 0 ≤ a) (h1 : a ≤ xs.length) (hz : xs.length + ys.length ≤ sizeLine) (h : ∀ s', Inv X pins σ (upd H l (.lst (xs.take a.toNat ++ ys))) s' → Q () s') : wpAny (model X.prog X.w) X.A (setItem (.ref l) (.ref sl) (.ref b)) Q X.xe s := by
  obtain ⟨ta, rfl⟩ := ra
  obtain ⟨z, its, n, r, hl, e⟩ := I.lstM hH; obtain ⟨z2, its2, n2, r2, hl2, e2⟩ := I.lstM hB
  obtain ⟨b', rfl⟩ := Int.eq_ofNat_of_zero_le h0
  rw [show ((b' : Nat) : Int).toNat = b' from Int.toNat_natCast b'] at h
  refine tail_slice (a := b') e e2 hne hs (.int _ _) .none (by rw [List.size_toArray]; omega) (by rw [List.size_toArray, List.size_toArray]; omega) (h _ ?_)
  refine I.lset (its' := its.take b' ++ its2) (t' := s.toks) hH e ?_ (Vals.append (r.take _) r2) ?_
  · have := splice_eq its its2 b' its.toArray.size
    rw [show its.drop its.toArray.size = [] by rw [List.size_toArray, List.drop_length], List.append_nil] at this
    exact this
  · rw [List.length_append, List.length_take]
    omega
/-- o[lo:] = .. -/
def gSubT (to : TE) (tl : TO) : TG := fun v σ H Q => to σ H fun o H1 => tl σ H1 fun lo H2 => ∃ (p b : Addr) (xs ys : List V) (a : Int), o = .ref p ∧ v = .ref b ∧ lo = some a ∧ H2 p = some (.lst xs) ∧ H2 b = some (.lst ys) ∧ p ≠ b ∧
  0 ≤ a ∧ a ≤ xs.length ∧ xs.length + ys.length ≤ sizeLine ∧ Q σ (upd H2 p (.lst (xs.take a.toNat ++ ys)))
theorem pg_subT {o lo : Expr} {to : TE} {tl : TO} (ho : PE X o to) (hl : PO X (some lo) tl) (ha : ∀ v, assign (.Subscript o (.Slice (some lo) none none p2) pos) X.env v = (do
      let ov ← holding [v] (eval o X.env)
      let iv ← holding [v, ov] (eval (.Slice (some lo) none none p2) X.env)
      standAt pos
      holding [v, ov, iv] (setItem ov iv v)
      release [iv, v, ov] []) := by intro _; rfl) : PG X (.Subscript o (.Slice (some lo) none none p2) pos) (gSubT to tl) := by
  refine ⟨fun pins s σ H v u Q I r h => ?_⟩
  rw [ha]
  refine wpAny_bind (wpAny_holding (thn (ho.run pins s σ H _ I h) fun ov s1 ⟨x, H1, I1, r1, q1⟩ => ?_))
  refine wpAny_bind (wpAny_holding (wpAny_Slice (thn (hl.run pins s1 σ H1 _ I1 q1) fun vl s2 ⟨l, H2, I2, pl, q2⟩ => ?_)))
  rw [evalPart_none]
  refine wpAny_pure ?_
  refine wpAny_pure ?_
  have I4 : Inv X pins σ H2 { s2 with heap := s2.heap.push { cls := .type "slice", data := .fields #[vl, .none, .none] } } := I2.kept (t' := s2.toks) fun b ob q => Heap.get?_push_of_some _ q
  obtain ⟨p, b, xs, ys, a, rfl, rfl, rfl, g1, g2, g3, g4, g5, g6, g7⟩ := q2
  cases r1
  cases r
  refine wpAny_bind (wpAny_standAt (wpAny_bind (wpAny_holding ?_)))
  refine tail_at I4 g1 g2 g3 (Heap.IsSliceOf.new ..) ?_ g4 g5 g6 fun s' I5 => ?_
  · cases pl
    exact ⟨_, rfl⟩
  · exact wpAny_release ⟨σ, _, I5, g7⟩
end
/-! ### del xs[a:] -/
section
open PySem.Spec
variable {prog : Program} {w : World} {A : Around} {E : Value → Shared → Prop} {s : Shared}
theorem kept_pre (p : Nat → Bool) : ∀ (xs : List Value) (m a : Nat), (∀ k, k < m + xs.length → p k = decide (a ≤ k)) → ((xs.zipIdx m).filterMap fun y => if p y.2 = true then none else some y.1) = xs.take (a - m)
  | [], _, _, _ => by simp
  | x :: xs, m, a, h => by
    have h0 := h m (by simp)
    have ih := kept_pre p xs (m + 1) a fun k hk => h k (by simp only [List.length_cons]; omega)
    rw [List.zipIdx_cons, List.filterMap_cons]
    dsimp only
    by_cases c : a ≤ m
    · rw [h0, decide_eq_true c, if_pos rfl]
      dsimp only
      rw [ih, Nat.sub_eq_zero_of_le c, Nat.sub_eq_zero_of_le (by omega)]
      rfl
    · rw [h0, decide_eq_false c, if_neg Bool.false_ne_true]
      dsimp only
      rw [ih, show a - m = a - (m + 1) + 1 by omega, List.take_succ_cons]
set_option maxRecDepth 100000 in
theorem tail_del {l sl : Addr} {items : Array Value} {n a : Nat} {vl : Value} {Q : Unit → Shared → Prop} (e : s.heap.get? l = some { cls := .type "list", data := .seq items n })
    (hs : s.heap.IsSliceOf sl vl .none .none) (pl : IsPart vl (some ((a : Nat) : Int))) (ha : a ≤ items.size) (hsz : items.size ≤ sizeLine) (h : ∀ f : Array Value → Array Value, f items = (items.toList.take a).toArray → Q () { s with heap := s.heap.update l (Obj.mapSeq f) }) : wpAny (model prog w) A (delItem (.ref l) (.ref sl)) Q E s := by
  have L := PySem.IsL.isList e
  obtain ⟨os, f1, f2, f3⟩ := id hs; have T : s.TypeIs (.ref sl) "slice" := ⟨os, f1, f2⟩
  unfold delItem; try with_reducible refine wpAny_holding ?_
  (try refine wpAny_bind (wpAny_pure ?_)); refine wpAny_bind (wpAny_sequenceKey L.typeIs (by decide) ?_)
  refine wpAny_bind (wpAny_callSpecial?_slot (name := Str.ofString "__delitem__") L.typeIs PySem.F.slot_list_delitem (wpAny_call_entry PySem.F.slot_list_delitem L.typeIs PySem.F.entry_list_delitem ?_ (PySem.F.args_list_delitem_2 _ _)))
  show wpAny _ _ (Builtin.List.listSubscript? (.ref sl) >>= _) _ _ s; refine wpAny_bind ?_
  unfold Builtin.List.listSubscript?; refine wpAny_bind (wpAny_specialOf T slice_no_index ?_)
  simp only [Option.isNone_none, if_true]; refine wpAny_pure ?_
  show wpAny _ _ (typeOf (.ref sl) >>= _) _ _ s; refine wpAny_bind (wpAny_typeOf T ?_)
  (first | rw [if_neg (by decide)] | refine PySem.W.KFB.if_not (by decide) ?_); rw [listSliceParts_eq]
  refine wpAny_bind (wpAny_bind (wpAny_field f1 f3 (x := .none) rfl (wpAny_bind (wpAny_listPart .none ?_)))); rw [if_neg (show ¬ ((rawPart none == rawInt 0) = true) from Bool.false_ne_true)]
  refine wpAny_bind (wpAny_field f1 f3 (x := vl) rfl (wpAny_bind (wpAny_listPart pl ?_))); refine wpAny_bind (wpAny_field f1 f3 (x := .none) rfl (wpAny_bind (wpAny_listPart .none (wpAny_pure ?_))))
  unfold Builtin.List.listItems
  refine wpAny_bind (wpAny_bind (wpAny_seqItems e rfl (wpAny_pure ?_))); refine wpAny_bind (wpAny_of_eq ((sliceIndices_raw (some ((a : Nat) : Int)) none none items.size (by simp)).trans (congrArg (pure : Int × Int × Int → Sem (Int × Int × Int)) (tail_run ha))) ?_)
  refine wpAny_bind (wpAny_rule ?_)
  show wpAny _ _ (updateSeq l _ >>= _) _ _ s
  have sz : (items.toList.take a).toArray.size ≤ sizeLine + 1 := by simp; omega
  refine wpAny_bind (wpAny_updateSeq (hz := hsz) (_hz' := (congrArg (fun z : Array Value => z.size ≤ sizeLine + 1) (congrArg List.toArray ((kept_pre _ items.toList 0 a fun k hk => ?eq1).trans (by rw [Nat.sub_zero])))).mpr sz) e rfl ?nx)
  case nx =>
    refine wpAny_bind (wpAny_letGo ?_)
    first
      | exact wpAny_bind (wpAny_pure (wpAny_pure ⟨.none, rfl, wpAny_pure (h _ (congrArg List.toArray ((kept_pre _ items.toList 0 a fun k hk => ?eq2).trans (by rw [Nat.sub_zero]))))⟩))
      | refine wpAny_pure ⟨.none, rfl, wpAny_pure (h _ (congrArg List.toArray ((kept_pre _ items.toList 0 a fun k hk => ?_).trans (by rw [Nat.sub_zero]))))⟩
    show (if (1 : Int) > 0 then _ else _) = _
    rw [if_pos (by decide)]
    have kn : k < items.size := by simpa using hk
    dsimp only
    rw [Int.emod_one, decide_eq_true (show ((k : Nat) : Int) < ((items.size : Nat) : Int) by omega), Bool.and_true]
    show (decide (((a : Nat) : Int) ≤ ((k : Nat) : Int)) && true) = _
    rw [Bool.and_true]
    exact decide_eq_decide.mpr (by omega)
  case eq1 =>
    show (if (1 : Int) > 0 then _ else _) = _
    rw [if_pos (by decide)]
    have kn : k < items.size := by simpa using hk
    dsimp only
    rw [Int.emod_one, decide_eq_true (show ((k : Nat) : Int) < ((items.size : Nat) : Int) by omega), Bool.and_true]
    show (decide (((a : Nat) : Int) ≤ ((k : Nat) : Int)) && true) = _
    rw [Bool.and_true]
    exact decide_eq_decide.mpr (by omega)
end
section
variable {X : Cx} {pos p2 tpos : Pos}
theorem del_at {pins : List (Addr × Obj)} {s : Shared} {σ : L2.St} {H : Hp} {l sl : Addr} {xs : List V} {a : Int} {vl : Value} {Q : Unit → Shared → Prop} (I : Inv X pins σ H s) (hH : H l = some (.lst xs)) (hs : s.heap.IsSliceOf sl vl .none .none) (ra : RelV (.int a) vl)
    (h0 : 0 ≤ a) (h1 : a ≤ xs.length) (h : ∀ s', Inv X pins σ (upd H l (.lst (xs.take a.toNat))) s' → Q () s') : wpAny (model X.prog X.w) X.A (delItem (.ref l) (.ref sl)) Q X.xe s := by
  obtain ⟨ta, rfl⟩ := ra
  obtain ⟨z, its, n, r, hl, e⟩ := I.lstM hH
  obtain ⟨b', rfl⟩ := Int.eq_ofNat_of_zero_le h0
  rw [show ((b' : Nat) : Int).toNat = b' from Int.toNat_natCast b'] at h
  refine tail_del (a := b') e hs (.int _ _) (by rw [List.size_toArray]; omega) (by rw [List.size_toArray]; omega) fun f hf => h _ ?_
  refine I.lset (its' := its.take b') (t' := s.toks) hH e hf (r.take _) ?_
  rw [List.length_take]
  omega
/-- del o[lo:] -/
def sDelT (to : TE) (tl : TO) : TS := fun D σ H => to σ H fun o H1 => tl σ H1 fun lo H2 => ∃ (p : Addr) (xs : List V) (a : Int), o = .ref p ∧ lo = some a ∧ H2 p = some (.lst xs) ∧ 0 ≤ a ∧ a ≤ xs.length ∧ D.nx σ (upd H2 p (.lst (xs.take a.toNat)))
theorem ps_delT {o lo : Expr} {to : TE} {tl : TO} (ho : PE X o to) (hl : PO X (some lo) tl) : PS X (.Delete [.Subscript o (.Slice (some lo) none none p2) tpos] pos) (sDelT to tl) := by
  refine ⟨fun pins s σ H D I h => ?_⟩
  refine wpAny_Delete (wpAny_deleteEach_cons (wpAny_delete_Subscript (thn (ho.run pins s σ H _ I h) fun u s1 ⟨x, H1, I1, rx, q1⟩ => wpAny_Slice (thn (hl.run pins s1 σ H1 _ I1 q1) fun vl s2 ⟨y, H2, I2, pl, q2⟩ => ?_))))
  rw [evalPart_none]
  refine wpAny_pure ?_
  refine wpAny_pure ?_
  have I4 : Inv X pins σ H2 { s2 with heap := s2.heap.push { cls := .type "slice", data := .fields #[vl, .none, .none] } } := I2.kept (t' := s2.toks) fun b ob q => Heap.get?_push_of_some _ q
  obtain ⟨p, xs, a, rfl, rfl, g1, g2, g3, g4⟩ := q2
  cases rx
  refine del_at I4 g1 (Heap.IsSliceOf.new ..) ?_ g2 g3 fun s' I5 => wpAny_deleteEach_nil ⟨σ, _, I5, g4⟩
  cases pl
  exact ⟨_, rfl⟩
end
/-! ### all(..), any(..) over anything that can be walked, whatever a def of ours does in the element -/
section
open PySem.Spec GxR GenW
/-- the table's growth, when the generator's code object was got -/
structure GotC (P : Addr) (ps : Array Value) (z z' : Shared) : Prop where
  same : z' = { z with heap := z'.heap, toks := z'.toks }
  ext : Heap.ExtBut P z.heap z'.heap
  tab : ∃ more, z'.heap.get? P = some { cls := .none, data := .fields (ps ++ more) } ∧ TriplesOk (ps ++ more).toList
theorem code_gotC {prog : Program} {w : World} {A : Around} {E : Value → Shared → Prop} {env : Env} {gpos : Pos} {nm : Str} {scope : Scope} {c P : Addr} {ps : Array Value} {z : Shared}
    (hcode : env.code = .ref c) (cd : PySem.W.CodeHd z.heap c P) (hP : z.heap.get? P = some { cls := .none, data := .fields ps }) (ht : TriplesOk ps.toList) :
    wpAny (model prog w) A (genexprCode env gpos nm scope) (fun _ z' => GotC P ps z z') E z := by
  cases among : codeAmong gpos ps.toList with
  | some cv => exact wpAny_genexprCode_hit hcode (cd.code hP ht) among ⟨rfl, .refl _ _, #[], by simpa using hP, by simpa using ht⟩
  | none =>
    refine wpAny_genexprCodeX hcode (cd.code hP ht) (cd.tab hP) among fun c' h' tk ext ge lt co _ tab _ => ?_
    obtain ⟨_, _, _, _, _, _, _, _, _, _, _, _, _, _, _, _, _, _, _, tr, _⟩ := co
    exact ⟨rfl, ext, _, tab.2, tr⟩
/-- the generator sleeps: others may have run generators, nothing else has changed -/
def Woke (s s' : Shared) : Prop := ∃ (g' : Array GenState) (tk : Nat), s' = { s with gens := g', toks := tk } ∧ AllBare g'
theorem Woke.trans {a b c : Shared} (h : Woke a b) (k : Woke b c) : Woke a c := by
  obtain ⟨g1, t1, rfl, _⟩ := h
  obtain ⟨g2, t2, rfl, b2⟩ := k
  exact ⟨g2, t2, rfl, b2⟩
theorem inv_woke {X : Cx} {pins : List (Addr × Obj)} {σ : L2.St} {H : Hp} {s s' : Shared} (I : Inv X pins σ H s) (k : Woke s s') : Inv X pins σ H s' := by
  obtain ⟨g', tk, rfl, b⟩ := k
  exact I.call (h' := s.heap) (d' := s.drawn) (ch := []) Un.refl I.hok b (fun _ z => nomatch z)
theorem bare_set {a : Array GenState} {g : Nat} {x : GenState} (h : AllBare a) (hx : x.bare = true) : AllBare (a.setIfInBounds g x) := fun y hy => by
  obtain ⟨i, hi, e⟩ := Array.mem_iff_getElem.mp hy
  rw [Array.getElem_setIfInBounds] at e
  · by_cases z : g = i
    · rw [if_pos z] at e
      rw [← e]; exact hx
    · rw [if_neg z] at e
      rw [← e]; exact h _ (Array.getElem_mem _)
  · rw [Array.size_setIfInBounds] at hi
    exact hi
/-- the context of a generator's frame: the objects at fp are its iterator's -/
abbrev gcx (X : Cx) (A' : Around) (N' : List Str) (s : Shared) (H : Hp) (cenv : Env) (fp : List Addr) (pn : List (Addr × Obj)) : Cx :=
  { X with A := A', N := N', s_0 := s, H_0 := H, env := cenv, outer := X.stack, stack := cenv :: X.stack, ex := fp, fn := fun _ => false, pn := pn, xe := fun _ _ => False }
/-- a generator's names: its own, and those that it takes from the def around it -/
structure GenN (X : Cx) (scope : Scope) (N' : List Str) (sg : L2.St → L2.St) : Prop where
  kind : scope.kind = .function
  co : scope.isCoroutine = false
  cell : ∀ y ∈ scope.names, y.2 ≠ .cell
  dot : scope.names.lookup (".0" : Str) = some NameKind.local
  free : ∀ y ∈ scope.names, y.2 = .free → X.env.scope.names.lookup y.1 = some .cell ∨ X.env.scope.names.lookup y.1 = some .free
  len : ∀ σ, (sg σ).length = N'.length
  took : ∀ σ (i : Nat) x v, N'[i]? = some x → (sg σ)[i]? = some (some v) → scope.names.lookup x = some .free ∧ ∃ j : Nat, X.N[j]? = some x ∧ σ[j]? = some (some v)
theorem gen_start {X : Cx} {pins : List (Addr × Obj)} {σ : L2.St} {H : Hp} {s : Shared} {scope : Scope} {N' : List Str} {sg : L2.St → L2.St} {A' : Around} {it : Value} {fp : List Addr} {code : Value} {h' : Heap} {go : Obj} {gens' : Array GenState} {tk : Nat}
    (I : Inv X pins σ H s) (S : GenN X scope N' sg) (hfp : ∀ b ∈ fp, FpOk X pins H b ∧ b < s.heap.objs.size)
    (hA : A'.frames = some (genEnv scope (cloFrom X.env.cells scope.names []) s.heap.objs.size code builtinsNs X.env :: X.stack)) (hh : A'.handled = none)
    (hn : h'.Ns s.heap.objs.size (fun y => if y = ".0" then some it else none)) (sb : Heap.SameBut s.heap.objs.size (s.heap.push { cls := .type "frame", data := .dict #[] }) h') (hd : ∀ v, go.data ≠ .cell v)
    (hpush : (h'.push go).get? h'.objs.size = some go) (bare : AllBare gens') :
    Inv (gcx X A' N' s H (genEnv scope (cloFrom X.env.cells scope.names []) s.heap.objs.size code builtinsNs X.env) fp [(h'.objs.size, go)]) [] (sg σ) H { s with gens := gens', toks := tk, heap := h'.push go } := by
  have sz : h'.objs.size = s.heap.objs.size + 1 := by rw [sb.1, Heap.size_push]
  have keep : ∀ b o, s.heap.get? b = some o → (h'.push go).get? b = some o := fun b o e => Heap.get?_push_of_some _ (sb.extBut b o (Nat.ne_of_lt (Heap.lt_size e)) (Heap.get?_push_of_some _ e))
  have has : ∀ y ∈ scope.names, y.2 = .free → ∃ c, X.env.cells.lookup y.1 = some c := fun y hy e => I.ok.has _ ((S.free y hy e).elim .inl .inr)
  have look : ∀ {x : Str} {c : Addr}, (cloFrom X.env.cells scope.names []).lookup x = some c → (x, NameKind.free) ∈ scope.names ∧ X.env.cells.lookup x = some c := fun {x c} e => by
    rcases cloFrom_mem (PySem.mem_of_lookup e) with z | ⟨z1, z2⟩
    · cases z
    · obtain ⟨c', e'⟩ := has _ z1 rfl
      rw [e'] at z2
      exact ⟨z1, by rw [e', z2]; rfl⟩
  have find : ∀ {x : Str}, scope.names.lookup x = some .free → ∃ c, (cloFrom X.env.cells scope.names []).lookup x = some c := fun {x} e => mem_lookup (cloFrom_has (PySem.mem_of_lookup e))
  have apart : ∀ b, s.heap.objs.size ≤ b → b ∉ frs X.stack := fun b hb m => by
    rcases List.mem_cons.mp (I.stkSub b m) with z | z
    · exact absurd (Nat.lt_of_lt_of_le I.lt (z ▸ hb)) (Nat.lt_irrefl _)
    · exact I.nofs hb z
  refine ⟨⟨I.ok.mod, S.kind, I.ok.glob, rfl, Nat.le_refl _, fun x y c h1 h2 => I.ok.inj x y c (look h1).2 (look h2).2, fun x hx => ?_, (fun x c h _ => nomatch h), fun _ => hh, hA, .inr ⟨rfl, rfl⟩, fun b hb => ⟨Nat.ne_of_lt (hfp b hb).2, fun x c e => (hfp b hb).1.2.2.2.2.1 x c (look e).2⟩, I.bs, Nat.le_trans I.ok.bsz I.sz, fun b o e hb => ?_, fun b hb m => ?_, I.stack, I.stkFree⟩,
    rfl, bare, Un.kept keep, ⟨_, hn.push _, fun i x v h1 h2 h3 => ?_⟩, fun x c e => ?_, I.hok.fresh (Nat.le_refl _), fun x c e => I.freeC x c (look e).2, fun p hp => ?_, I.hok.kept keep, S.len σ⟩
  · rcases hx with hx | hx
    · exact absurd rfl (S.cell _ (PySem.mem_of_lookup (show scope.names.lookup x = some .cell from hx)))
    · exact find hx
  · rcases (hfp b hb).1.2.2.2.1 with z | z
    · exact I.ok.noex b o e z
    · exact absurd (Nat.lt_of_lt_of_le (Heap.lt_size e) (Nat.le_trans I.ok.bsz z)) (Nat.lt_irrefl _)
  · rcases List.mem_cons.mp (I.stkSub b m) with z | z
    · exact (hfp b hb).1.2.1 z
    · exact (hfp b hb).1.2.2.1 z
  · obtain ⟨fr, j, e1, e2⟩ := S.took σ i x v h1 h2
    have kn := S.free _ (PySem.mem_of_lookup fr) rfl
    obtain ⟨m0, _, hl⟩ := I.loc
    obtain ⟨u, r, lk⟩ := hl j x v e1 e2 (kn.elim (fun z => .inr (.inl z)) (fun z => .inr (.inr z)))
    refine ⟨u, r, ?_⟩
    rcases lk with ⟨z, _⟩ | ⟨_, c, ec, ic⟩
    · have z : X.env.scope.names.lookup x = some .local := z
      rcases kn with k | k <;> rw [k] at z <;> cases z
    · obtain ⟨c', e'⟩ := find fr
      have e3 := (look e').2
      rw [ec] at e3
      obtain rfl := Option.some.inj e3
      obtain ⟨o, ho, hc⟩ := ic
      exact .inr ⟨.inr fr, _, e', o, keep _ _ ho, hc⟩
  · obtain ⟨v, o, ho, hc⟩ := I.cell x c (look e).2
    exact ⟨v, o, keep _ _ ho, hc⟩
  · have hp : p ∈ [(h'.objs.size, go)] ++ ([] : List (Addr × Obj)) := hp
    rw [List.append_nil, List.mem_singleton] at hp
    subst hp
    exact ⟨hpush, I.hok.fresh (by rw [sz]; exact Nat.le_succ _), by show h'.objs.size ≠ s.heap.objs.size; rw [sz]; exact Nat.succ_ne_self _, apart _ (by rw [sz]; exact Nat.le_succ _), hd⟩
end
section
open PySem.Spec GxR GenW
variable {X : Cx} {A2 : Around} {N' : List Str} {s0 : Shared} {H0 : Hp} {cenv : Env} {fp : List Addr} {pn : List (Addr × Obj)} {tg elt iter : Expr} {scope : Scope} {gpos : Pos} {it : Addr}
/-- the around of a generator's turn -/
abbrev genA (A2 : Around) (tg elt iter : Expr) (scope : Scope) (gpos : Pos) (it : Addr) (cenv : Env) : Around := A2.over (.compLoop (.GeneratorExp elt [⟨tg, iter, [], 0⟩] scope gpos) 0 (.ref it) .none cenv) []
/-- what a generator tells at its end -/
def genR (G : Cx) (sgσ : L2.St) (kp : Bool) (Q : Bool → Hp → Prop) : GenEnd := fun _ _ r s1 => r = .ok .next ∧ ∃ H, Inv G [] sgσ H s1 ∧ Q kp H
/-- what it hands out: a truth; the truth kp, and it may be woken again -/
def genY (G : Cx) (sgσ : L2.St) (kp : Bool) (Q : Bool → Hp → Prop) : Protocol := fun _ _ v s1 kap => ∃ b H, v = .bool b ∧ Inv G [] sgσ H s1 ∧ (b ≠ kp → Q b H) ∧ (b = kp → ∀ s2, Woke s1 s2 → kap (.send .none) s2)
theorem gen_loop {J : It} {tn : Nat → Heap → Prop} {g : TG} {te : TE} {sgσ : L2.St} {vs : List Nat} {kp : Bool} {Q : Bool → Hp → Prop} {W : Nat → Nat → Hp → Prop}
    (T : Turn X.prog X.w X.K tg J fp it tn) (hc : X.calm = true) (hco : cenv.scope.isCoroutine = false) (hpn : ∀ p ∈ pn, ∀ b ∈ fp, p.1 ≠ b)
    (pg : L2.PG (gcx X (genA A2 tg elt iter scope gpos it cenv) N' s0 H0 cenv fp pn) tg g) (pe : L2.PE (gcx X (genA A2 tg elt iter scope gpos it cenv) N' s0 H0 cenv fp pn) elt te)
    (turn : ∀ i m H, W i m H → (J.stop i H ∧ Q kp H) ∨ (J.go i H ∧ ∃ Nx : Hp → Prop, (∀ H', Nx H' → ∃ m', m' < m ∧ W (i + 1) m' H') ∧ ∀ x H', J.yld i H x H' → g x sgσ H' fun σ2 H2 => wipe σ2 vs = sgσ ∧ te σ2 H2 fun y H3 => ∃ b, y = .bl b ∧ (b ≠ kp → Q b H3) ∧ (b = kp → Nx H3))) :
    ∀ (n i m : Nat) (s₀ s : Shared) (H : Hp), m < n → Inv (gcx X (genA A2 tg elt iter scope gpos it cenv) N' s0 H0 cenv fp pn) [] sgσ H s → tn i s.heap → (∀ b ∈ fp, H b = none) → W i m H →
      Seg (model X.prog X.w) A2 (genR (gcx X (genA A2 tg elt iter scope gpos it cenv) N' s0 H0 cenv fp pn) sgσ kp Q) (genY (gcx X (genA A2 tg elt iter scope gpos it cenv) N' s0 H0 cenv fp pn) sgσ kp Q) n s₀
        (.compLoop (.GeneratorExp elt [⟨tg, iter, [], 0⟩] scope gpos) 0 (.ref it) .none cenv) ((model X.prog X.w).den (.compLoop (.GeneratorExp elt [⟨tg, iter, [], 0⟩] scope gpos) 0 (.ref it) .none cenv)) [] s := by
  have stat : ∀ {σ' : L2.St} {H' : Hp} {s' : Shared}, Inv (gcx X (genA A2 tg elt iter scope gpos it cenv) N' s0 H0 cenv fp pn) [] σ' H' s' → (∀ b ∈ fp, H' b = none) → ∀ b ∈ fp, FpOk (gcx X (genA A2 tg elt iter scope gpos it cenv) N' s0 H0 cenv fp pn) [] H' b := fun {σ' H' s'} I' hn b hb =>
    ⟨hn b hb, (I'.ok.exf b hb).1, I'.ok.exfs b hb, .inl hb, fun x c e => (I'.ok.exf b hb).2 x c e, fun p hp => hpn p (by simpa using hp) b hb⟩
  intro n
  induction n with
  | zero => intro i m s₀ s H h; exact absurd h (Nat.not_lt_zero _)
  | succ n ih =>
    intro i m s₀ s H hm I st nf w
    show Seg _ A2 _ _ _ s₀ _ ((compTurn (.GeneratorExp elt [⟨tg, iter, [], 0⟩] scope gpos) 0 (.ref it) .none cenv).onRaise (leaving cenv)) [] s
    rw [compTurn_gen, Sem.onRaise_eq_wrap]
    refine seg_bind_wrap (wpAny_standAt ?_)
    rcases turn i m H w with ⟨stop, q⟩ | ⟨go, Nx, hNx, step⟩
    · refine seg_bind_wrap (wpAny_mono (T.done (gcx X (genA A2 tg elt iter scope gpos it cenv) N' s0 H0 cenv fp pn) rfl rfl rfl hc i [] s _ H (fun _ _ => False) I (stat I nf) st stop) (fun r s6 ⟨hr, I6⟩ => ?_) fun _ _ z => z.elim)
      subst hr
      exact seg_end (.ok .next) ⟨rfl, H, I6, q⟩
    · refine seg_bind_wrap (wpAny_mono (T.item (gcx X (genA A2 tg elt iter scope gpos it cenv) N' s0 H0 cenv fp pn) rfl rfl rfl hc i [] s _ H (fun _ _ => False) I (stat I nf) st go) (fun r s6 ⟨u, hr, h6⟩ => ?_) fun _ _ z => z.elim)
      subst hr
      refine seg_bind_wrap (wpAny_mono h6 (fun _ s7 ⟨x, H7, I7, r7, y7, st7, n7⟩ => ?_) fun _ _ z => z.elim)
      have I7' := I7.pinned (stat I7 n7) (T.obj _ _ st7)
      refine seg_bind_wrap (wpAny_mono (pg.run _ s7 _ H7 x u _ I7' r7 (step x H7 y7)) (fun _ s8 ⟨σ8, H8, I8, hw8, q8⟩ => ?_) fun _ _ z => z.elim)
      refine seg_bind_wrap ?_
      rw [List.forIn_nil]
      refine wpAny_pure ?_
      simp only [if_true]
      have hy : ∀ v, yieldOut cenv v = yieldValue v := fun v => by simp only [yieldOut, hco, Bool.false_eq_true, if_false]
      simp only [hy]
      rw [Sem.bind_eq_wrap', Sem.bind_eq_wrap', Sem.wrap_wrap, Sem.wrap_wrap]
      refine seg_wrap (wpAny_mono (pe.run _ s8 σ8 H8 _ I8 q8) (fun z s9 ⟨yv, H9, I9, r9, b, ey, no, yes⟩ => ?_) fun _ _ z => z.elim)
      subst ey
      obtain rfl : z = .bool b := r9
      have pin' : ∀ b ∈ fp, ∀ o, s7.heap.get? b = some o → s9.heap.get? b = some o ∧ H9 b = none := fun b hb o e =>
        let z := I9.pin (b, o) (List.mem_append_right _ (List.mem_append_right _ (mem_pinsAt hb e)))
        ⟨z.1, z.2.1⟩
      have hl : sgσ.length = σ8.length := by rw [← hw8, wipe_length]
      have I10 : Inv (gcx X (genA A2 tg elt iter scope gpos it cenv) N' s0 H0 cenv fp pn) [] sgσ H9 s9 := (I9.unpinned (pins := [])).weak hl fun j v e => by
        rw [← hw8] at e
        exact (wipe_some e).1
      have st9 := T.keep _ _ _ st7 fun b hb o e => (pin' b hb o e).1
      have n9 : ∀ b ∈ fp, H9 b = none := fun b hb => by
        obtain ⟨o, e, _⟩ := T.obj _ _ st7 b hb
        exact (pin' b hb o e).2
      refine seg_at (seg_yield rfl rfl rfl ⟨b, H9, rfl, I10, no, fun eb s2 wk => ?_⟩)
      obtain ⟨m', lt, w'⟩ := hNx H9 (yes eb)
      have I2 := inv_woke I10 wk
      obtain ⟨g', tk, rfl, _⟩ := wk
      exact seg_again rfl (ih (i + 1) m' _ _ H9 (by omega) I2 st9 n9 w')
end
section
open PySem.Spec GxR GenW
variable {X : Cx} {A2 : Around} {N' : List Str} {s0 : Shared} {H0 : Hp} {cenv : Env} {fp : List Addr} {pn : List (Addr × Obj)} {tg elt iter : Expr} {scope : Scope} {gpos : Pos} {it : Addr}
theorem gen_begin {J : It} {tn : Nat → Heap → Prop} {R : GenEnd} {Y : Protocol} {n : Nat} {s₀ s : Shared} (T : Turn X.prog X.w X.K tg J fp it tn) (st : tn 0 s.heap)
    (loop : Seg (model X.prog X.w) A2 R Y n s₀ (.compLoop (.GeneratorExp elt [⟨tg, iter, [], 0⟩] scope gpos) 0 (.ref it) .none cenv) ((model X.prog X.w).den (.compLoop (.GeneratorExp elt [⟨tg, iter, [], 0⟩] scope gpos) 0 (.ref it) .none cenv)) [] s) :
    Seg (model X.prog X.w) A2 R Y n s₀ (.compStart (.GeneratorExp elt [⟨tg, iter, [], 0⟩] scope gpos) 0 (.ref it) .none cenv) ((model X.prog X.w).den (.compStart (.GeneratorExp elt [⟨tg, iter, [], 0⟩] scope gpos) 0 (.ref it) .none cenv)) [] s := by
  show Seg _ A2 _ _ _ s₀ _ ((compStart (.GeneratorExp elt [⟨tg, iter, [], 0⟩] scope gpos) 0 (.ref it) .none cenv).onRaise (leaving cenv)) [] s
  unfold compStart
  rw [Sem.onRaise_eq_wrap]
  show Seg _ A2 _ _ _ s₀ _ ((ask >>= _).wrap _ _ _ _) [] s
  refine seg_bind_wrap (wpAny_askSetting ?_)
  split
  · exact seg_again rfl loop
  · refine seg_bind_wrap (wpAny_rule (seg_bind_wrap (wpAny_standAt (seg_bind_wrap (T.self _ 0 s _ _ st (seg_again rfl loop))))))
/-- a generator asleep, that may be woken n times more -/
structure Asleep (X : Cx) (A2 : Around) (G : Cx) (sgσ : L2.St) (kp : Bool) (Q : Bool → Hp → Prop) (a : Addr) (k : Nat) (n : Nat) (s : Shared) : Prop where
  inv : ∃ H, Inv G [] sgσ H s
  is : ∀ {s' : Shared} {H' : Hp}, Inv G [] sgσ H' s' → s'.heap.IsGen a k
  at_ : ∃ gs, s.gens[k]? = some gs ∧ ∀ s2, Woke s s2 → gs.Goes (model X.prog X.w) A2 (genR G sgσ kp Q) (genY G sgσ kp Q) n (.send .none) s2
theorem setGen_woke {s : Shared} {k : Nat} {x : GenState} (h : AllBare s.gens) (hx : x.bare = true) : Woke s (s.setGen k x) := ⟨_, s.toks, rfl, bare_set h hx⟩
theorem setGen_at {s : Shared} {k : Nat} {x : GenState} (h : k < s.gens.size) : (s.setGen k x).gens[k]? = some x := by
  show (s.gens.setIfInBounds k x)[k]? = some x
  rw [Array.getElem?_setIfInBounds_self, if_pos h]
theorem gen_next {A : Around} {G : Cx} {sgσ : L2.St} {kp : Bool} {Q : Bool → Hp → Prop} {a : Addr} {k n : Nat} {s : Shared} {R : Option Value → Shared → Prop} {E : Value → Shared → Prop} (hh : A.handled = none) (hd : A.depth < recursionLimit) (z : Asleep X A.in1 G sgσ kp Q a k n s)
    (yes : ∀ n' s', n = n' + 1 → Asleep X A.in1 G sgσ kp Q a k n' s' → R (some (.bool kp)) s')
    (no : ∀ b H s', b ≠ kp → Inv G [] sgσ H s' → Q b H → R (some (.bool b)) s') (done : ∀ H s', Inv G [] sgσ H s' → Q kp H → R none s') : wpAny (model X.prog X.w) A (pyNext (.ref a)) R E s := by
  obtain ⟨H0, I0⟩ := z.inv
  obtain ⟨gs, hgs, hgo⟩ := z.at_
  have ks : k < s.gens.size := by
    rcases Nat.lt_or_ge k s.gens.size with h | h
    · exact h
    · rw [Array.getElem?_eq_none h] at hgs; cases hgs
  refine wpAny_gsz (n := k + 1) ks ?_
  refine wpAny_pyNext_genexpQ (P := fun _ _ s1 => ∃ H, Inv G [] sgσ H s1 ∧ Q kp H) (Y := genY G sgσ kp Q) hh I0.nolimit hd (z.is I0) hgs (hgo _ (setGen_woke I0.bare rfl)) (fun v s1 gs' hb hy => ?_) fun s1 ⟨H, I, q⟩ h' hk _ => ?_
  · obtain ⟨b, H, rfl, I, stop, on⟩ := hy
    have wk := setGen_woke (k := k) I.bare hb
    intro sz
    have sz : k < s1.gens.size := by
      have e : (s1.setGen k gs').gens.size = s1.gens.size := setGen_size ..
      rw [e] at sz
      exact sz
    by_cases eb : b = kp
    · subst eb
      have on := on rfl
      cases n with
      | zero => exact (on s1 ⟨s1.gens, s1.toks, rfl, I.bare⟩).elim
      | succ n' => exact yes n' _ rfl ⟨⟨H, inv_woke I wk⟩, z.is, gs', setGen_at sz, fun s2 w2 => on s2 (wk.trans w2)⟩
    · exact no b H _ eb (inv_woke I wk) (stop eb)
  · have J : Inv G [] sgσ H { s1.setGen k .finished with heap := h' } := by
      have J1 := inv_woke I (setGen_woke (k := k) (x := .finished) I.bare rfl)
      exact J1.kept (t' := s1.toks) hk
    exact done H _ J q
theorem all_loop {A : Around} {G : Cx} {sgσ : L2.St} {Q : Bool → Hp → Prop} {a : Addr} {k : Nat} (hh : A.handled = none) (hd : A.depth < recursionLimit) :
    ∀ (n : Nat) (s : Shared), Asleep X A.in1.in1 G sgσ true Q a k n s → codeAny (model X.prog X.w) A (.builtin "all.loop" ⟨[.ref a], []⟩) (fun r s' => ∃ b H, r = .ok (.ret (.bool b)) ∧ Inv G [] sgσ H s' ∧ Q b H) s := by
  intro n
  induction n with
  | zero =>
    intro s z
    refine codeAny_builtin F.entry_all_loop ?_
    rw [Around.under_plainId F.plain_all_loop _]
    show wpAny _ A.in1 (pyNext (.ref a) >>= _) _ _ s
    refine wpAny_bind (gen_next (A := A.in1) hh hd z (fun n' s' e => nomatch e) (fun b H s' eb I q => ?_) fun H s' I q => ?_)
    · obtain rfl : b = false := by cases b <;> first | rfl | exact absurd rfl eb
      refine wpAny_bind (wpAny_holding (wpAny_truthy_bool ?_))
      refine wpAny_bind (wpAny_letGo ?_)
      simp only [Bool.false_eq_true, if_false]
      exact wpAny_bind (wpAny_rule (wpAny_pure ⟨false, H, rfl, I, q⟩))
    · exact wpAny_bind (wpAny_rule (wpAny_pure ⟨true, H, rfl, I, q⟩))
  | succ n ih =>
    intro s z
    refine codeAny_builtin F.entry_all_loop ?_
    rw [Around.under_plainId F.plain_all_loop _]
    show wpAny _ A.in1 (pyNext (.ref a) >>= _) _ _ s
    refine wpAny_bind (gen_next (A := A.in1) hh hd z (fun n' s' e z' => ?_) (fun b H s' eb I q => ?_) fun H s' I q => ?_)
    · obtain rfl : n' = n := by omega
      refine wpAny_bind (wpAny_holding (wpAny_truthy_bool ?_))
      refine wpAny_bind (wpAny_letGo ?_)
      simp only [if_true]
      exact wpAny_pure ⟨plainId_quiet F.plain_all_loop _, ih _ z'⟩
    · obtain rfl : b = false := by cases b <;> first | rfl | exact absurd rfl eb
      refine wpAny_bind (wpAny_holding (wpAny_truthy_bool ?_))
      refine wpAny_bind (wpAny_letGo ?_)
      simp only [Bool.false_eq_true, if_false]
      exact wpAny_bind (wpAny_rule (wpAny_pure ⟨false, H, rfl, I, q⟩))
    · exact wpAny_bind (wpAny_rule (wpAny_pure ⟨true, H, rfl, I, q⟩))
theorem any_loop {A : Around} {G : Cx} {sgσ : L2.St} {Q : Bool → Hp → Prop} {a : Addr} {k : Nat} (hh : A.handled = none) (hd : A.depth < recursionLimit) :
    ∀ (n : Nat) (s : Shared), Asleep X A.in1.in1 G sgσ false Q a k n s → codeAny (model X.prog X.w) A (.builtin "any.loop" ⟨[.ref a], []⟩) (fun r s' => ∃ b H, r = .ok (.ret (.bool b)) ∧ Inv G [] sgσ H s' ∧ Q b H) s := by
  intro n
  induction n with
  | zero =>
    intro s z
    refine codeAny_builtin F.entry_any_loop ?_
    rw [Around.under_plainId F.plain_any_loop _]
    show wpAny _ A.in1 (pyNext (.ref a) >>= _) _ _ s
    refine wpAny_bind (gen_next (A := A.in1) hh hd z (fun n' s' e => nomatch e) (fun b H s' eb I q => ?_) fun H s' I q => ?_)
    · obtain rfl : b = true := by cases b <;> first | rfl | exact absurd rfl eb
      refine wpAny_bind (wpAny_holding (wpAny_truthy_bool ?_))
      refine wpAny_bind (wpAny_letGo ?_)
      simp only [if_true]
      exact wpAny_bind (wpAny_rule (wpAny_pure ⟨true, H, rfl, I, q⟩))
    · exact wpAny_bind (wpAny_rule (wpAny_pure ⟨false, H, rfl, I, q⟩))
  | succ n ih =>
    intro s z
    refine codeAny_builtin F.entry_any_loop ?_
    rw [Around.under_plainId F.plain_any_loop _]
    show wpAny _ A.in1 (pyNext (.ref a) >>= _) _ _ s
    refine wpAny_bind (gen_next (A := A.in1) hh hd z (fun n' s' e z' => ?_) (fun b H s' eb I q => ?_) fun H s' I q => ?_)
    · obtain rfl : n' = n := by omega
      refine wpAny_bind (wpAny_holding (wpAny_truthy_bool ?_))
      refine wpAny_bind (wpAny_letGo ?_)
      simp only [Bool.false_eq_true, if_false]
      exact wpAny_pure ⟨plainId_quiet F.plain_any_loop _, ih _ z'⟩
    · obtain rfl : b = true := by cases b <;> first | rfl | exact absurd rfl eb
      refine wpAny_bind (wpAny_holding (wpAny_truthy_bool ?_))
      refine wpAny_bind (wpAny_letGo ?_)
      simp only [if_true]
      exact wpAny_bind (wpAny_rule (wpAny_pure ⟨true, H, rfl, I, q⟩))
    · exact wpAny_bind (wpAny_rule (wpAny_pure ⟨false, H, rfl, I, q⟩))
end
section
open PySem.Spec GxR GenW
/-- all (kp true), any (kp false): over what comes, g puts it under its names, te tells the element; the table at P may grow -/
def tQuant (kp : Bool) (P : Addr) (wi : TI) (sg : L2.St → L2.St) (g : TG) (te : TE) (vs : List Nat) : TE := fun σ H Q => wi σ H fun J H1 => TabG H1 P ∧ ∀ H2, Tabbed P H1 H2 → ∃ W : Nat → Nat → Hp → Prop, (∃ m, W 0 m H2) ∧ ∀ i m H, W i m H →
  (J.stop i H ∧ Q (.bl kp) H) ∨ (J.go i H ∧ ∃ Nx : Hp → Prop, (∀ H', Nx H' → ∃ m', m' < m ∧ W (i + 1) m' H') ∧ ∀ x H', J.yld i H x H' → g x (sg σ) H' fun σ2 H3 => wipe σ2 vs = sg σ ∧ te σ2 H3 fun y H4 => ∃ b, y = .bl b ∧ (b ≠ kp → Q (.bl b) H4) ∧ (b = kp → Nx H4))
theorem over_gen {A : Around} {elt tg iter : Expr} {scope : Scope} {gpos : Pos} {it acc : Value} {cenv : Env} : A.over (.compLoop (.GeneratorExp elt [⟨tg, iter, [], 0⟩] scope gpos) 0 it acc cenv) [] = A.deeper cenv := by
  first
    | rfl
    | (obtain ⟨hd, d, fr, gs, u⟩ := A; simp [Around.over, Around.deeper, marksOver, frameCount, unitsOf, envsOf, guardsOf, pushEnvs, pushGuards, Code.envs, Code.env?, Code.isFrame, Code.guards, Code.isGuard, Code.weight, Code.frames, Code.isCreation, Code.isCaller, Code.cUnits])
theorem gen_made {X : Cx} {c P : Addr} {elt iter tg : Expr} {scope : Scope} {gpos : Pos} {N' : List Str} {sg : L2.St → L2.St} {kp : Bool} {wi : TI} {g : TG} {te : TE} {vs : List Nat} {k : Nat} {pins : List (Addr × Obj)} {σ : L2.St} {H : Hp} {s : Shared} {Q : VK}
    (hr : Room (k + 1) X.A) (hc : X.calm = true) (TB : TabB X.base X.mg c P) (hcode : X.env.code = .ref c) (S : GenN X scope N' sg) (hi : L2.PI X tg iter wi) (hs : ∀ v, genFold iter X.env v = pure v)
    (pg : ∀ (A' : Around) (s : Shared) (H : Hp) (cl : List (Str × Addr)) (C bi : Addr) (code : Value) (fp : List Addr) (pn : List (Addr × Obj)), Room k A' → L2.PG (gcx X A' N' s H (genEnv scope cl C code bi X.env) fp pn) tg g)
    (pe : ∀ (A' : Around) (s : Shared) (H : Hp) (cl : List (Str × Addr)) (C bi : Addr) (code : Value) (fp : List Addr) (pn : List (Addr × Obj)), Room k A' → L2.PE (gcx X A' N' s H (genEnv scope cl C code bi X.env) fp pn) elt te)
    (I : Inv X pins σ H s) (h : tQuant kp P wi sg g te vs σ H Q) :
    wpAny (model X.prog X.w) X.A (eval (.GeneratorExp elt [⟨tg, iter, [], 0⟩] scope gpos) X.env) (fun gv z => ∃ (a : Addr) (kk n : Nat) (G : Cx), gv = .ref a ∧ Asleep X X.A.in1.in1 G (sg σ) kp (fun b H' => Q (.bl b) H') a kk n z ∧ ∀ s' b H', Inv G [] (sg σ) H' s' → Q (.bl b) H' → EP X pins σ Q (.bool b) s') X.xe s := by
  have has : ∀ y ∈ scope.names, y.2 = .free → ∃ c, X.env.cells.lookup y.1 = some c := fun y hy e => I.ok.has _ ((S.free y hy e).elim .inl .inr)
  refine wpAny_GeneratorExp_make S.co (closure_ok has) S.cell S.dot S.kind (by have := hr.dp; omega) ?_ hs
  refine thn (hi.run pins s σ H _ I h) fun xv s1 hx => thn hx fun itv s2 ⟨it, fp, tn, J, H2, ei, I2, T, st2, f2, ⟨ps, hP, tri⟩, q⟩ => ?_
  subst ei
  have tabP : s2.heap.get? P = some { cls := .none, data := .fields ps } := I2.hok P _ hP
  refine ⟨I2.nolimit, thn (code_gotC (ps := ps) hcode (TB.code.keeps fun b o e => I2.bk b o e) tabP tri) fun code s3 got => ?_⟩
  obtain ⟨eq3, ext, more, hP3, tri3⟩ := got
  obtain ⟨h3, g3, d3, t3, o3⟩ := s3
  obtain ⟨rfl, rfl, rfl⟩ : g3 = s2.gens ∧ d3 = s2.drawn ∧ o3 = s2.os := by
    have := eq3
    simp only [Shared.mk.injEq] at this
    exact ⟨this.2.1, this.2.2.1, this.2.2.2.2⟩
  replace ext : Heap.ExtBut P s2.heap h3 := ext
  replace hP3 : h3.get? P = some { cls := .none, data := .fields (ps ++ more) } := hP3
  have kept : ∀ b o, b ≠ P → s2.heap.get? b = some o → h3.get? b = some o := fun b o nb e => ext b o nb e
  have neP : ∀ b ∈ fp, b ≠ P := fun b hb e => by
    have := (f2 b hb).1
    rw [e, hP] at this
    cases this
  have I3 : Inv X pins σ (upd H2 P (.tbl (ps ++ more))) { s2 with heap := h3, toks := t3 } := inv_tab (more := more) (h' := h3) (g' := s2.gens) (d' := s2.drawn) (t' := t3) I2 hP kept hP3 I2.bare
  have tb : Tabbed P H2 (upd H2 P (.tbl (ps ++ more))) := ⟨⟨_, upd_same, tri3⟩, fun b nb => upd_ne nb⟩
  obtain ⟨W, ⟨m0, w0⟩, turn⟩ := q _ tb
  have st3 : tn 0 h3 := T.keep _ _ _ st2 fun b hb o e => kept b o (neP b hb) e
  have n3 : ∀ b ∈ fp, upd H2 P (.tbl (ps ++ more)) b = none := fun b hb => by rw [upd_ne (neP b hb)]; exact (f2 b hb).1
  have f3 : ∀ b ∈ fp, FpOk X pins (upd H2 P (.tbl (ps ++ more))) b ∧ b < h3.objs.size := fun b hb => by
    obtain ⟨o, e, _⟩ := T.obj _ _ st3 b hb
    exact ⟨⟨n3 b hb, (f2 b hb).2⟩, Heap.lt_size e⟩
  generalize upd H2 P (.tbl (ps ++ more)) = H3 at *
  obtain ⟨bm, ob, b1, b2, b3, b4, b5, b6, b7, b8⟩ := TB.bm
  refine wpAny_builtinsFor (m := X.mg) (by rw [I2.ok.glob]; exact (I2.mod.glob.keeps fun b o e => I2.bk b o e).extBut ext TB.gP) b1 b2 (kept _ _ b4 (I2.bk _ _ b5)) b6 b7 b8 ?_
  intro h' hn' sb'
  have sz : h'.objs.size = h3.objs.size + 1 := by
    have := sb'.1
    rw [this, Heap.size_push]
  generalize ego : ({ cls := .type "generator", data := .fields #[.int s2.gens.size 0, .str "<genexpr>" (t3 + 1), .str (X.env.qual ++ "<genexpr>") (t3 + 1 + 1)] } : Obj) = go
  have hpush : (h'.push go).get? h'.objs.size = some go := by
    rw [← ego]
    exact Heap.get?_push_size _ rfl
  have hgen : ∀ hh : Heap, hh.get? h'.objs.size = some go → hh.IsGen h'.objs.size s2.gens.size := fun hh e => by
    rw [← ego] at e
    exact ⟨_, _, _, e, rfl, rfl, rfl⟩
  have hd : ∀ v, go.data ≠ .cell v := fun v z => by rw [← ego] at z; cases z
  have hbare : AllBare (s2.gens.push (.fresh (.compStart (.GeneratorExp elt [⟨tg, iter, [], 0⟩] scope gpos) 0 (.ref it) .none (genEnv scope (cloFrom X.env.cells scope.names []) h3.objs.size code builtinsNs X.env)))) := AllBare.push I2.bare rfl
  have hA : (genA X.A.in1.in1 tg elt iter scope gpos it (genEnv scope (cloFrom X.env.cells scope.names []) h3.objs.size code builtinsNs X.env)).frames = some (genEnv scope (cloFrom X.env.cells scope.names []) h3.objs.size code builtinsNs X.env :: X.stack) := by
    rw [show genA X.A.in1.in1 tg elt iter scope gpos it _ = _ from over_gen]
    exact Around.frames_deeper I3.ok.frames
  have hroom : Room k (genA X.A.in1.in1 tg elt iter scope gpos it (genEnv scope (cloFrom X.env.cells scope.names []) h3.objs.size code builtinsNs X.env)) := by
    rw [show genA X.A.in1.in1 tg elt iter scope gpos it _ = _ from over_gen]
    refine ⟨hr.hd, ?_, ?_⟩
    · have := hr.dp
      show X.A.depth + 1 + 3 * k + 5 < _
      omega
    · have := hr.un
      show X.A.units + 1 + 1 + 3 + 16 * k + 200 < _
      omega
  have I4 := gen_start (tk := t3 + 1 + 1 + 1) (gens' := s2.gens.push (.fresh (.compStart (.GeneratorExp elt [⟨tg, iter, [], 0⟩] scope gpos) 0 (.ref it) .none (genEnv scope (cloFrom X.env.cells scope.names []) h3.objs.size code builtinsNs X.env)))) I3 S f3 hA hr.hd hn' sb' hd hpush hbare
  have hpn : ∀ p ∈ [(h'.objs.size, go)], ∀ b ∈ fp, p.1 ≠ b := fun p hp b hb e => by
    rw [List.mem_singleton.mp hp] at e
    have := (f3 b hb).2
    rw [← e] at this
    have this : h'.objs.size < h3.objs.size := this
    omega
  refine ⟨h'.objs.size, s2.gens.size, m0 + 1, _, rfl, ⟨⟨H3, I4⟩, fun {s' H'} I' => hgen _ (I'.pin (h'.objs.size, go) (List.mem_append_left _ (List.mem_singleton.mpr rfl))).1, _, Array.getElem?_push_size .., fun s5 wk => ⟨rfl, ?_⟩⟩, fun s' b H' I' qb => ?_⟩
  · have I5 := inv_woke I4 wk
    have st5 : tn 0 s5.heap := by
      obtain ⟨g', tk, rfl, _⟩ := wk
      exact T.keep _ _ _ st3 fun b hb o e => Heap.get?_push_of_some _ (sb'.extBut b o (Nat.ne_of_lt (Heap.lt_size e)) (Heap.get?_push_of_some _ e))
    exact gen_begin T st5 (gen_loop (kp := kp) (Q := fun b H' => Q (.bl b) H') (vs := vs) T hc S.co hpn (pg _ _ _ _ _ _ _ _ _ hroom) (pe _ _ _ _ _ _ _ _ _ hroom) turn _ 0 m0 _ _ H3 (Nat.lt_succ_self _) I5 st5 n3 w0)
  · exact ⟨.bl b, H', I3.call' (ch := fp) I'.os I'.base I'.hok I'.bare fun b hb => ⟨(f3 b hb).1.2.2.2.1, (f3 b hb).1.2.1, (f3 b hb).1.2.2.2.2.1, (f3 b hb).1.2.2.2.2.2⟩, rfl, qb⟩
end
section
open PySem.Spec GxR GenW
variable {X : Cx} {c P : Addr} {elt iter tg : Expr} {scope : Scope} {p pos gpos : Pos} {N' : List Str} {sg : L2.St → L2.St} {wi : TI} {g : TG} {te : TE} {vs : List Nat} {k : Nat}
theorem pe_allG (hr : Room (k + 1) X.A) (hc : X.calm = true) (hg : Gl X "all") (hm : X.mg "all" = none) (hb : bootBuiltins "all" = some (.builtin "all")) (TB : TabB X.base X.mg c P) (hcode : X.env.code = .ref c) (S : GenN X scope N' sg) (hi : L2.PI X tg iter wi) (hs : ∀ v, genFold iter X.env v = pure v)
    (pg : ∀ (A' : Around) (s : Shared) (H : Hp) (cl : List (Str × Addr)) (C bi : Addr) (code : Value) (fp : List Addr) (pn : List (Addr × Obj)), Room k A' → L2.PG (gcx X A' N' s H (genEnv scope cl C code bi X.env) fp pn) tg g)
    (pe : ∀ (A' : Around) (s : Shared) (H : Hp) (cl : List (Str × Addr)) (C bi : Addr) (code : Value) (fp : List Addr) (pn : List (Addr × Obj)), Room k A' → L2.PE (gcx X A' N' s H (genEnv scope cl C code bi X.env) fp pn) elt te) :
    L2.PE X (.Call (.Name "all" p) [.GeneratorExp elt [⟨tg, iter, [], 0⟩] scope gpos] [] pos) (tQuant true P wi sg g te vs) := by
  refine ⟨fun pins s σ H Q I h => ?_⟩
  refine wpAny_Call_Name_kw (ld_blt I hg hm hb (PyProof.Rows.callWith_builtin1 ?_ rfl rfl))
  show wpAny _ _ (spliced ((false, eval (.GeneratorExp elt [⟨tg, iter, [], 0⟩] scope gpos) X.env) :: backTo pos (starEach [] X.env))) _ _ s
  refine Calls.spliced_cons (thn (gen_made hr hc TB hcode S hi hs pg pe I h) fun gv z ⟨a, kk, n, G, ev, sl, fin⟩ => Calls.spliced_nil ?_)
  subst ev
  refine call_function_tree F.kind_all F.plain_all F.entry_all (F.args_all1 _) ?_
  unfold Builtin.«all»
  refine wpAny_bind (m := oneArg "all" _) (wpAny_pure ?_)
  obtain ⟨H0, I0⟩ := sl.inv
  refine wpAny_bind (wpAny_pyIter_gen (sl.is I0) ?_)
  refine wpAny_pure ⟨plainId_quiet F.plain_all_loop _, codeAny_mono (all_loop hr.hd (by have := hr.dp; omega) n z sl) fun r s' ⟨b, H', er, I', q⟩ => ?_⟩
  subst er
  exact fin s' b H' I' q
theorem pe_anyG (hr : Room (k + 1) X.A) (hc : X.calm = true) (hg : Gl X "any") (hm : X.mg "any" = none) (hb : bootBuiltins "any" = some (.builtin "any")) (TB : TabB X.base X.mg c P) (hcode : X.env.code = .ref c) (S : GenN X scope N' sg) (hi : L2.PI X tg iter wi) (hs : ∀ v, genFold iter X.env v = pure v)
    (pg : ∀ (A' : Around) (s : Shared) (H : Hp) (cl : List (Str × Addr)) (C bi : Addr) (code : Value) (fp : List Addr) (pn : List (Addr × Obj)), Room k A' → L2.PG (gcx X A' N' s H (genEnv scope cl C code bi X.env) fp pn) tg g)
    (pe : ∀ (A' : Around) (s : Shared) (H : Hp) (cl : List (Str × Addr)) (C bi : Addr) (code : Value) (fp : List Addr) (pn : List (Addr × Obj)), Room k A' → L2.PE (gcx X A' N' s H (genEnv scope cl C code bi X.env) fp pn) elt te) :
    L2.PE X (.Call (.Name "any" p) [.GeneratorExp elt [⟨tg, iter, [], 0⟩] scope gpos] [] pos) (tQuant false P wi sg g te vs) := by
  refine ⟨fun pins s σ H Q I h => ?_⟩
  refine wpAny_Call_Name_kw (ld_blt I hg hm hb (PyProof.Rows.callWith_builtin1 ?_ rfl rfl))
  show wpAny _ _ (spliced ((false, eval (.GeneratorExp elt [⟨tg, iter, [], 0⟩] scope gpos) X.env) :: backTo pos (starEach [] X.env))) _ _ s
  refine Calls.spliced_cons (thn (gen_made hr hc TB hcode S hi hs pg pe I h) fun gv z ⟨a, kk, n, G, ev, sl, fin⟩ => Calls.spliced_nil ?_)
  subst ev
  refine call_function_tree F.kind_any F.plain_any F.entry_any (F.args_any1 _) ?_
  unfold Builtin.«any»
  refine wpAny_bind (m := oneArg "any" _) (wpAny_pure ?_)
  obtain ⟨H0, I0⟩ := sl.inv
  refine wpAny_bind (wpAny_pyIter_gen (sl.is I0) ?_)
  refine wpAny_pure ⟨plainId_quiet F.plain_any_loop _, codeAny_mono (any_loop hr.hd (by have := hr.dp; omega) n z sl) fun r s' ⟨b, H', er, I', q⟩ => ?_⟩
  subst er
  exact fin s' b H' I' q
end
section
theorem genN_none {X : Cx} {scope : Scope} {N' : List Str} {n : Nat} (h1 : scope.kind = .function) (h2 : scope.isCoroutine = false) (h3 : ∀ y ∈ scope.names, y.2 ≠ .cell) (h4 : scope.names.lookup (".0" : Str) = some NameKind.local) (h5 : ∀ y ∈ scope.names, y.2 ≠ .free) (h6 : n = N'.length := by rfl) :
    GenN X scope N' (fun _ => List.replicate n none) :=
  ⟨h1, h2, h3, h4, fun y hy z => absurd z (h5 y hy), fun _ => by rw [List.length_replicate]; exact h6, fun σ i x v _ e => by
    rw [List.getElem?_replicate] at e
    split at e <;> cases e⟩
theorem genN_one {X : Cx} {scope : Scope} {ts : List Str} {f : Str} {j : Nat} (h1 : scope.kind = .function) (h2 : scope.isCoroutine = false) (h3 : ∀ y ∈ scope.names, y.2 ≠ .cell) (h4 : scope.names.lookup (".0" : Str) = some NameKind.local) (h5 : ∀ y ∈ scope.names, y.2 = .free → y.1 = f)
    (h6 : scope.names.lookup f = some .free) (h7 : X.N[j]? = some f) (h8 : X.env.scope.names.lookup f = some .cell ∨ X.env.scope.names.lookup f = some .free) :
    GenN X scope (ts ++ [f]) (fun σ => List.replicate ts.length none ++ [σ.getD j none]) :=
  ⟨h1, h2, h3, h4, fun y hy z => by rw [h5 y hy z]; exact h8, fun _ => by rw [List.length_append, List.length_append, List.length_replicate]; rfl, fun σ i x v e1 e2 => by
    by_cases h : i < ts.length
    · rw [List.getElem?_append_left (by rw [List.length_replicate]; exact h), List.getElem?_replicate] at e2
      split at e2 <;> cases e2
    · rw [List.getElem?_append_right (by omega)] at e1
      rw [List.getElem?_append_right (by rw [List.length_replicate]; omega), List.length_replicate] at e2
      cases hz : i - ts.length with
      | zero =>
        rw [hz] at e1 e2
        obtain rfl : f = x := Option.some.inj e1
        have e2 : σ.getD j none = some v := Option.some.inj e2
        refine ⟨h6, j, h7, ?_⟩
        rw [List.getD_eq_getElem?_getD] at e2
        cases hj : σ[j]? with
        | none => rw [hj] at e2; cases e2
        | some z => rw [hj] at e2; rw [show z = some v from e2]
      | succ z => rw [hz] at e1; cases e1⟩
end
def Small (v : Int) : Prop := -1000000 ≤ v ∧ v ≤ 1000000
section
variable {P : Program} {w : World} {K : PySem.W.Frag} {mg : Str → Option Value} {base : Heap}
def sp_law_thing (K : PySem.W.Frag) : Sp := fun vs H Q _ => ∃ f c : Addr, vs = [.ref f] ∧ Flow H f c ∧ ∀ (v : Int) (H' : Hp), Small v → Flow H' f c → But f H H' → Q (.int v) H'
theorem ok_law_thing {f : Addr} {fd : FuncData} (F : Fun K "_law_thing" "_law_thing" s_law_thing f fd) {C : Addr} (T : Top w K mg C) : FnOk P w K mg base CX0 2 f fd ["_law_flow_here"] (sp_law_thing K) := by
  obtain ⟨f_law_pick, fd_law_pick, F_law_pick, b_law_pick, m_law_pick⟩ := T.d_law_pick
  have G_law_pick := ok_law_pick (P := P) (w := w) (base := base) F_law_pick T
  refine F.ok sc_law_thing (fun vs H Q E h => ?_) (fun cdv A outer s H vs Q E hr h => ?_)
  · obtain ⟨f, c, rfl, _⟩ := h
    rfl
  obtain ⟨f, c, rfl, hF, q⟩ := h
  refine ⟨_, (pss_cons (ps_if (pt_cmpR op_gt (pe_call G_law_pick (hr.mono (by decide)) (by rfl) m_law_pick F_law_pick.kp b_law_pick .nil pass0 (pa_cons (pv 0) (pa_cons pe_int pa_nil))) pe_int (nomark _)) (pss_one (ps_ret (pe_op op_sub (pe_call G_law_pick (hr.mono (by decide)) (by rfl) m_law_pick F_law_pick.kp b_law_pick .nil pass0 (pa_cons (pv 0) (pa_cons pe_int pa_nil))) pe_int))) pss_nil)
      (pss_one (ps_ret (pe_op op_sub (pe_call G_law_pick (hr.mono (by decide)) (by rfl) m_law_pick F_law_pick.kp b_law_pick .nil pass0 (pa_cons (pv 0) (pa_cons pe_int pa_nil))) pe_int)))), ?_⟩
  refine ⟨_, rfl, f, c, 3, rfl, by decide, by decide +kernel, hF, fun v1 H1 a1 b1 F1 B1 => ⟨_, _, rfl, rfl, _, rfl, if_bl (fun _ => ?_) (fun _ => ?_)⟩⟩
  · exact ⟨_, rfl, f, c, 7, rfl, by decide, by decide +kernel, F1, fun v2 H2 a2 b2 F2 B2 => ⟨_, _, rfl, rfl, q _ _ ⟨by omega, by omega⟩ F2 (B1.trans B2)⟩⟩
  · exact ⟨_, rfl, f, c, 2000001, rfl, by decide, by decide +kernel, F1, fun v2 H2 a2 b2 F2 B2 => ⟨_, _, rfl, rfl, q _ _ ⟨by omega, by omega⟩ F2 (B1.trans B2)⟩⟩
end
section
variable {P : Program} {w : World} {K : PySem.W.Frag} {mg : Str → Option Value} {base : Heap}
def sp_law_shuffled (K : PySem.W.Frag) : Sp := fun vs H Q _ => ∃ (f c l : Addr) (xs : List V), vs = [.ref f, .ref l] ∧ SqL K H l xs ∧ l ≠ f ∧ xs.length ≤ 500 ∧ Flow H f c ∧
  ∀ (p : Addr) (ys : List V) (H' : Hp), ys.Perm xs → H p = none → H' p = some (.lst ys) → Flow H' f c → But f H H' → Q (.ref p) H'
theorem But.seqL {K : PySem.W.Frag} {f a : Addr} {H H1 : Hp} {xs : List V} (b : But f H H1) (h : SqL K H a xs) (n : a ≠ f) : SqL K H1 a xs := by
  rcases h with h | h
  · left
    rcases h with h | ⟨o, h⟩
    · exact .inl (b _ _ h n)
    · exact .inr ⟨o, b _ _ h n⟩
  · exact .inr h
theorem same_seqL {K : PySem.W.Frag} {a : Addr} {H H1 : Hp} {xs : List V} (b : Same H H1) (h : SqL K H a xs) : SqL K H1 a xs := by
  rcases h with h | h
  · left
    rcases h with h | ⟨o, h⟩
    · exact .inl (b _ _ h)
    · exact .inr ⟨o, b _ _ h⟩
  · exact .inr h
theorem log_small {m : Nat} (h : m ≤ 500) : ((m : Int)).natAbs.log2 < 9000 := by
  rw [Int.natAbs_natCast]
  exact Nat.lt_of_le_of_lt (Nat.log2_le_self m) (by omega)
theorem perm_erase {α : Type} : ∀ {l : List α} {j : Nat} {y : α}, l[j]? = some y → (y :: l.eraseIdx j).Perm l
  | [], _, _, h => nomatch h
  | a :: l, 0, y, h => by
    cases h
    exact List.Perm.refl _
  | a :: l, j + 1, y, h => by
    have ih : (y :: l.eraseIdx j).Perm l := perm_erase h
    exact (List.Perm.swap a y _).trans (ih.cons a)
theorem ok_law_shuffled {f : Addr} {fd : FuncData} (F : Fun K "_law_shuffled" "_law_shuffled" s_law_shuffled f fd) {C : Addr} (T : Top w K mg C) : FnOk P w K mg base CX0 2 f fd ["_law_flow_here", "_law_some"] (sp_law_shuffled K) := by
  obtain ⟨f_law_pick, fd_law_pick, F_law_pick, b_law_pick, m_law_pick⟩ := T.d_law_pick
  have G_law_pick := ok_law_pick (P := P) (w := w) (base := base) F_law_pick T
  refine F.ok sc_law_shuffled (fun vs H Q E h => ?_) (fun cdv A outer s H vs Q E hr h => ?_)
  · obtain ⟨f, c, l, xs, rfl, _⟩ := h
    rfl
  obtain ⟨f, c, l, xs, rfl, hL, nl, hlen, hF, q⟩ := h
  refine ⟨_, (pss_cons (ps_set (i := 2) sc_law_shuffled.nd rfl (Or.inr rfl) (pe_callTy (call_list_ofK K rfl) (by rfl) T.m_list (by decide +kernel) (pa_cons (pv 1) pa_nil)))
      (pss_one (ps_ret (pe_lc (own := [("_law_k", 3)]) (g := gName 3) (tt := tYes) (by rfl) sc_law_shuffled.nd (pi_range1 (by rfl) T.m_range (pa_cons (pe_callB (call_len_seqK K rfl) (by rfl) T.m_len (by decide +kernel) (pa_cons (pv 1) pa_nil)) pa_nil)) (blkOk_by (own := [("_law_k", 3)]) (N := N_law_shuffled) (sc := defScope s_law_shuffled) (by decide +kernel)) (fun _ _ _ _ _ => (pg_name (i := 3) sc_law_shuffled.nd rfl (Or.inl rfl))) (fun _ _ _ _ _ => pts_nil) (fun _ _ _ _ _ => (pe_bmK K rfl PySem.F.plainAttrs_list PySem.F.slot_list_pop PySem.F.type_list_pop mt_popAt (pv 2) (pa_cons (pe_call G_law_pick (hr.mono (by decide)) (by rfl) m_law_pick F_law_pick.kp b_law_pick .nil pass0 (pa_cons (pv 0) (pa_cons (pe_callB (call_len_seqK K rfl) (by rfl) T.m_len (by decide +kernel) (pa_cons (pv 2) pa_nil)) pa_nil))) pa_nil))))))), ?_⟩
  refine ⟨_, rfl, l, _, rfl, .inl hL, fun lf nlf => ?_⟩
  refine ⟨_, rfl, l, _, rfl, .inl (same_seqL (same_new nlf) hL), _, rfl, by omega, (by omega), fun D nD => ?_⟩
  have F1 : Flow (upd H lf (.lst xs)) f c := hF.new nlf
  have dl : D ≠ lf := (ne_of_none upd_same nD).symm
  refine lc_range (lo := 0) (n := xs.length) (fun i H5 => ∃ acc rest : List V, H5 D = some (.lst acc) ∧ H5 lf = some (.lst rest) ∧ acc.length = i ∧ rest.length + i = xs.length ∧ (acc ++ rest).Perm xs ∧ Flow H5 f c ∧ But f H H5)
    ⟨[], xs, upd_same, by rw [upd_ne dl.symm]; exact upd_same, rfl, by omega, List.Perm.refl _, F1.new nD, (But.refl.new nlf).new nD⟩ ?_ ?_
  · rintro i H5 hi ⟨acc, rest, hD, hl, ha, hr2, hp, F5, B5⟩
    refine ⟨rfl, yes_in ?_⟩
    refine ⟨_, rfl, .inl ⟨rfl, _, SqL.of hl⟩, _, rfl, _, rfl, lf, _, rfl, .inl (SqL.of hl), f, c, ((rest.length : Nat) : Int), rfl, by omega, log_small (by omega), F5, fun v H6 v0 v1 F6 B6 => ?_⟩
    have hl6 := B6 _ _ hl (hF.ne nlf)
    have hv : v.toNat < rest.length := by omega
    have e1 : seqIndex? v rest.length = some v.toNat := by
      rw [seqIndex_of v0 (by omega)]
    refine ⟨lf, rest, v, v.toNat, rest[v.toNat], rfl, rfl, hl6, by omega, by omega, e1, List.getElem?_eq_getElem hv, ?_⟩
    have hD6 := B6 _ _ hD (fun e => by rw [e] at nD; rw [show upd H lf (.lst xs) f = H f from upd_ne (hF.ne nlf).symm] at nD; obtain ⟨_, _, _, _, _, e1, _⟩ := hF; rw [e1] at nD; cases nD)
    refine ⟨acc, by rw [upd_ne dl]; exact hD6, small1000 (by omega), acc ++ [rest[v.toNat]], rest.eraseIdx v.toNat, upd_same, by rw [upd_ne dl.symm]; exact upd_same, by rw [List.length_append, ha]; rfl, ?_, ?_, ?_, ?_⟩
    · rw [List.length_eraseIdx, if_pos hv]
      omega
    · refine List.Perm.trans ?_ hp
      rw [List.append_assoc]
      exact List.Perm.append_left acc (perm_erase (List.getElem?_eq_getElem hv))
    · have dc : D ≠ c := fun e => by
        rw [e] at nD
        obtain ⟨_, _, _, _, _, _, e1, _⟩ := F1
        rw [e1] at nD
        cases nD
      exact (F6.lst (hF.ne nlf) (hF.nec nlf)).lst (F1.ne nD) dc
    · exact ((B5.trans B6).own nlf).own (same_none (same_new nlf) nD)
  · rintro H5 ⟨acc, rest, hD, hl, ha, hr2, hp, F5, B5⟩
    have er : rest = [] := by
      cases rest with
      | nil => rfl
      | cons a l => simp at hr2
    subst er
    rw [List.append_nil] at hp
    exact q D acc H5 hp (same_none (same_new nlf) nD) hD F5 B5
end
/-! ### a text's signs as a list; a text several times -/
section
variable {X : Cx}
theorem call_list_strK (hc : X.calm = true) : CallR X (.type "list") (fun xs H Q => ∃ z : Str, xs = [.str z] ∧ z.cps.size ≤ sizeLine ∧ ∀ l, H l = none → Q (.ref l) (upd H l (.lst (z.cps.toList.map fun c => V.str ⟨#[c]⟩)))) := by
  intro pins st σ H xs us Q J rel asked
  obtain ⟨z, rfl, hz, now⟩ := asked
  obtain ⟨u, rfl, t, rfl⟩ := vals1 rel
  refine call_list_str (J.ok.hd hc) z t (fun h' tk acc c kp at_ items => ?_) hz
  have len : (z.cps.toList.map fun c => V.str ⟨#[c]⟩).length = acc.toList.length := by
    rw [List.length_map, Array.length_toList, Array.length_toList, items.1]
  refine ⟨.ref st.heap.objs.size, upd H st.heap.objs.size (.lst (z.cps.toList.map fun c => V.str ⟨#[c]⟩)), J.laid kp (Nat.le_refl _) (show ObjOk X.prog X.w _ _ _ (.lst (z.cps.toList.map fun c => V.str ⟨#[c]⟩)) from ⟨by rw [List.length_map, Array.length_toList]; exact hz, acc.toList, c, ?_, ?_⟩), rfl, now _ (J.hok.fresh (Nat.le_refl _))⟩
  · refine vals_of_at len fun j x v e1 e2 => ?_
    obtain ⟨cc, tt, e3, e4⟩ := items.2 j v (by rw [← Array.getElem?_toList]; exact e2)
    rw [List.getElem?_map, Array.getElem?_toList, e3] at e1
    have e1 : V.str ⟨#[cc]⟩ = x := Option.some.inj e1
    subst e1
    exact ⟨tt, e4⟩
  · rw [Array.toArray_toList]
    exact at_
theorem op_rep_str : OpR X (binaryOp .Mult) (fun x y H Q => ∃ (z : Str) (n : Int), x = .str z ∧ y = .int n ∧ MulOk z n ∧ Q (.str (Txt.mul z n)) H) := by
  intro pins st σ H x y v u Q J rx ry asked
  obtain ⟨z, n, rfl, rfl, hm, now⟩ := asked
  obtain ⟨t, rfl⟩ := rx
  obtain ⟨t2, rfl⟩ := ry
  exact PySem.SB.mul hm fun t3 k => ⟨.str (Txt.mul z n), H, J.tok _, ⟨_, rfl⟩, now⟩
end
/-! ### all(sign in NAME for sign in a text) -/
section
open PySem.Spec GxR
/-- one item looked at, in the generator's own surroundings -/
def LooksC (X : Cx) (scope : Scope) (x : Str) (elt : Expr) (pb : Nat → Bool) : Prop :=
  ∀ (cenv : Env) (A' : Around) (E' : Value → Shared → Prop) (c : Nat) (t : Tok) (z : Shared) (mz : Str → Option Value), cenv.scope = scope → cenv.globals = mainGlobals →
    (∀ b o, X.base.get? b = some o → z.heap.get? b = some o) → z.heap.Ns cenv.locals mz → mz x = some (.str ⟨#[c]⟩ t) →
    wpAny (model X.prog X.w) A' (eval elt cenv) (fun y z' => y = .bool (pb c) ∧ Keeps z z') E' z
/-- sign in NAME, NAME a text of the module -/
theorem in_elt {X : Cx} {scope : Scope} {x nm : Str} {z : Str} {tz : Tok} {p1 p2 p3 : Pos} (M : L2.Mod X.K X.mg X.base) (kind : scope.kind = .function) (kx : scope.names.lookup x = some NameKind.local) (kn : scope.names.lookup nm = some NameKind.globalImplicit) (dx : (x == ("__debug__" : Str)) = false) (dn : (nm == ("__debug__" : Str)) = false) (hmg : X.mg nm = some (.str z tz)) :
    LooksC X scope x (.Compare (.Name x p1) [.In] [.Name nm p2] p3) (fun c => decide (c ∈ z.cps.toList)) := by
  intro cenv A' E' c t s mz sc gl up nz mx
  have kc : cenv.scope.kind = .function := by rw [sc]; exact kind
  refine wpAny_Compare1 ?_
  refine wpAny_Name (wpAny_loadName_local kc (show cenv.scope.names.lookup x = _ by rw [sc]; exact kx) nz mx ?_) dx
  refine Calls.Name_function_global kc (show cenv.scope.names.lookup nm = _ by rw [sc]; exact kn) (Calls.loadGlobal_global (by rw [gl]; exact M.glob.keeps up) hmg ?_) dn
  exact PyProof.Rows.in_str ⟨congrArg Value.bool (PySem.StrLaws.found_one z c), GxR.keeps_tok _ _⟩
/-- the state when the generator's code object was got: the table at P may be longer -/
structure Got (P : Addr) (ps : Array Value) (z z' : Shared) : Prop where
  same : z' = { z with heap := z'.heap, toks := z'.toks }
  ext : Heap.ExtBut P z.heap z'.heap
  size : z.heap.objs.size ≤ z'.heap.objs.size
  tab : ∃ more, z'.heap.get? P = some { cls := .none, data := .fields (ps ++ more) } ∧ TriplesOk (ps ++ more).toList
theorem code_got {prog : Program} {w : World} {A : Around} {E : Value → Shared → Prop} {env : Env} {gpos : Pos} {nm : Str} {scope : Scope} {c P : Addr} {ps : Array Value} {z : Shared}
    (hcode : env.code = .ref c) (cd : PySem.W.CodeHd z.heap c P) (hP : z.heap.get? P = some { cls := .none, data := .fields ps }) (ht : TriplesOk ps.toList) :
    wpAny (model prog w) A (genexprCode env gpos nm scope) (fun _ z' => Got P ps z z') E z := by
  cases among : codeAmong gpos ps.toList with
  | some cv => exact wpAny_genexprCode_hit hcode (cd.code hP ht) among ⟨rfl, .refl _ _, Nat.le_refl _, #[], by simpa using hP, by simpa using ht⟩
  | none =>
    refine wpAny_genexprCodeX hcode (cd.code hP ht) (cd.tab hP) among fun c' h' tk ext ge lt co _ tab _ => ?_
    obtain ⟨_, _, _, _, _, _, _, _, _, _, _, _, _, _, _, _, _, _, _, tr, _⟩ := co
    exact ⟨rfl, ext, Nat.le_trans ge (Nat.le_of_lt lt), _, tab.2, tr⟩
/-- a generator g of n truths pb, about to be walked; however far it is walked, H1 stands but for the table -/
def Poised (X : Cx) (pins : List (Addr × Obj)) (σ : L2.St) (H1 : Hp) (P : Addr) (n : Nat) (pb : Nat → Bool) (g : Addr) (z : Shared) : Prop :=
  ∃ (foot own : List Addr) (Gn : Array GenState → Array GenState → Prop) (Fn : Nat → Value → Prop) (Sn : Nat → Shared → Prop),
    WalksS X.prog X.w X.A.in1 g foot own Gn n Fn Sn ∧ Sn 0 z ∧ TruthOf X.prog X.w X.A.in1 Fn pb ∧ ∀ z', Moved own Gn z z' → ∃ H2, Tabbed P H1 H2 ∧ Inv X pins σ H2 z'
theorem gen_signs {X : Cx} {pins : List (Addr × Obj)} {σ : L2.St} {H : Hp} {s : Shared} {c P : Addr} {elt iter : Expr} {x : Str} {px gpos : Pos} {scope : Scope} {te : TE} {pb : Nat → Bool} {k : Nat} {Qg : Value → Shared → Prop}
    (hr : Room k X.A) (TB : TabB X.base X.mg c P) (hcode : X.env.code = .ref c) (S : GenS X.env scope x) (hi : PE X iter te) (look : LooksC X scope x elt pb) (hs : ∀ v, genFold iter X.env v = pure v) (I : Inv X pins σ H s)
    {R : VK} (h : te σ H R) (hR : ∀ v H1, R v H1 → ∃ a : Str, v = .str a ∧ TabG H1 P ∧ ∀ g z, Poised X pins σ H1 P a.cps.size (trF pb a.cps.toList) g z → Qg (.ref g) z) :
    wpAny (model X.prog X.w) X.A (eval (.GeneratorExp elt [⟨.Name x px, iter, [], 0⟩] scope gpos) X.env) Qg X.xe s := by
  refine wpAny_GeneratorExp_walksQD hr.hd S.co (closure_ok S.free) S.cell S.dot S.loc S.kind (by have := hr.dp; omega) ?_ hs
  refine thn (hi.run pins s σ H _ I h) fun u s1 ⟨v, H1, I1, rel, now⟩ => ?_
  obtain ⟨a, ev, ⟨ps, hP, tri⟩, fin⟩ := hR v H1 now
  subst ev
  obtain ⟨ta, rfl⟩ : ∃ ta, u = Value.str a ta := rel
  refine wpAny_pyIter_str fun ob0 St walk first => ?_
  have tabP : s1.heap.get? P = some { cls := .none, data := .fields ps } := I1.hok P _ hP
  have pushed : ∀ b o, s1.heap.get? b = some o → (s1.heap.push ob0).get? b = some o := fun b o e => Heap.get?_push_of_some _ e
  have wider : (s1.heap.push ob0).objs.size = s1.heap.objs.size + 1 := Heap.size_push ..
  generalize s1.heap.push ob0 = h2 at pushed first wider ⊢
  have pl : P < s1.heap.objs.size := Heap.lt_size tabP
  have cl : cStatics < s1.heap.objs.size := let ⟨_, hn, _⟩ := I1.nolimit; hn.lt
  have cP : cStatics ≠ P := fun e => by
    obtain ⟨_, ⟨o, es, ep, ho, hd, _⟩, _⟩ := I1.nolimit
    rw [e, tabP] at ho
    cases ho
    cases hd
  have lim2 : h2.NoLimit := I1.nolimit.keeps pushed
  refine ⟨lim2, thn (code_got (ps := ps) hcode (TB.code.keeps fun b o e => pushed b o (I1.bk b o e)) (pushed _ _ tabP) tri) fun code s3 got => ?_⟩
  obtain ⟨eq3, ext, wide, more, hP3, tri3⟩ := got
  obtain ⟨h3, g3, d3, t3, o3⟩ := s3
  obtain ⟨rfl, rfl, rfl⟩ : g3 = s1.gens ∧ d3 = s1.drawn ∧ o3 = s1.os := by
    have := eq3
    simp only [Shared.mk.injEq] at this
    exact ⟨this.2.1, this.2.2.1, this.2.2.2.2⟩
  replace ext : Heap.ExtBut P h2 h3 := ext
  replace wide : h2.objs.size ≤ h3.objs.size := wide
  have kept : ∀ b o, b ≠ P → s1.heap.get? b = some o → h3.get? b = some o := fun b o nb e => ext b o nb (pushed b o e)
  obtain ⟨bm, ob, b1, b2, b3, b4, b5, b6, b7, b8⟩ := TB.bm
  refine wpAny_builtinsFor (m := X.mg) (by rw [I1.ok.glob]; exact (I1.mod.glob.keeps fun b o e => pushed b o (I1.bk b o e)).extBut ext TB.gP) b1 b2 (kept _ _ b4 (I1.bk _ _ b5)) b6 b7 b8 ?_
  refine ⟨s1.heap.objs.size, [s1.heap.objs.size], [s1.heap.objs.size], a.cps.size, SignAt a, St, (fun _ => true), (fun i y => ∃ cc, a.cps[i]? = some cc ∧ y = .bool (pb cc)), rfl, walk, ?_, ?_, lim2.extBut ext cP, ?_, ?_, ?_⟩
  · refine (walk X.A hr.hd).frame _ _ _ first fun b hb u e => ext b u (fun z => ?_) e
    rw [List.mem_singleton.mp hb] at z
    exact Nat.ne_of_lt pl z.symm
  · intro b hb
    rw [List.mem_singleton.mp hb]
    show s1.heap.objs.size < h3.objs.size
    omega
  · intro z
    exact Nat.ne_of_lt cl (List.mem_singleton.mp z)
  · intro href above
    refine ⟨fun A' E' i v z mz _ _ _ _ _ _ _ => ?_, fun A' E' i v z mz _ dep _ pv _ nz mx up => ?_⟩
    · rw [List.forIn_nil]
      exact wpAny_pure ⟨rfl, GxR.keeps_refl z⟩
    · obtain ⟨cc, uc, at_, rfl⟩ := pv
      refine wpAny_mono (look _ A' E' cc uc z mz rfl I1.ok.glob (fun b o e => ?_) nz mx) (fun y z' r => ⟨⟨cc, at_, r.1⟩, r.2⟩) fun _ _ e => e
      have nb : b ≠ P := fun q => by
        have := (I1.bs b o e).2
        rw [q, hP] at this
        cases this
      have e1 := kept b o nb (I1.bk b o e)
      have bl := Heap.lt_size (I1.bk b o e)
      exact up b (List.mem_range.mpr (Heap.lt_size e1)) (fun q => Nat.ne_of_lt bl (List.mem_singleton.mp q)) o (above b o e1)
  · intro g h5 tk5 gs bare gt size5 kept5 W st0
    have many : (passing (fun _ => true) a.cps.size 0).length = a.cps.size := by rw [GxR.passing_true, List.length_range]
    rw [many] at W
    refine fin g _ ⟨_, _, _, _, _, W.in4_1, st0, fun j y z Qj Ej hy now => ?_, fun z' mv => ?_⟩
    · obtain ⟨i, hij, cc, hcc, rfl⟩ := hy
      rw [GxR.passing_true] at hij
      obtain ⟨lt, ij⟩ := List.getElem?_eq_some_iff.mp hij
      rw [List.getElem_range] at ij
      subst ij
      have now : Qj (trF pb a.cps.toList j) z := now
      rw [trF_some (b := cc) (by rw [Array.getElem?_toList]; exact hcc)] at now
      exact wpAny_truthy_bool now
    · have un : ∀ b o, s1.heap.get? b = some o → b ∉ h3.objs.size :: [s1.heap.objs.size] := fun b o e q => by
        have bl := Heap.lt_size e
        have past : s1.heap.objs.size < h3.objs.size := by omega
        have either : b = h3.objs.size ∨ b = s1.heap.objs.size := by simpa using q
        rcases either with q | q
        · exact Nat.ne_of_lt (Nat.lt_trans bl past) q
        · exact Nat.ne_of_lt bl q
      have J := inv_tab (more := more) (h' := z'.heap) (g' := z'.gens) (d' := z'.drawn) (t' := z'.toks) I1 hP (fun b o nb e => mv.heap b o (un b o e) (kept5 b o (kept b o nb e))) (mv.heap P _ (un P _ tabP) (kept5 P _ hP3)) (AllBare.movedS (I1.bare.push bare) mv)
      rw [sh_eta s1 z' mv.os] at J
      exact ⟨_, ⟨⟨_, upd_same, tri3⟩, fun b nb => upd_ne nb⟩, J⟩
theorem pe_allC {X : Cx} (K : PySem.W.Frag) (hK : X.K = K) {c P : Addr} {elt iter : Expr} {x : Str} {px p pos gpos : Pos} {scope : Scope} {te : TE} {pb : Nat → Bool} {k : Nat}
    (hr : Room k X.A) (hg : Gl X "all") (hm : X.mg "all" = none) (hb : bootBuiltins "all" = some (.builtin "all")) (TB : TabB X.base X.mg c P) (hcode : X.env.code = .ref c) (S : GenS X.env scope x) (hi : PE X iter te) (look : L2.Mod X.K X.mg X.base → LooksC X scope x elt pb)
    (hs : ∀ v, genFold iter X.env v = pure v) (he : starEach [.GeneratorExp elt [⟨.Name x px, iter, [], 0⟩] scope gpos] X.env = (false, eval (.GeneratorExp elt [⟨.Name x px, iter, [], 0⟩] scope gpos) X.env) :: starEach [] X.env := by rfl) :
    PE X (.Call (.Name "all" p) [.GeneratorExp elt [⟨.Name x px, iter, [], 0⟩] scope gpos] [] pos) (tAllS P pb te) := by
  subst hK
  refine ⟨fun pins s σ H Q I h => ?_⟩
  refine wpAny_Call_Name_kw (ld_blt I hg hm hb (PyProof.Rows.callWith_builtin1 ?_ he rfl))
  rw [he]
  refine Calls.spliced_cons (gen_signs hr TB hcode S hi (look I.mod) hs I h fun v H1 now => ?_)
  obtain ⟨a, rfl, tab, fin⟩ := now
  refine ⟨a, rfl, tab, fun g z poised => Calls.spliced_nil ?_⟩
  obtain ⟨fp, wr, G, F, St, walks, st0, truth, after⟩ := poised
  refine call_all_walkS (walks.self 0 _ _ _ st0 ⟨g, fp, wr, G, _, F, St, _, rfl, walks, st0, truth, fun z' mv => ?_⟩)
  obtain ⟨H2, tb, J⟩ := after z' mv
  refine ⟨.bl _, H2, J, rfl, ?_⟩
  rw [all_signs a pb]
  exact fin H2 tb
/-- a def of which the code object is known -/
theorem genS_of {env : Env} {scope : Scope} {x : Str} (h1 : scope.kind = .function) (h2 : scope.isCoroutine = false) (h3 : ∀ y ∈ scope.names, y.2 ≠ .cell) (h4 : scope.names.lookup (".0" : Str) = some NameKind.local) (h5 : scope.names.lookup x = some .local) (h6 : ∀ y ∈ scope.names, y.2 ≠ .free) : GxR.GenS env scope x :=
  ⟨h1, h2, h3, h4, h5, fun y hy z => absurd z (h6 y hy)⟩
end

open PySem.NumText
def isFig (c : Nat) : Bool := decide (c ∈ figS.cps.toList)
theorem figs_eq : figS.cps.toList = [48, 49, 50, 51, 52, 53, 54, 55, 56, 57] := by decide +kernel
theorem isFig_iff {c : Nat} : isFig c = true ↔ 48 ≤ c ∧ c ≤ 57 := by
  unfold isFig
  rw [figs_eq, decide_eq_true_iff]
  constructor
  · intro h
    simp only [List.mem_cons, List.not_mem_nil, or_false] at h
    omega
  · intro h
    simp only [List.mem_cons, List.not_mem_nil, or_false]
    omega
/-- what stands behind a minus at the front -/
def figL (l : List Nat) : List Nat := if l.head? = some 45 then l.tail else l
/-- the number that a text writes -/
def numO (l : List Nat) : Option Int :=
  if (figL l).length < 1 ∨ 9 < (figL l).length then none
  else if (figL l).all isFig = false then none
  else if (figL l).head? = some 48 ∧ l ≠ [48] then none
  else some ((if l.head? = some 45 then -1 else 1) * ((digitsVal (figL l) : Nat) : Int))
def numV : Option Int → V
  | none => .non
  | some n => .int n
theorem str_inj {a b : Str} (h : a.cps.toList = b.cps.toList) : a = b := by
  cases a; cases b
  exact congrArg _ (Array.toList_inj.mp h)
theorem prefix_minus (a : Str) : (Txt.removeprefix a "-").cps.toList = figL a.cps.toList := by
  rw [PySem.StrLaws.removeprefix_eq]
  obtain ⟨arr⟩ := a
  obtain ⟨l⟩ := arr
  have e1 : (("-" : Str) : Str) = ⟨#[45]⟩ := by decide +kernel
  rw [e1]
  cases l with
  | nil => rfl
  | cons c r =>
    have el : Str.length ⟨#[45]⟩ = 1 := rfl
    have es : Str.length ⟨(c :: r).toArray⟩ = r.length + 1 := rfl
    have eb : Builtin.Str.subAt ⟨(c :: r).toArray⟩ ⟨#[45]⟩ 0 = decide (c = 45) := by
      unfold Builtin.Str.subAt
      by_cases h : c = 45
      · subst h
        simp [Str.length]
      · rw [decide_eq_false h]
        simp [Str.length, h]
    rw [eb, el, es]
    by_cases h : c = 45
    · subst h
      simp [figL]
    · simp [figL, h]
theorem fig_digits {l : List Nat} (h : l.all isFig = true) : AllDigits l := fun c hc => isFig_iff.mp (List.all_eq_true.mp h c hc)
theorem numO_some {l : List Nat} {n : Int} (h : numO l = some n) : (figL l).length ≤ 9 ∧ figL l ≠ [] ∧ AllDigits (figL l) ∧ n = (if l.head? = some 45 then -1 else 1) * ((digitsVal (figL l) : Nat) : Int) := by
  unfold numO at h
  by_cases h1 : (figL l).length < 1 ∨ 9 < (figL l).length
  · rw [if_pos h1] at h; cases h
  rw [if_neg h1] at h
  by_cases h2 : (figL l).all isFig = false
  · rw [if_pos h2] at h; cases h
  rw [if_neg h2] at h
  by_cases h3 : (figL l).head? = some 48 ∧ l ≠ [48]
  · rw [if_pos h3] at h; cases h
  rw [if_neg h3] at h
  refine ⟨by omega, fun z => ?_, fig_digits (by simpa using h2), (Option.some.inj h).symm⟩
  rw [z] at h1
  exact h1 (.inl (by decide))
theorem int_reads {a : Str} {n : Int} (h : numO a.cps.toList = some n) : PySem.intText? a = some n := by
  obtain ⟨l1, l2, l3, rfl⟩ := numO_some h
  have la : a.cps.toList.length = a.length := Array.length_toList
  by_cases hd : a.cps.toList.head? = some 45
  · have ef : figL a.cps.toList = a.cps.toList.tail := if_pos hd
    have ec : a.cps.toList = 45 :: figL a.cps.toList := by
      rw [ef]
      cases hl : a.cps.toList with
      | nil => rw [hl] at hd; cases hd
      | cons c r =>
        rw [hl] at hd
        have : c = 45 := Option.some.inj hd
        rw [this]; rfl
    have e := intText_neg ec l3 l2 (by rw [← la, ec, List.length_cons]; omega)
    rw [e, if_pos hd]
    congr 1
    omega
  · have ef : figL a.cps.toList = a.cps.toList := if_neg hd
    rw [ef] at l1 l2 l3
    have e := intText_digits l3 l2 (by rw [← la]; omega)
    rw [e, if_neg hd, ef]
    congr 1
    omega
/-- text[:1] == "-" -/
theorem cut_head (a : Str) : decide (V.str (cutS a none (some 1)) = V.str "-") = decide (a.cps.toList.head? = some 45) := by
  have e1 : (("-" : Str) : Str) = ⟨#[45]⟩ := by decide +kernel
  rw [e1]
  obtain ⟨arr⟩ := a
  obtain ⟨l⟩ := arr
  cases l with
  | nil => decide
  | cons c r =>
    have e2 : cutS ⟨(c :: r).toArray⟩ none (some 1) = ⟨#[c]⟩ := by
      refine str_inj ?_
      show (((c :: r).drop 0).take (HT.sIx (r.length + 1) (r.length + 1) (some ((1 : Nat) : Int)) - HT.sIx (r.length + 1) 0 none)) = [c]
      rw [HT.sIx_none, HT.sIx_nat]
      have : min 1 (r.length + 1) - 0 = 1 := by omega
      rw [this]
      rfl
    rw [e2]
    by_cases h : c = 45
    · subst h; rfl
    · rw [decide_eq_false (fun z : (c :: r).head? = some 45 => h (Option.some.inj z)), decide_eq_false]
      intro z
      have z := V.str.inj z
      injection z with z
      have z2 : [c] = [45] := congrArg Array.toList z
      exact h (List.cons.inj z2).1
theorem cut_tail (a : Str) : (cutS a (some 1) none).cps.toList = a.cps.toList.tail := by
  obtain ⟨arr⟩ := a
  obtain ⟨l⟩ := arr
  cases l with
  | nil => rfl
  | cons c r =>
    show (((c :: r).drop (HT.sIx (r.length + 1) 0 (some ((1 : Nat) : Int)))).take (HT.sIx (r.length + 1) (r.length + 1) none - HT.sIx (r.length + 1) 0 (some ((1 : Nat) : Int)))) = r
    rw [HT.sIx_none, HT.sIx_nat]
    have : min 1 (r.length + 1) = 1 := by omega
    rw [this]
    show r.take (r.length + 1 - 1) = r
    rw [Nat.add_sub_cancel, List.take_length]
/-- a number written is read back -/
theorem toDig_head : ∀ m : Nat, 0 < m → (Nat.toDigits 10 m).head? ≠ some '0' := by
  intro m
  induction m using Nat.strongRecOn with
  | _ m ih =>
    intro h0
    by_cases h : m < 10
    · rw [Nat.toDigits_of_lt_base h]
      have : m = 1 ∨ m = 2 ∨ m = 3 ∨ m = 4 ∨ m = 5 ∨ m = 6 ∨ m = 7 ∨ m = 8 ∨ m = 9 := by omega
      rcases this with rfl | rfl | rfl | rfl | rfl | rfl | rfl | rfl | rfl <;> decide
    · have hm : m % 10 < 10 := Nat.mod_lt m (by decide)
      have t : Nat.toDigits 10 (m / 10) ++ Nat.toDigits 10 (m % 10) = Nat.toDigits 10 (10 * (m / 10) + m % 10) := Nat.toDigits_append_toDigits (by decide) (by omega) hm
      rw [Nat.div_add_mod] at t
      have q := ih (m / 10) (by omega) (by omega)
      rw [← t]
      cases hd : Nat.toDigits 10 (m / 10) with
      | nil =>
        have := PySem.W.KIN.val_back (m / 10)
        rw [hd] at this
        have : 0 = m / 10 := this
        omega
      | cons c r => rw [hd] at q; exact q
theorem toDig_len : ∀ (k m : Nat), m < 10 ^ (k + 1) → (Nat.toDigits 10 m).length ≤ k + 1
  | 0, m, h => by
    rw [Nat.toDigits_of_lt_base (by simpa using h)]
    exact Nat.le_refl _
  | k + 1, m, h => by
    by_cases h2 : m < 10
    · rw [Nat.toDigits_of_lt_base h2]
      show 1 ≤ _
      omega
    · have hm : m % 10 < 10 := Nat.mod_lt m (by decide)
      have t : Nat.toDigits 10 (m / 10) ++ Nat.toDigits 10 (m % 10) = Nat.toDigits 10 (10 * (m / 10) + m % 10) := Nat.toDigits_append_toDigits (by decide) (by omega) hm
      rw [Nat.div_add_mod] at t
      have q := toDig_len k (m / 10) (by rw [Nat.pow_succ] at h; omega)
      rw [← t, List.length_append, Nat.toDigits_of_lt_base hm]
      show _ + 1 ≤ _
      omega
theorem toDig_ne (m : Nat) : Nat.toDigits 10 m ≠ [] := by
  by_cases h : m < 10
  · rw [Nat.toDigits_of_lt_base h]; exact List.cons_ne_nil _ _
  · intro e
    have := PySem.W.KIN.val_back m
    rw [e] at this
    have : 0 = m := this
    omega
theorem dig_fig {m c : Nat} (h : c ∈ (Nat.toDigits 10 m).map Char.toNat) : 48 ≤ c ∧ c ≤ 57 := by
  obtain ⟨ch, hch, e⟩ := List.mem_map.mp h
  have r := digit_range (Nat.isDigit_of_mem_toDigits (by decide) (by decide) hch)
  rw [← e]
  exact r
/-- the figures of m -/
def digN (m : Nat) : List Nat := (Nat.toDigits 10 m).map Char.toNat
theorem digN_zero : digN 0 = [48] := by decide
theorem digN_head {m : Nat} (h : 0 < m) : (digN m).head? ≠ some 48 := by
  unfold digN
  have q := toDig_head m h
  cases hd : Nat.toDigits 10 m with
  | nil => intro z; cases z
  | cons c r =>
    rw [hd] at q
    intro z
    have z : c.toNat = 48 := Option.some.inj z
    refine q (congrArg some (Char.ext ?_))
    exact UInt32.toNat_inj.mp z
theorem head_mem {l : List Nat} {c : Nat} (h : l.head? = some c) : c ∈ l := by
  cases l with
  | nil => cases h
  | cons d r => rw [← Option.some.inj h]; exact List.mem_cons_self ..
theorem digN_45 (m : Nat) : (digN m).head? ≠ some 45 := fun z => by
  have := dig_fig (m := m) (head_mem z)
  omega
theorem digN_all (m : Nat) : (digN m).all isFig = true := List.all_eq_true.mpr fun c hc => isFig_iff.mpr (dig_fig (m := m) hc)
theorem num_pos {m : Nat} (h : m < 10 ^ 9) : numO (digN m) = some (m : Int) := by
  have ef : figL (digN m) = digN m := if_neg (digN_45 m)
  have l1 : (digN m).length ≤ 9 := by unfold digN; rw [List.length_map]; exact toDig_len 8 m h
  have l2 : 0 < (digN m).length := by unfold digN; rw [List.length_map]; exact List.length_pos_iff.mpr (toDig_ne m)
  unfold numO
  rw [ef, if_neg (by omega), if_neg (by rw [digN_all]; exact Bool.noConfusion), if_neg, if_neg (digN_45 m)]
  · have : digitsVal (digN m) = m := PySem.W.KIN.val_back m
    rw [this]
    congr 1
    omega
  · rintro ⟨z1, z2⟩
    by_cases h0 : m = 0
    · rw [h0] at z2; exact z2 digN_zero
    · exact digN_head (by omega) z1
theorem num_neg {m : Nat} (h0 : 0 < m) (h : m < 10 ^ 9) : numO (45 :: digN m) = some (-(m : Int)) := by
  have ef : figL (45 :: digN m) = digN m := if_pos rfl
  have l1 : (digN m).length ≤ 9 := by unfold digN; rw [List.length_map]; exact toDig_len 8 m h
  have l2 : 0 < (digN m).length := by unfold digN; rw [List.length_map]; exact List.length_pos_iff.mpr (toDig_ne m)
  unfold numO
  rw [ef, if_neg (by omega), if_neg (by rw [digN_all]; exact Bool.noConfusion), if_neg]
  · have : digitsVal (digN m) = m := PySem.W.KIN.val_back m
    rw [if_pos (show (45 :: digN m).head? = some 45 from rfl), this]
    congr 1
    omega
  · rintro ⟨z1, z2⟩
    exact digN_head h0 z1
theorem str_pos (m : Nat) : (Str.ofString (toString ((m : Nat) : Int))).cps.toList = digN m := PySem.W.KIN.signs_num m
theorem str_neg {m : Nat} (h : 0 < m) : (Str.ofString (toString (-(m : Int)))).cps.toList = 45 :: digN m := by
  obtain ⟨k, rfl⟩ : ∃ k, m = k + 1 := ⟨m - 1, by omega⟩
  rw [signs_ofString]
  show (("-" ++ Nat.repr (k + 1) : String)).toList.map Char.toNat = _
  rw [String.toList_append, List.map_append, Nat.toList_repr]
  rfl
/-! ### texts as lists of signs: parted and put together -/
def splitL (c : Nat) : List Nat → List (List Nat)
  | [] => [[]]
  | d :: l => if d = c then [] :: splitL c l else
    match splitL c l with
    | [] => [[d]]
    | p :: r => (d :: p) :: r
def joinL (c : Nat) : List (List Nat) → List Nat
  | [] => []
  | [p] => p
  | p :: q :: r => p ++ c :: joinL c (q :: r)
theorem splitL_ne (c : Nat) (l : List Nat) : splitL c l ≠ [] := by
  cases l with
  | nil => exact List.cons_ne_nil _ _
  | cons d l =>
    unfold splitL
    split
    · exact List.cons_ne_nil _ _
    · split <;> exact List.cons_ne_nil _ _
theorem splitL_cons {c d : Nat} {l : List Nat} (h : d ≠ c) : ∃ p r, splitL c l = p :: r ∧ splitL c (d :: l) = (d :: p) :: r := by
  cases e : splitL c l with
  | nil => exact absurd e (splitL_ne c l)
  | cons p r =>
    refine ⟨p, r, rfl, ?_⟩
    show (if d = c then _ else _) = _
    rw [if_neg h, e]
theorem joinL_split (c : Nat) : ∀ l : List Nat, joinL c (splitL c l) = l
  | [] => rfl
  | d :: l => by
    have ih := joinL_split c l
    by_cases h : d = c
    · subst h
      show joinL d (if d = d then [] :: splitL d l else _) = _
      rw [if_pos rfl]
      cases e : splitL d l with
      | nil => exact absurd e (splitL_ne d l)
      | cons p r =>
        rw [e] at ih
        show [] ++ d :: joinL d (p :: r) = d :: l
        rw [ih]; rfl
    · obtain ⟨p, r, e1, e2⟩ := splitL_cons (l := l) h
      rw [e2]
      rw [e1] at ih
      cases r with
      | nil =>
        show d :: p = d :: l
        rw [show p = l from ih]
      | cons q r =>
        show d :: p ++ c :: joinL c (q :: r) = d :: l
        have ih : p ++ c :: joinL c (q :: r) = l := ih
        rw [← ih]; rfl
theorem splitL_join {c : Nat} : ∀ {ps : List (List Nat)}, ps ≠ [] → (∀ p ∈ ps, c ∉ p) → splitL c (joinL c ps) = ps
  | [], h, _ => absurd rfl h
  | [p], _, g => by
    have key : ∀ p : List Nat, c ∉ p → splitL c p = [p] := fun p => by
      induction p with
      | nil => intro _; rfl
      | cons d p ih =>
        intro h
        obtain ⟨q, r, e1, e2⟩ := splitL_cons (c := c) (d := d) (l := p) (fun z => h (by rw [z]; exact List.mem_cons_self ..))
        rw [ih fun z => h (List.mem_cons_of_mem _ z)] at e1
        rw [e2]
        obtain ⟨rfl, rfl⟩ : p = q ∧ [] = r := ⟨(List.cons.inj e1).1, (List.cons.inj e1).2⟩
        rfl
    exact key p (g p (List.mem_cons_self ..))
  | p :: q :: r, _, g => by
    have ih := splitL_join (c := c) (ps := q :: r) (List.cons_ne_nil _ _) fun x hx => g x (List.mem_cons_of_mem _ hx)
    have key : ∀ p : List Nat, c ∉ p → splitL c (p ++ c :: joinL c (q :: r)) = p :: q :: r := fun p => by
      induction p with
      | nil =>
        intro _
        show (if c = c then [] :: splitL c _ else _) = _
        rw [if_pos rfl, ih]
      | cons d p ih2 =>
        intro h
        obtain ⟨x, y, e1, e2⟩ := splitL_cons (c := c) (d := d) (l := p ++ c :: joinL c (q :: r)) (fun z => h (by rw [z]; exact List.mem_cons_self ..))
        rw [ih2 fun z => h (List.mem_cons_of_mem _ z)] at e1
        show splitL c (d :: (p ++ _)) = _
        rw [e2]
        obtain ⟨rfl, rfl⟩ : p = x ∧ q :: r = y := ⟨(List.cons.inj e1).1, (List.cons.inj e1).2⟩
        rfl
    exact key p (g p (List.mem_cons_self ..))
theorem splitL_no {c : Nat} : ∀ {l : List Nat}, ∀ p ∈ splitL c l, c ∉ p
  | [], p, hp => by
    obtain rfl := List.mem_singleton.mp hp
    exact List.not_mem_nil
  | d :: l, p, hp => by
    by_cases h : d = c
    · have e : splitL c (d :: l) = [] :: splitL c l := if_pos h
      rw [e] at hp
      rcases List.mem_cons.mp hp with rfl | hp
      · exact List.not_mem_nil
      · exact splitL_no p hp
    · obtain ⟨x, y, e1, e2⟩ := splitL_cons (l := l) h
      rw [e2] at hp
      rcases List.mem_cons.mp hp with rfl | hp
      · intro z
        rcases List.mem_cons.mp z with z | z
        · exact h z.symm
        · exact splitL_no x (by rw [e1]; exact List.mem_cons_self ..) z
      · exact splitL_no p (by rw [e1]; exact List.mem_cons_of_mem _ hp)
/-! ### the model's split and join of one sign -/
section
open PySem.StrLaws PySem.Builtin PySem.Builtin.Str
theorem occ_all {x : PySem.Str} {c hi limit : Nat} : ∀ (n lo : Nat) (acc : Array Nat) (f : Nat), f ≤ lo → acc.size + n ≤ limit →
    (forIn (List.range' lo n) (acc, f) (occBody x ⟨#[c]⟩ hi limit)).run.fst.toList = acc.toList ++ (List.range' lo n).filter fun i => decide (i + 1 ≤ hi) && subAt x ⟨#[c]⟩ i
  | 0, _, acc, _, _, _ => by
    show acc.toList = acc.toList ++ []
    rw [List.append_nil]
  | n + 1, lo, acc, f, hf, hl => by
    rw [List.range'_succ, List.forIn_cons, List.filter_cons]
    unfold occBody
    by_cases h : lo + 1 ≤ hi ∧ subAt x ⟨#[c]⟩ lo = true
    · have a : ((acc.size < limit ∧ f ≤ lo) ∧ lo + PySem.Str.length ⟨#[c]⟩ ≤ hi) ∧ subAt x ⟨#[c]⟩ lo = true := ⟨⟨⟨by omega, hf⟩, h.1⟩, h.2⟩
      rw [if_pos a, if_pos (by rw [Bool.and_eq_true]; exact ⟨decide_eq_true h.1, h.2⟩)]
      have ih := occ_all (x := x) (c := c) (hi := hi) (limit := limit) n (lo + 1) (acc.push lo) (lo + 1) (Nat.le_refl _) (by rw [Array.size_push]; omega)
      refine Eq.trans ih ?_
      rw [Array.toList_push, List.append_assoc]; rfl
    · have a : ¬ (((acc.size < limit ∧ f ≤ lo) ∧ lo + PySem.Str.length ⟨#[c]⟩ ≤ hi) ∧ subAt x ⟨#[c]⟩ lo = true) := fun z => h ⟨z.1.2, z.2⟩
      rw [if_neg a, if_neg (by rw [Bool.and_eq_true]; exact fun z => h ⟨of_decide_eq_true z.1, z.2⟩)]
      exact occ_all (x := x) (c := c) (hi := hi) (limit := limit) n (lo + 1) acc f (by omega) (by omega)
theorem sub_one {x : PySem.Str} {c i : Nat} (h : i < x.cps.toList.length) : subAt x ⟨#[c]⟩ i = decide (x.cps.toList[i]? = some c) := by
  rw [subAt_eq]
  have e : (x.cps.toList.drop i).take (PySem.Str.length ⟨#[c]⟩) = [x.cps.toList[i]] := by
    rw [List.drop_eq_getElem_cons h]; rfl
  rw [e, List.getElem?_eq_getElem h]
  show ([x.cps.toList[i]] == [c]) = _
  by_cases z : x.cps.toList[i] = c
  · rw [z, decide_eq_true rfl]; exact beq_self_eq_true _
  · rw [decide_eq_false (fun y => z (Option.some.inj y))]
    exact beq_eq_false_iff_ne.mpr fun y => z (List.cons.inj y).1
theorem strlen (x : PySem.Str) : x.length = x.cps.toList.length := by simp [PySem.Str.length]
/-- from a cut on: the pieces of the rest -/
theorem parts_rest {x : PySem.Str} {c : Nat} : ∀ (n a s : Nat), s ≤ a → a + n = x.cps.toList.length →
    ∃ p r, splitL c (x.cps.toList.drop a) = p :: r ∧
      (partsFrom x 1 s ((List.range' a (n + 1)).filter fun i => decide (i + 1 ≤ x.length) && subAt x ⟨#[c]⟩ i)).map (fun z => z.cps.toList) = ((x.cps.toList.drop s).take (a - s) ++ p) :: r
  | 0, a, s, hs, hn => by
    have e : (List.range' a (0 + 1)).filter (fun i => decide (i + 1 ≤ x.length) && subAt x ⟨#[c]⟩ i) = [] := by
      rw [List.range'_succ, List.filter_cons, if_neg (by rw [strlen, decide_eq_false (by omega), Bool.false_and]; decide)]; rfl
    rw [e]
    have d0 : x.cps.toList.drop a = [] := List.drop_eq_nil_of_le (by omega)
    refine ⟨[], [], by rw [d0]; rfl, ?_⟩
    show [(strSub x s x.length).cps.toList] = _
    rw [strSub_toList, strlen, List.append_nil, show x.cps.toList.length - s = a - s by omega]
  | n + 1, a, s, hs, hn => by
    have al : a < x.cps.toList.length := by omega
    have dc : x.cps.toList.drop a = x.cps.toList[a] :: x.cps.toList.drop (a + 1) := List.drop_eq_getElem_cons al
    rw [List.range'_succ, List.filter_cons, sub_one al, List.getElem?_eq_getElem al, dc]
    by_cases h : x.cps.toList[a] = c
    · rw [if_pos (by rw [strlen, decide_eq_true (by omega), decide_eq_true (congrArg some h)]; rfl)]
      obtain ⟨p, r, e1, e2⟩ := parts_rest (x := x) (c := c) n (a + 1) (a + 1) (Nat.le_refl _) (by omega)
      refine ⟨[], p :: r, ?_, ?_⟩
      · show (if _ = c then [] :: splitL c _ else _) = _
        rw [if_pos h, e1]
      · show (strSub x s a).cps.toList :: (partsFrom x 1 (a + 1) _).map _ = _
        rw [e2, strSub_toList, Nat.sub_self, List.take_zero, List.nil_append, List.append_nil]
    · rw [if_neg (by rw [decide_eq_false (fun y => h (Option.some.inj y)), Bool.and_false]; decide)]
      obtain ⟨p, r, e1, e2⟩ := parts_rest (x := x) (c := c) n (a + 1) s (by omega) (by omega)
      obtain ⟨p', r', f1, f2⟩ := splitL_cons (c := c) (d := x.cps.toList[a]) (l := x.cps.toList.drop (a + 1)) h
      rw [e1] at f1
      obtain ⟨rfl, rfl⟩ : p = p' ∧ r = r' := ⟨(List.cons.inj f1).1, (List.cons.inj f1).2⟩
      refine ⟨_, _, f2, ?_⟩
      rw [e2]
      have t : (x.cps.toList.drop s).take (a + 1 - s) = (x.cps.toList.drop s).take (a - s) ++ [x.cps.toList[a]] := by
        rw [show a + 1 - s = (a - s) + 1 by omega, List.take_add_one, List.getElem?_drop, show s + (a - s) = a by omega, List.getElem?_eq_getElem al]; rfl
      rw [t, List.append_assoc]; rfl
theorem split_one (x : PySem.Str) {c : Nat} (hc : c < 256) : (PySem.Txt.split x ⟨#[c]⟩).map (fun z => z.cps.toList) = splitL c x.cps.toList := by
  unfold PySem.Txt.split
  have k : ¬ PySem.Builtin.Str.strKind x < PySem.Builtin.Str.strKind ⟨#[c]⟩ := by
    have e : PySem.Builtin.Str.strKind (⟨#[c]⟩ : PySem.Str) = 1 := by unfold PySem.Builtin.Str.strKind; simp [hc]
    rw [e]
    unfold PySem.Builtin.Str.strKind
    split
    · omega
    · split <;> omega
  by_cases e : x.length < PySem.Str.length ⟨#[c]⟩
  · rw [if_pos (by rw [decide_eq_true e]; rfl)]
    have z : x.cps.toList = [] := List.eq_nil_of_length_eq_zero (by rw [← strlen]; exact Nat.lt_one_iff.mp e)
    show [x.cps.toList] = _
    rw [z]; rfl
  · rw [if_neg (by rw [decide_eq_false e, decide_eq_false k]; decide)]
    have o : occurrences x ⟨#[c]⟩ 0 x.length (x.length + 1) = (List.range' 0 (x.length + 1)).filter fun i => decide (i + 1 ≤ x.length) && subAt x ⟨#[c]⟩ i := by
      rw [occ_eq, occ_all _ _ _ _ (Nat.le_refl _) (by show 0 + _ ≤ _; omega)]; rfl
    rw [o]
    obtain ⟨p, r, e1, e2⟩ := parts_rest (x := x) (c := c) x.length 0 0 (Nat.le_refl _) (by rw [strlen]; omega)
    rw [List.drop_zero, Nat.sub_self, List.take_zero, List.nil_append] at e2
    rw [List.drop_zero] at e1
    rw [e1]
    split
    · rename_i z
      have z : (List.range' 0 (x.length + 1)).filter (fun i => decide (i + 1 ≤ x.length) && subAt x ⟨#[c]⟩ i) = [] := List.isEmpty_iff.mp z
      rw [z] at e2
      have e2 : [(strSub x 0 x.length).cps.toList] = p :: r := e2
      rw [sub_whole] at e2
      exact e2
    · rw [partsBetween_eq]; exact e2
theorem glue_go {c : Nat} : ∀ (ps : List PySem.Str) (acc : Array Nat), (ps.foldl (fun acc p => acc ++ (⟨#[c]⟩ : PySem.Str).cps ++ p.cps) acc).toList = acc.toList ++ (ps.map fun p => c :: p.cps.toList).flatten
  | [], acc => by
    show acc.toList = acc.toList ++ []
    rw [List.append_nil]
  | p :: ps, acc => by
    rw [List.foldl_cons, glue_go ps]
    show (acc ++ #[c] ++ p.cps).toList ++ _ = acc.toList ++ (c :: p.cps.toList ++ _)
    rw [Array.toList_append, Array.toList_append, List.append_assoc, List.append_assoc]; rfl
theorem joinL_flat {c : Nat} : ∀ (p : List Nat) (ps : List (List Nat)), joinL c (p :: ps) = p ++ (ps.map fun p => c :: p).flatten
  | p, [] => (List.append_nil p).symm
  | p, q :: ps => by
    show p ++ c :: joinL c (q :: ps) = p ++ (c :: q ++ (ps.map _).flatten)
    rw [joinL_flat q ps]; rfl
theorem join_one (ps : List PySem.Str) (c : Nat) : (PySem.Txt.join ⟨#[c]⟩ ps).cps.toList = joinL c (ps.map fun z => z.cps.toList) := by
  show ((ps.drop 1).foldl _ (ps.headD PySem.Str.empty).cps).toList = _
  cases ps with
  | nil => rfl
  | cons p ps =>
    show ((ps.foldl _ p.cps).toList) = joinL c (p.cps.toList :: ps.map _)
    rw [glue_go, joinL_flat, List.map_map]; rfl
end
/-! ### words and names drawn -/
abbrev cps (z : Str) : List Nat := z.cps.toList
theorem strlenC (x : Str) : x.length = (cps x).length := by simp [Str.length, cps]
theorem join_cps : ∀ ys : List Str, cps (Txt.join "" ys) = ys.flatMap cps := by
  intro ys
  rw [TL.join_eq]
  induction ys with
  | nil => rfl
  | cons x r ih =>
    cases r with
    | nil => rw [List.flatMap_cons, List.flatMap_nil, List.append_nil]; rfl
    | cons y r =>
      have e : (Str.join "" (x :: y :: r)) = (x ++ ("" : Str)) ++ Str.join "" (y :: r) := rfl
      rw [e, List.flatMap_cons, ← ih]
      show ((x.cps ++ ("" : Str).cps) ++ (Str.join "" (y :: r)).cps).toList = _
      rw [Array.toList_append, Array.toList_append, show ("" : Str).cps.toList = [] from by decide +kernel, List.append_nil]
theorem join_len : ∀ ys : List Str, (Txt.join "" ys).length = (ys.map (·.length)).sum := by
  intro ys
  rw [strlenC, join_cps, List.length_flatMap]
  congr 1
theorem ones_sum : ∀ {ys : List Str}, (∀ y ∈ ys, y.length = 1) → (ys.map (·.length)).sum = ys.length
  | [], _ => rfl
  | y :: r, h => by
    have a := h y (List.mem_cons_self ..)
    have b := ones_sum fun z hz => h z (List.mem_cons_of_mem _ hz)
    rw [List.map_cons, List.sum_cons, List.length_cons, a, b]
    omega
theorem ones_fit {ys : List Str} (h : ∀ y ∈ ys, y.length = 1) (l : ys.length ≤ 1000) : (ys.map (·.length)).sum + ys.length * Str.length "" ≤ 16777216 := by
  rw [ones_sum h, show Str.length ("" : Str) = 0 by decide +kernel]
  omega
theorem str_injC {a b : Str} (h : cps a = cps b) : a = b := by
  obtain ⟨⟨a⟩⟩ := a
  obtain ⟨⟨b⟩⟩ := b
  have h : a = b := h
  rw [h]
def Ltr (z : Str) : Prop := ∀ c ∈ cps z, 97 ≤ c ∧ c ≤ 122
/-- a word of one to m letters -/
structure Wd (m : Nat) (z : Str) : Prop where
  lo : 1 ≤ z.length
  hi : z.length ≤ m
  ltr : Ltr z
theorem letters_ok : ∀ c ∈ cps "abcdefghijklmnopqrstuvwxyz", 97 ≤ c ∧ c ≤ 122 := by decide +kernel
theorem sign_at {z : Str} {v : Int} (h0 : 0 ≤ v) (h1 : v < (z.length : Int)) : ∃ c, atI z.cps.toList v = some c ∧ c ∈ cps z := by
  have hl : z.cps.toList.length = z.length := Array.length_toList
  have hk : v.toNat < z.cps.toList.length := by omega
  have q : atI z.cps.toList ((v.toNat : Nat) : Int) = some z.cps.toList[v.toNat] := atI_nat (List.getElem?_eq_getElem hk)
  rw [show ((v.toNat : Nat) : Int) = v by omega] at q
  exact ⟨_, q, List.getElem_mem hk⟩
def takL : List Str := ["in", "out", "was", "if", "then", "else", "most", "least"]
section
variable {P : Program} {w : World} {K : PySem.W.Frag} {mg : Str → Option Value} {base : Heap}
def sp_law_word (K : PySem.W.Frag) : Sp := fun vs H Q _ => ∃ (f c : Addr) (m : Nat), vs = [.ref f, nV m] ∧ 1 ≤ m ∧ m ≤ 8 ∧ Flow H f c ∧ ∀ (a : Str) (H' : Hp), Wd m a → Flow H' f c → But f H H' → Q (.str a) H'
theorem ok_law_word {f : Addr} {fd : FuncData} (F : Fun K "_law_word" "_law_word" s_law_word f fd) {C : Addr} (T : Top w K mg C) : FnOk P w K mg base CX0 2 f fd ["_law_flow_here", "_law_most"] (sp_law_word K) := by
  obtain ⟨f_law_pick, fd_law_pick, F_law_pick, b_law_pick, m_law_pick⟩ := T.d_law_pick
  have G_law_pick := ok_law_pick (P := P) (w := w) (base := base) F_law_pick T
  refine F.ok sc_law_word (fun vs H Q E h => ?_) (fun cdv A outer s H vs Q E hr h => ?_)
  · obtain ⟨f, c, m, rfl, _⟩ := h
    rfl
  obtain ⟨f, c, m, rfl, m1, m8, hF, q⟩ := h
  refine ⟨_, (pss_cons (ps_set (i := 2) sc_law_word.nd rfl (Or.inr rfl) pe_str)
      (pss_one (ps_ret (pe_join pe_str (pe_lc (own := [("_law_k", 3)]) (g := gName 3) (tt := tYes) (by rfl) sc_law_word.nd (pi_range1 (by rfl) T.m_range (pa_cons (pe_op op_add pe_int (pe_call G_law_pick (hr.mono (by decide)) (by rfl) m_law_pick F_law_pick.kp b_law_pick .nil pass0 (pa_cons (pv 0) (pa_cons (pv 1) pa_nil)))) pa_nil)) (blkOk_by (own := [("_law_k", 3)]) (N := N_law_word) (sc := defScope s_law_word) (by decide +kernel)) (fun _ _ _ _ _ => (pg_name (i := 3) sc_law_word.nd rfl (Or.inl rfl))) (fun _ _ _ _ _ => pts_nil) (fun _ _ _ _ _ => (pe_ix ix_str (pv 2) (pe_call G_law_pick (hr.mono (by decide)) (by rfl) m_law_pick F_law_pick.kp b_law_pick .nil pass0 (pa_cons (pv 0) (pa_cons pe_int pa_nil))) (fun _ _ => rfl)))))))), ?_⟩
  refine ⟨⟨_, rfl⟩, ?_⟩
  refine ⟨_, rfl, _, rfl, f, c, ((m : Nat) : Int), rfl, by omega, log_small (by omega), hF, fun tv H1 t0 t1 F1 B1 => ?_⟩
  refine ⟨_, _, rfl, rfl, _, rfl, by omega, by omega, fun D nD => lc_range (lo := 0) (n := (1 + tv).toNat) (fun i H5 => ∃ ys : List Str, H5 D = some (.lst (ys.map V.str)) ∧ ys.length = i ∧ (∀ y ∈ ys, y.length = 1) ∧ (∀ y ∈ ys, Ltr y) ∧ Flow H5 f c ∧ But f H1 H5) ⟨[], upd_same, rfl, (fun _ z => nomatch z), (fun _ z => nomatch z), F1.new nD, But.refl.new nD⟩ ?_ ?_⟩
  · rintro i H5 hi ⟨ys, hD, ly, on, lt, F5, B5⟩
    have mf : D ≠ f := F1.ne nD
    have mc : D ≠ c := F1.nec nD
    refine ⟨rfl, yes_in ⟨_, rfl, _, rfl, f, c, 26, rfl, by decide, by decide +kernel, F5, fun v H6 v0 v1 F6 B6 => ?_⟩⟩
    obtain ⟨cc, ec, mc2⟩ := sign_at (z := "abcdefghijklmnopqrstuvwxyz") v0 (by rw [show Str.length "abcdefghijklmnopqrstuvwxyz" = 26 by decide +kernel]; exact v1)
    refine ⟨_, v, cc, rfl, rfl, by decide +kernel, ec, _, B6 _ _ hD mf, ?_, ys ++ [⟨#[cc]⟩], ?_, ?_, ?_, ?_, F6.lst mf mc, (B5.trans B6).own nD⟩
    · rw [List.length_map, ly]; exact small1000 (by omega)
    · rw [upd_same, List.map_append]; rfl
    · rw [List.length_append, ly]; rfl
    · intro z hz
      rcases List.mem_append.mp hz with hz | hz
      · exact on z hz
      · rw [List.mem_singleton.mp hz]; rfl
    · intro z hz
      rcases List.mem_append.mp hz with hz | hz
      · exact lt z hz
      · rw [List.mem_singleton.mp hz]
        intro d hd
        obtain rfl : d = cc := List.mem_singleton.mp hd
        exact letters_ok d mc2
  · rintro H5 ⟨ys, hD, ly, on, lt, F5, B5⟩
    refine ⟨_, D, ys, rfl, rfl, .inl (SqL.of hD), ones_fit on (by omega), ?_⟩
    refine q _ _ ⟨?_, ?_, ?_⟩ F5 (B1.trans B5)
    · rw [join_len, ones_sum on]; omega
    · rw [join_len, ones_sum on]; omega
    · intro d hd
      rw [join_cps] at hd
      obtain ⟨y, hy, hd⟩ := List.mem_flatMap.mp hd
      exact lt y hy d hd
def sp_law_taken (K : PySem.W.Frag) : Sp := fun vs H Q _ => vs = [] ∧ ∀ (p : Addr) (H' : Hp), H p = none → H' p = some (.lst (takL.map V.str)) → Same H H' → Q (.ref p) H'
theorem ok_law_taken {f : Addr} {fd : FuncData} (F : Fun K "_law_taken" "_law_taken" s_law_taken f fd) {C : Addr} (T : Top w K mg C) : FnOk P w K mg base CX0 1 f fd [] (sp_law_taken K) := by
  refine F.ok sc_law_taken (fun vs H Q E h => ?_) (fun cdv A outer s H vs Q E hr h => ?_)
  · obtain ⟨rfl, _⟩ := h
    rfl
  obtain ⟨rfl, q⟩ := h
  refine ⟨_, (pss_one (ps_ret (pe_lst (pa_cons pe_str (pa_cons pe_str (pa_cons pe_str (pa_cons pe_str (pa_cons pe_str (pa_cons pe_str (pa_cons pe_str (pa_cons pe_str pa_nil))))))))))), ?_⟩
  exact ⟨(by show 8 ≤ sizeLine; decide), fun p hp => q p _ hp upd_same (same_new hp)⟩
end
section
variable {P : Program} {w : World} {K : PySem.W.Frag} {mg : Str → Option Value} {base : Heap}
def sp_NsInit (K : PySem.W.Frag) (C : Addr) : Sp := fun vs H Q _ => ∃ (a : Addr) (x : V), vs = [.ref a, x] ∧ H a = some (exo a C none) ∧
  ∀ d, H d = none → d ≠ a → Q .non (upd (upd H d (exd d [("row", x)])) a (exo a C (some d)))
theorem ok_NsInit {C CB fI : Addr} {fd : FuncData} (N : NsC K mg C CB fI fd) : FnOk P w K mg base CX0 1 fI fd ["self", "row"] (sp_NsInit K C) := by
  refine N.F.ok sc_NoText_init (fun vs H Q E h => ?_) (fun cdv A outer s H vs Q E hr h => ?_)
  · obtain ⟨a, x, rfl, _⟩ := h
    rfl
  obtain ⟨a, x, rfl, ha, q⟩ := h
  refine ⟨_, pss_one (ps_ost (pv 0) (pv 1)), ?_⟩
  exact ⟨_, rfl, _, rfl, a, C, rfl, N.T, N.nr, .inl ⟨ha, fun d nd da => q d nd da⟩⟩
end
/-! ### isinstance of a caught error that has fields of its own -/
section
open PySem.W PySem.Calls
variable {prog : Program} {w : World} {A : Around} {K : PySem.W.Frag} {x D : Addr} {ox : Obj} {od : Option Obj}
/-- what the class says with a setter goes before what the instance says -/
theorem found_class (C : ExcC K D) : findObj K D od "__class__" = some (.bind (.builtin "getset_descriptor.__get__") (.builtin "object.__class__")) := by
  have some_cls : ∃ cd, clsIn K D = some cd := by
    obtain ⟨cd, h, _⟩ := any_some C.hd
    exact ⟨cd, h⟩
  obtain ⟨cd, h⟩ := some_cls
  unfold findObj
  simp only [h, C.ha, C.hn, C.ht, Option.bind_some]
/-- the built in reader of fields, asked for the class -/
theorem reader_class {E : Value → Shared → Prop} {Q : Value → Shared → Prop} {hp : Heap} {g : Array GenState} {d : Drawn} {t tk : Nat} {os : OsState} (C : ExcC K D) (X : K.In hp) (I : InstAt hp x ox D od) (q : Q (.ref D) ⟨hp, g, d, t, os⟩) :
    wpAny (model prog w) A (call (.builtin "BaseException.__getattribute__") [.ref x, .str "__class__" tk]) Q E ⟨hp, g, d, t, os⟩ := by
  have known := I.type (M := model prog w)
  refine wpAny_call (codeAny_call_builtin PySem.F.excAttr_ValueError.ga.plain PySem.F.entry_bexc_ga ?_)
  refine @check_slot (model prog w) _ _ ⟨hp, g, d, t, os⟩ "BaseException.__getattribute__" "BaseException" "__getattribute__" (.ref x) [.str "__class__" tk] [] _ (by decide +kernel) (by decide +kernel) (known.andThen (looks_subIn X C.hs)) (PySem.F.args_bexc_ga (.ref x) (.str "__class__" tk)) ?_
  unfold Builtin.«object.__getattribute__»
  refine wpAny_bind (wpAny_of_eq (a := ((Value.ref x : Value), [Value.str "__class__" tk])) (by first | rfl | (simp only [slotArgs]; rfl)) (wpAny_bind (wpAny_pure (wpAny_bind (known.at (wpAny_bind ((looks_find (M := model prog w) X I (found_class C)).at ?_)))))))
  refine wpAny_bind (wpAny_holding (wpAny_call (class_get (s := ⟨hp, g, d, t, os⟩) (ox := ox) (od := od) X I C.hm ?_)))
  refine wpAny_pure ?_
  exact q
theorem asked_class {E : Value → Shared → Prop} {Q : Option Value → Shared → Prop} {s : Shared} (C : ExcC K D) (X : K.In s.heap) (I : InstAt s.heap x ox D od) (q : Q (some (.ref D)) { s with toks := s.toks + 1 }) : wpAny (model prog w) A (getAttr? (.ref x) "__class__") Q E s := by
  obtain ⟨hp, g, d, t, os⟩ := s
  have other : (onTheHeap (Value.ref D) && Value.builtin "BaseException.__getattribute__" == Value.builtin "object.__getattribute__") = false := by
    rw [show (Value.builtin "BaseException.__getattribute__" == Value.builtin "object.__getattribute__") = false by decide +kernel]
    rfl
  unfold getAttr? getAttrBy? getAttrBy
  refine wpAny_bind (wpAny_mkText (wpAny_bind (wpAny_attempt (wpAny_holding (wpAny_bind ((I.type (M := model prog w)).at (wpAny_bind ((looks_findIn (M := model prog w) X C.hg).at ?_))))))))
  show wpAny _ _ (if (onTheHeap (Value.ref D) && Value.builtin "BaseException.__getattribute__" == Value.builtin "object.__getattribute__") = true then _ else _) _ _ _
  rw [other, if_neg Bool.false_ne_true]
  unfold getAttrByItsOwn hookBefore
  rw [if_pos (show onTheHeap (Value.ref D) = true from rfl)]
  refine wpAny_bind ((looks_findIn (M := model prog w) X C.hk).at (wpAny_bind (wpAny_attempt (wpAny_holding ?_))))
  unfold callGetattribute
  rw [show (false && onTheHeap (Value.builtin "BaseException.__getattribute__")) = false from rfl, if_neg Bool.false_ne_true]
  unfold boundAndCalled
  rw [PySem.F.excAttr_ValueError.ga.bind (.ref x)]
  refine wpAny_bind (wpAny_pure ?_)
  refine reader_class C X I ?_
  first
    | exact wpAny_pure (wpAny_pure q)
    | exact wpAny_pure q
    | exact wpAny_pure (wpAny_bind (wpAny_pure (wpAny_pure q)))
    | exact q
/-- isinstance's own question, for such an error -/
theorem kit_fields (C : ExcC K D) : KitX K (.ref x) (.ref D) (fun h => InstAt h x ox D od) := by
  have place : ∃ c' d' cd' sl', K.lookup D = some ⟨c', d', .cls cd', sl'⟩ := by
    obtain ⟨cd, h, _⟩ := any_some C.hd
    unfold clsIn at h
    split at h
    · rename_i c' d' cd' sl' ho
      exact ⟨_, _, _, _, ho⟩
    · cases h
  obtain ⟨c', d', cd', sl', ho⟩ := place
  refine ⟨fun _ _ _ I => I.type, fun _ _ X _ => ?_, fun h tp dd its n sl X htp => ?_, fun X I k => asked_class C X I k⟩
  · intro A' Q' E' s' k q
    unfold isType loadHead
    exact wpAny_bind (wpAny_loadPart (k _ _ (X _ _ ho)) (wpAny_pure q))
  · refine Bool.eq_false_iff.mpr fun z => ?_
    obtain rfl : D = tp := Value.ref.inj (beq_iff_eq.mp z)
    have := (X _ _ ho).symm.trans htp
    cases this
end
theorem call_isF {X : Cx} {a D : Addr} {cls : Value} {d : Option Addr} {oe : Obj} {pn : List (Addr × Obj)} (C : ExcC X.K D) (hz : Zc cls d oe) (hf : ∃ vs, oe.data = .fields vs) : CallR (X.suite a ((a, oe) :: pn)) (.builtin "isinstance") (fun xs H Q => cls = .ref D ∧ (∃ dd fs, d = some dd ∧ H dd = some (.xd fs)) ∧ rIsE X.K D a xs H Q) := by
  intro pins s σ H xs us Q I r h
  obtain ⟨rfl, ⟨dd, fs, rfl, hdd⟩, c, cv, b, rfl, hcv, e, q⟩ := h
  cases r with
  | cons rx rr =>
    cases rr with
    | cons rt rr =>
      cases rr
      cases rx
      have ec := hcv _ rt
      subst ec
      obtain ⟨at_, _⟩ := I.pin (a, oe) (List.mem_append.mpr (.inl List.mem_cons_self))
      obtain ⟨vs, hv⟩ := hf
      obtain ⟨mA, hns, _⟩ := (I.hok dd _ hdd : ObjOk X.prog X.w H s.heap dd (.xd fs))
      obtain ⟨od, ho, _⟩ := lookIn_ns hns
      have J : PySem.W.InstAt s.heap a oe D (some od) := ⟨at_, hz.1, by unfold PySem.W.notCls; rw [hv] <;> rfl, by rw [hz.2]; exact ho⟩
      exact PySem.W.kia_one (kit_fields C) I.kIn J e (fun z => nomatch z) fun tk => ⟨.bl b, H, I.kept (t' := tk) fun _ _ z => z, rfl, q⟩
theorem call_isFT {X : Cx} {a D : Addr} {cls : Value} {d : Option Addr} {oe : Obj} {pn : List (Addr × Obj)} (C : ExcC X.K D) (hz : Zc cls d oe) (hf : ∃ vs, oe.data = .fields vs) : CallR (X.suite a ((a, oe) :: pn)) (.builtin "isinstance") (fun xs H Q => cls = .ref D ∧ (∃ dd fs, d = some dd ∧ H dd = some (.xd fs)) ∧ ∃ (tp : Addr) (cs : List V) (us : List Value) (b : Bool), xs = [.ref a, .ref tp] ∧ H tp = some (.tup cs) ∧ Paired ClsV cs us ∧ PySem.W.kitAny X.K (.ref D) us = some b ∧ Q (.bl b) H) := by
  intro pins s σ H xs us Q I r h
  obtain ⟨rfl, ⟨dd, fs, rfl, hdd⟩, tp, cs, ws, b, rfl, hT, k, e, q⟩ := h
  cases r with
  | cons rx rr =>
    cases rr with
    | cons rt rr =>
      cases rr
      cases rx
      cases rt
      obtain ⟨at_, _⟩ := I.pin (a, oe) (List.mem_append.mpr (.inl List.mem_cons_self))
      obtain ⟨vs, hv⟩ := hf
      obtain ⟨mA, hns, _⟩ := (I.hok dd _ hdd : ObjOk X.prog X.w H s.heap dd (.xd fs))
      obtain ⟨od, ho, _⟩ := lookIn_ns hns
      have J : PySem.W.InstAt s.heap a oe D (some od) := ⟨at_, hz.1, by unfold PySem.W.notCls; rw [hv] <;> rfl, by rw [hz.2]; exact ho⟩
      obtain ⟨_, its, rv, o, h1, h2, n, h3⟩ := (show ObjOk X.prog X.w H s.heap tp (.tup cs) from I.hok tp _ hT)
      have e3 := ClsV.all k rv
      subst e3
      obtain ⟨oc, od2, dt, sl⟩ := o
      simp only at h2 h3
      subst h2 h3
      exact PySem.W.kia_tup (kit_fields C) I.kIn J h1 e (fun z => nomatch z) fun tk => ⟨.bl b, H, I.kept (t' := tk) fun _ _ z => z, rfl, q⟩
/-- a raise passes, whatever the state -/
theorem passS {CX : CXT} {X : Cx} {E : XK} (h : ∀ σ : L2.St, PassesAt CX X σ E) : Passes CX X E := fun pins σ H s e s' I c => h σ pins H s e s' I c
abbrev nsA (K : PySem.W.Frag) : Addr := He.ga K "NoText"
open PySem.NumText
/-! ### tables of two generators -/
def Tb2 (PT : Addr × Addr) (H : Hp) : Prop := GxR.TabG H PT.1 ∧ GxR.TabG H PT.2
theorem Tb2.same {PT : Addr × Addr} {H H' : Hp} (t : Tb2 PT H) (s : Same H H') : Tb2 PT H' := by
  obtain ⟨⟨p1, e1, t1⟩, p2, e2, t2⟩ := t
  exact ⟨⟨p1, s _ _ e1, t1⟩, p2, s _ _ e2, t2⟩
theorem Tb2.but {PT : Addr × Addr} {f c : Addr} {H H' : Hp} (t : Tb2 PT H) (F : Flow H f c) (b : But f H H') : Tb2 PT H' := by
  obtain ⟨⟨p1, e1, t1⟩, p2, e2, t2⟩ := t
  obtain ⟨_, _, _, _, _, ef, _⟩ := F
  exact ⟨⟨p1, b _ _ e1 (fun z => by rw [z, ef] at e1; cases e1), t1⟩, p2, b _ _ e2 (fun z => by rw [z, ef] at e2; cases e2), t2⟩
theorem tabbed_ext {P : Addr} {H H' : Hp} (h : GxR.TabG H P) (t : GxR.Tabbed P H H') : LamX.ExtN H H' := fun b o e n => by
  obtain ⟨ps, ep, _⟩ := h
  rw [t.2 b (fun z => by rw [z, ep] at e; exact n ps (Option.some.inj e).symm)]
  exact e
theorem Tb2.tab1 {PT : Addr × Addr} {H H' : Hp} (g : Tb2 PT H) (t : GxR.Tabbed PT.1 H H') : Tb2 PT H' := by
  refine ⟨t.1, ?_⟩
  by_cases h : PT.2 = PT.1
  · rw [h]; exact t.1
  · obtain ⟨_, p2, e2, t2⟩ := g
    exact ⟨p2, by rw [t.2 _ h]; exact e2, t2⟩
theorem Tb2.tab2 {PT : Addr × Addr} {H H' : Hp} (g : Tb2 PT H) (t : GxR.Tabbed PT.2 H H') : Tb2 PT H' := by
  refine ⟨?_, t.1⟩
  by_cases h : PT.1 = PT.2
  · rw [h]; exact t.1
  · obtain ⟨⟨p1, e1, t1⟩, _⟩ := g
    exact ⟨p1, by rw [t.2 _ h]; exact e1, t1⟩
theorem tk_ext {H H' : Hp} (e : LamX.ExtN H H') : TK H H' := fun a xs h => e a _ h (fun ps z => nomatch z)
theorem ext_same {H H' : Hp} (s : Same H H') : LamX.ExtN H H' := fun a o h _ => s a o h
theorem Tb2.any {PT : Addr × Addr} {r : Addr} {H H' : Hp} (t : Tb2 PT H) (s : GxR.Tabbed r H H') : Tb2 PT H' := by
  have one : ∀ {p}, GxR.TabG H p → GxR.TabG H' p := fun {p} t => by
    by_cases h : p = r
    · rw [h]; exact s.1
    · obtain ⟨ps, e, h2⟩ := t
      exact ⟨ps, by rw [s.2 _ h]; exact e, h2⟩
  exact ⟨one t.1, one t.2⟩
/-- a def of which the code object is known -/
theorem ok_code {P : Program} {w : World} {K : PySem.W.Frag} {mg : Str → Option Value} {base : Heap} {x qual : Str} {st : Stmt} {f c : Addr} {fd : FuncData} {N ps : List Str} {k : Nat} {sp : Sp} (F : Fun K x qual st f fd) (hc : fd.code = .ref c) (S : FnScope N ps (defScope st)) (len : ∀ vs H Q E, sp vs H Q E → vs.length = ps.length)
    (hbody : ∀ (A : Around) (outer : List Env) (s : Shared) (H : Hp) (vs : List V) (Q : VK) (E : XK), Room k (A.deeper (envOfC qual (defScope st) s.heap.objs.size f (.ref c))) → sp vs H Q E →
      ∃ t, PSs (cxOf CX0 P w K mg base N qual (defScope st) f (.ref c) A outer s H E).nox (defBody st) t ∧ t { nx := fun _ H' => Q .non H', rt := Q } (L2.start N vs) H) : FnOk P w K mg base CX0 (k + 1) f fd ps sp := by
  obtain ⟨kl, kd, kV, dc, pm, an, cv, ct, ks, rfl, look, cin⟩ := F.ex
  obtain rfl : cv = .ref c := hc
  refine fn_of look cin S len fun A outer s H vs Q E hr now => ?_
  obtain ⟨t, h, q⟩ := hbody A outer s H vs Q E hr now
  exact ⟨t, h.nox, q⟩
/-- a statement that is never come to -/
theorem ps_dead {X : Cx} {st : Stmt} : PS X st (fun _ _ _ => False) := ⟨fun _ _ _ _ _ _ h => h.elim⟩
/-! ### names -/
def nameB (a : Str) : Bool := if a.length < 1 ∨ 6 < a.length then false else (!inV (.str a) takV && a.cps.toList.all fun c => decide (c ∈ letS.cps.toList))
section
variable {P : Program} {w : World} {K : PySem.W.Frag} {mg : Str → Option Value} {base : Heap}
class TabN (K : PySem.W.Frag) (mg : Str → Option Value) (base : Heap) (cT : outParam Addr) (PT : outParam (Addr × Addr)) : Prop where
  tb : GxR.TabB base mg cT PT.1
  cd : ∀ (f : Addr) (fd : FuncData), Fun K "is_name" "is_name" s_is_name f fd → mg "is_name" = some (.ref f) → fd.code = .ref cT
class TabF (K : PySem.W.Frag) (mg : Str → Option Value) (base : Heap) (cT : outParam Addr) (PT : outParam (Addr × Addr)) : Prop where
  tb : GxR.TabB base mg cT PT.2
  cd : ∀ (f : Addr) (fd : FuncData), Fun K "number_of" "number_of" s_number_of f fd → mg "number_of" = some (.ref f) → fd.code = .ref cT
section
variable {cT : Addr} {PT : Addr × Addr} [TN : TabN K mg base cT PT]
include TN
def sp_is_name (K : PySem.W.Frag) (PT : Addr × Addr) : Sp := fun vs H Q _ => ∃ a : Str, vs = [.str a] ∧ a.length ≤ 8000000 ∧ Tb2 PT H ∧ ∀ H', LamX.ExtN H H' → Tb2 PT H' → Q (.bl (nameB a)) H'
theorem ok_is_name {f : Addr} {fd : FuncData} (F : Fun K "is_name" "is_name" s_is_name f fd) {C : Addr} (hcd : fd.code = .ref cT) (T : Top w K mg C) : FnOk P w K mg base CX0 2 f fd ["text"] (sp_is_name K PT) := by
  refine ok_code F hcd sc_is_name (fun vs H Q E h => ?_) (fun A outer s H vs Q E hr h => ?_)
  · obtain ⟨a, rfl, _⟩ := h
    rfl
  obtain ⟨a, rfl, la, tg, q⟩ := h
  obtain ⟨aT, mT, hT⟩ := T.x_tak
  obtain ⟨tL, mL⟩ := T.x_len
  obtain ⟨tA, mA⟩ := T.x_let
  unfold nameB at q
  refine ⟨_, (pss_cons (ps_if (PW.pt (pw_or (pt_cmpR op_lt (pe_callB call_len_str (by rfl) T.m_len (by decide +kernel) (pa_cons (pv 0) pa_nil)) pe_int (nomark _)) (pw_or1 (pt_cmpR op_gt (pe_callB call_len_str (by rfl) T.m_len (by decide +kernel) (pa_cons (pv 0) pa_nil)) (pe_glob (v := .int 6) (by rfl) mL ⟨_, rfl⟩) (nomark _))))) (pss_one (ps_ret pe_bl)) pss_nil)
      (pss_one (ps_ret (pe_and (pe_cmpR (op_notIn_seqK K rfl) (pv 0) (pe_glob (v := .ref aT) (by rfl) mT rfl) (by with_unfolding_all rfl)) (pe_one (pe_allC K rfl hr (by rfl) T.m_all (by decide +kernel) TN.tb rfl (genS_of rfl rfl (by decide +kernel) rfl rfl (by decide +kernel)) (pv 0) (fun M => in_elt M rfl rfl rfl (by decide) (by decide) mA) (fun _ => rfl))))))), ?_⟩
  have sl : a.length ≤ sizeLine := Nat.le_trans (show _ ≤ 8000000 by omega) (by decide)
  refine ⟨_, rfl, _, rfl, sl, _, _, rfl, rfl, _, rfl, if_bl (fun c1 => ?_) (fun c1 => ?_)⟩
  · have c1 := of_decide_eq_true c1
    have q := q H (LamX.ExtN.refl H) tg
    rw [if_pos (.inl (by omega))] at q
    exact q
  have c1 := of_decide_eq_false c1
  refine ⟨_, rfl, _, rfl, sl, _, _, rfl, rfl, _, rfl, if_bl (fun c2 => ?_) (fun c2 => ?_)⟩
  · have c2 := of_decide_eq_true c2
    have q := q H (LamX.ExtN.refl H) tg
    rw [if_pos (.inr (by omega))] at q
    exact q
  have c2 := of_decide_eq_false c2
  have q : ∀ H', LamX.ExtN H H' → Tb2 PT H' → Q (.bl (!inV (.str a) takV && a.cps.toList.all fun c => decide (c ∈ letS.cps.toList))) H' := fun H' s t => by
    have q := q H' s t
    rw [if_neg (by omega)] at q
    exact q
  refine ⟨_, rfl, aT, _, rfl, .inr (hT H), rfl, rfl, _, rfl, ?_⟩
  rw [if_pos (rfl : true = true)]
  cases c3 : inV (.str a) takV with
  | true =>
    rw [c3] at q
    exact q H (LamX.ExtN.refl H) tg
  | false =>
    rw [c3] at q
    refine ⟨_, rfl, _, rfl, tg.1, fun H2 tb => ?_⟩
    exact q H2 (tabbed_ext tg.1 tb) (tg.any tb)
end
section
variable {cT : Addr} {PT : Addr × Addr} [TF : TabF K mg base cT PT]
include TF
def sp_number_of (K : PySem.W.Frag) (PT : Addr × Addr) : Sp := fun vs H Q _ => ∃ a : Str, vs = [.str a] ∧ a.length ≤ 8000000 ∧ Tb2 PT H ∧ ∀ H', LamX.ExtN H H' → Tb2 PT H' → Q (numV (numO a.cps.toList)) H'
theorem ok_number_of {f : Addr} {fd : FuncData} (F : Fun K "number_of" "number_of" s_number_of f fd) {C : Addr} (hcd : fd.code = .ref cT) (T : Top w K mg C) : FnOk P w K mg base CX0 2 f fd ["text"] (sp_number_of K PT) := by
  refine ok_code F hcd sc_number_of (fun vs H Q E h => ?_) (fun A outer s H vs Q E hr h => ?_)
  · obtain ⟨a, rfl, _⟩ := h
    rfl
  obtain ⟨a, rfl, la, tg, q⟩ := h
  obtain ⟨tF, mF⟩ := T.x_fig
  obtain ⟨tA, mA⟩ := T.x_num
  have pm := prefix_minus a
  refine ⟨_, (pss_cons (ps_set (i := 1) sc_number_of.nd rfl (Or.inl rfl) (pe_bmK K rfl PySem.F.plainAttrs_str PySem.F.slot_str_removeprefix PySem.F.type_str_removeprefix mt_removeprefix (pv 0) (pa_cons pe_str pa_nil)))
      (pss_cons (ps_if (PW.pt (pw_or (pt_cmpR op_lt (pe_callB call_len_str (by rfl) T.m_len (by decide +kernel) (pa_cons (pv 1) pa_nil)) pe_int (nomark _)) (pw_or1 (pt_cmpR op_gt (pe_callB call_len_str (by rfl) T.m_len (by decide +kernel) (pa_cons (pv 1) pa_nil)) (pe_glob (v := .int 9) (by rfl) mF ⟨_, rfl⟩) (nomark _))))) (pss_one (ps_ret pe_non)) pss_nil)
      (pss_cons (ps_if (pt_not (pt_val (pe_allC K rfl hr (by rfl) T.m_all (by decide +kernel) TF.tb rfl (genS_of rfl rfl (by decide +kernel) rfl rfl (by decide +kernel)) (pv 1) (fun M => in_elt M rfl rfl rfl (by decide) (by decide) mA) (fun _ => rfl)))) (pss_one (ps_ret pe_non)) pss_nil)
      (pss_cons (ps_if (PW.pt (pw_and (pt_cmpR op_eq (pe_ix ix_str (pv 1) pe_int (fun _ _ => rfl)) pe_str (nomark _)) (pw_and1 (pt_cmpR op_ne (pv 0) pe_str (nomark _))))) (pss_one (ps_ret pe_non)) pss_nil)
      (pss_one (ps_ret (pe_callTy call_int_str (by rfl) T.m_int (by decide +kernel) (pa_cons (pv 0) pa_nil)))))))), ?_⟩
  have sl : a.length ≤ sizeLine := Nat.le_trans (show _ ≤ 8000000 by omega) (by decide)
  refine ⟨_, rfl, rfl, _, _, rfl, rfl, sl, ?_⟩
  generalize Txt.removeprefix a "-" = b at pm ⊢
  have lb : b.length = (figL a.cps.toList).length := by rw [← pm]; exact Array.length_toList.symm
  have la2 : a.cps.toList.length = a.length := Array.length_toList
  have lf : (figL a.cps.toList).length ≤ a.cps.toList.length := by
    unfold figL
    split
    · rw [List.length_tail]; omega
    · exact Nat.le_refl _
  have lf2 : a.cps.toList.length ≤ (figL a.cps.toList).length + 1 := by
    unfold figL
    split
    · rw [List.length_tail]; omega
    · omega
  have sb : b.length ≤ sizeLine := Nat.le_trans (show _ ≤ 8000000 by omega) (by decide)
  unfold numO at q
  refine ⟨_, rfl, _, rfl, sb, _, _, rfl, rfl, _, rfl, if_bl (fun c1 => ?_) (fun c1 => ?_)⟩
  · have c1 := of_decide_eq_true c1
    have q := q H (LamX.ExtN.refl H) tg
    rw [if_pos (.inl (by omega))] at q
    exact q
  have c1 := of_decide_eq_false c1
  refine ⟨_, rfl, _, rfl, sb, _, _, rfl, rfl, _, rfl, if_bl (fun c2 => ?_) (fun c2 => ?_)⟩
  · have c2 := of_decide_eq_true c2
    have q := q H (LamX.ExtN.refl H) tg
    rw [if_pos (.inr (by omega))] at q
    exact q
  have c2 := of_decide_eq_false c2
  have n1 : ¬ ((figL a.cps.toList).length < 1 ∨ 9 < (figL a.cps.toList).length) := by omega
  refine ⟨_, rfl, _, rfl, tg.2, fun H2 tb => ?_⟩
  have q := q H2 (tabbed_ext tg.2 tb) (tg.any tb)
  have tg2 := tg.any tb
  rw [if_neg n1] at q
  refine ⟨_, rfl, ?_⟩
  show (if (!(b.cps.toList.all isFig)) = true then _ else _)
  rw [pm]
  cases c3 : (figL a.cps.toList).all isFig with
  | false =>
    rw [if_pos c3] at q
    exact q
  | true =>
    rw [if_neg (by rw [c3]; exact Bool.noConfusion)] at q
    have e48 : ("0" : Str) = ⟨#[48]⟩ := by decide +kernel
    obtain ⟨c0, r0, ec⟩ : ∃ c0 r0, figL a.cps.toList = c0 :: r0 := by
      cases hl : figL a.cps.toList with
      | nil => rw [hl] at n1; exact absurd (.inl (by decide)) n1
      | cons c r => exact ⟨c, r, rfl⟩
    have at0 : atI b.cps.toList ((0 : Nat) : Int) = some c0 := atI_nat (by rw [pm, ec]; rfl)
    have d1 : decide (V.str ⟨#[c0]⟩ = V.str "0") = decide ((figL a.cps.toList).head? = some 48) := by
      rw [ec, e48]
      show decide _ = decide (some c0 = some 48)
      by_cases h : c0 = 48
      · rw [h]; rfl
      · rw [decide_eq_false (fun z : some c0 = some 48 => h (Option.some.inj z)), decide_eq_false]
        intro z
        have z := V.str.inj z
        injection z with z
        have z2 : [c0] = [48] := congrArg Array.toList z
        exact h (List.cons.inj z2).1
    have d2 : (!decide (V.str a = V.str "0")) = decide (a.cps.toList ≠ [48]) := by
      rw [e48]
      by_cases h : a.cps.toList = [48]
      · rw [decide_eq_false (fun z : a.cps.toList ≠ [48] => z h), decide_eq_true (congrArg V.str (str_inj (b := ⟨#[48]⟩) h))]; rfl
      · rw [decide_eq_true h, decide_eq_false (fun z => h (by rw [V.str.inj z]))]; rfl
    have last : ¬ ((figL a.cps.toList).head? = some 48 ∧ a.cps.toList ≠ [48]) → Q (numV (some ((if a.cps.toList.head? = some 45 then -1 else 1) * ((digitsVal (figL a.cps.toList) : Nat) : Int)))) H2 ∧ PySem.intText? a = some ((if a.cps.toList.head? = some 45 then -1 else 1) * ((digitsVal (figL a.cps.toList) : Nat) : Int)) := fun n => by
      rw [if_neg n] at q
      refine ⟨q, int_reads ?_⟩
      unfold numO
      rw [if_neg n1, if_neg (by rw [c3]; exact Bool.noConfusion), if_neg n]
    refine ⟨_, rfl, _, _, c0, rfl, rfl, sb, at0, rfl, _, rfl, ?_⟩
    rw [d1]
    refine if_bl (fun c4 => ?_) (fun c4 => ?_)
    · have c4 := of_decide_eq_true c4
      refine ⟨_, rfl, rfl, _, rfl, ?_⟩
      rw [d2]
      refine if_bl (fun c5 => ?_) (fun c5 => ?_)
      · have c5 := of_decide_eq_true c5
        rw [if_pos ⟨c4, c5⟩] at q
        exact q
      · obtain ⟨q, rd⟩ := last (fun z => of_decide_eq_false c5 z.2)
        exact ⟨_, rfl, _, _, rfl, rd, by omega, q⟩
    · obtain ⟨q, rd⟩ := last (fun z => of_decide_eq_false c4 z.1)
      exact ⟨_, rfl, _, _, rfl, rd, by omega, q⟩
end
end
/-! ### trees -/
inductive W2 where
  | sum | gap | below | most | least
def W2.s : W2 → Str
  | .sum => "sum"
  | .gap => "gap"
  | .below => "below"
  | .most => "most"
  | .least => "least"
inductive Tr where
  | nm (n : Str) (k : Nat)
  | no (i : Int)
  | tm (k : Int) (t : Tr)
  | o2 (w : W2) (a b : Tr)
  | o3 (a b c : Tr)
/-- what stands ahead of the branches -/
def Tr.hd : Tr → List V
  | .nm n k => [.str "name", .str n, nV k]
  | .no i => [.str "number", .int i]
  | .tm k _ => [.str "times", .int k]
  | .o2 w _ _ => [.str w.s]
  | .o3 _ _ _ => [.str "pick"]
def Tr.kids : Tr → List Tr
  | .nm _ _ => []
  | .no _ => []
  | .tm _ t => [t]
  | .o2 _ a b => [a, b]
  | .o3 a b c => [a, b, c]
/-- all parts, each behind its branches -/
def Tr.parts : Tr → List Tr
  | .nm n k => [.nm n k]
  | .no i => [.no i]
  | .tm k t => t.parts ++ [.tm k t]
  | .o2 w a b => a.parts ++ b.parts ++ [.o2 w a b]
  | .o3 a b c => a.parts ++ b.parts ++ c.parts ++ [.o3 a b c]
theorem Tr.parts_eq (t : Tr) : t.parts = t.kids.flatMap Tr.parts ++ [t] := by
  cases t <;> simp [Tr.parts, Tr.kids]
/-- the names that a tree leans on -/
def Tr.leans : Tr → List (Str × Nat)
  | .nm n k => [(n, k)]
  | .no _ => []
  | .tm _ t => t.leans
  | .o2 _ a b => a.leans ++ b.leans
  | .o3 a b c => a.leans ++ b.leans ++ c.leans
def Tr.isNm : Tr → Bool
  | .nm _ _ => true
  | _ => false
def Tr.ofNm : Tr → Str × Nat
  | .nm n k => (n, k)
  | _ => ("", 0)
theorem Tr.leans_eq (t : Tr) : (t.parts.filter Tr.isNm).map Tr.ofNm = t.leans := by
  induction t with
  | nm n k => rfl
  | no i => rfl
  | tm k t ih => simp [Tr.parts, Tr.leans, List.filter_append, ih, Tr.isNm, List.filter_cons]
  | o2 w a b iha ihb => simp [Tr.parts, Tr.leans, List.filter_append, iha, ihb, Tr.isNm, List.filter_cons]
  | o3 a b c iha ihb ihc => simp [Tr.parts, Tr.leans, List.filter_append, iha, ihb, ihc, Tr.isNm, List.filter_cons]
def TrAt (H : Hp) : V → Tr → Prop
  | v, .nm n k => ∃ a, v = .ref a ∧ H a = some (.tup [.str "name", .str n, nV k])
  | v, .no i => ∃ a, v = .ref a ∧ H a = some (.tup [.str "number", .int i])
  | v, .tm k t => ∃ a x, v = .ref a ∧ H a = some (.tup [.str "times", .int k, x]) ∧ TrAt H x t
  | v, .o2 w s t => ∃ a x y, v = .ref a ∧ H a = some (.tup [.str w.s, x, y]) ∧ TrAt H x s ∧ TrAt H y t
  | v, .o3 s t u => ∃ a x y z, v = .ref a ∧ H a = some (.tup [.str "pick", x, y, z]) ∧ TrAt H x s ∧ TrAt H y t ∧ TrAt H z u
theorem TrAt.op {H : Hp} {v : V} {t : Tr} (h : TrAt H v t) : ∃ a ks, v = .ref a ∧ H a = some (.tup (t.hd ++ ks)) ∧ All2 (TrAt H) ks t.kids := by
  cases t with
  | nm n k => obtain ⟨a, rfl, e⟩ := h; exact ⟨a, [], rfl, e, .nil⟩
  | no i => obtain ⟨a, rfl, e⟩ := h; exact ⟨a, [], rfl, e, .nil⟩
  | tm k t => obtain ⟨a, x, rfl, e, h⟩ := h; exact ⟨a, [x], rfl, e, .cons h .nil⟩
  | o2 w s t => obtain ⟨a, x, y, rfl, e, h, g⟩ := h; exact ⟨a, [x, y], rfl, e, .cons h (.cons g .nil)⟩
  | o3 s t u => obtain ⟨a, x, y, z, rfl, e, h, g, i⟩ := h; exact ⟨a, [x, y, z], rfl, e, .cons h (.cons g (.cons i .nil))⟩
theorem TrAt.mk {H : Hp} {a : Addr} {ks : List V} {t : Tr} (e : H a = some (.tup (t.hd ++ ks))) (h : All2 (TrAt H) ks t.kids) : TrAt H (.ref a) t := by
  cases t with
  | nm n k => cases h; exact ⟨a, rfl, e⟩
  | no i => cases h; exact ⟨a, rfl, e⟩
  | tm k t => cases h with | cons x h => cases h; exact ⟨a, _, rfl, e, x⟩
  | o2 w s t => cases h with | cons x h => cases h with | cons y h => cases h; exact ⟨a, _, _, rfl, e, x, y⟩
  | o3 s t u => cases h with | cons x h => cases h with | cons y h => cases h with | cons z h => cases h; exact ⟨a, _, _, _, rfl, e, x, y, z⟩
theorem TrAt.keep {H H' : Hp} (k : TK H H') : ∀ {t : Tr} {v : V}, TrAt H v t → TrAt H' v t := by
  intro t
  induction t with
  | nm n i => intro v h; obtain ⟨a, rfl, e⟩ := h; exact ⟨a, rfl, k _ _ e⟩
  | no i => intro v h; obtain ⟨a, rfl, e⟩ := h; exact ⟨a, rfl, k _ _ e⟩
  | tm i t ih => intro v h; obtain ⟨a, x, rfl, e, h⟩ := h; exact ⟨a, x, rfl, k _ _ e, ih h⟩
  | o2 w s t i1 i2 => intro v h; obtain ⟨a, x, y, rfl, e, h, g⟩ := h; exact ⟨a, x, y, rfl, k _ _ e, i1 h, i2 g⟩
  | o3 s t u i1 i2 i3 => intro v h; obtain ⟨a, x, y, z, rfl, e, h, g, i⟩ := h; exact ⟨a, x, y, z, rfl, k _ _ e, i1 h, i2 g, i3 i⟩
theorem All2.app {α β : Type} {R : α → β → Prop} {as : List α} {bs : List β} (h : All2 R as bs) {cs : List α} {ds : List β} (g : All2 R cs ds) : All2 R (as ++ cs) (bs ++ ds) := by
  induction h with
  | nil => exact g
  | cons r _ ih => exact .cons r ih
theorem All2.rev {α β : Type} {R : α → β → Prop} {as : List α} {bs : List β} (h : All2 R as bs) : All2 R as.reverse bs.reverse := by
  induction h with
  | nil => exact .nil
  | cons r _ ih => rw [List.reverse_cons, List.reverse_cons]; exact ih.snoc r
theorem All2.unsnoc {α β : Type} {R : α → β → Prop} {b : β} : ∀ {bs : List β} {as : List α}, All2 R as (bs ++ [b]) → ∃ as' x, as = as' ++ [x] ∧ All2 R as' bs ∧ R x b
  | [], _, .cons r .nil => ⟨[], _, rfl, .nil, r⟩
  | _ :: _, _, .cons r h => by
    obtain ⟨as', x, rfl, h', r'⟩ := All2.unsnoc h
    exact ⟨_ :: as', x, rfl, .cons r h', r'⟩
/-! ### texts compared -/
theorem if_strE {a b : Str} {A B : Prop} (h1 : a = b → A) (h2 : a ≠ b → B) : if decide (V.str a = V.str b) = true then A else B := by
  by_cases c : a = b
  · rw [if_pos (decide_eq_true (by rw [c]))]; exact h1 c
  · rw [if_neg (by rw [decide_eq_false fun z => c (V.str.inj z)]; exact Bool.false_ne_true)]; exact h2 c
theorem if_strN {a b : Str} {A B : Prop} (h1 : a ≠ b → A) (h2 : a = b → B) : if (!decide (V.str a = V.str b)) = true then A else B := by
  by_cases c : a = b
  · rw [decide_eq_true (by rw [c])]; exact if_bl (fun z => nomatch z) (fun _ => h2 c)
  · rw [decide_eq_false fun z => c (V.str.inj z)]; exact if_bl (fun _ => h1 c) (fun z => nomatch z)
/-! ### words parsed: what is told of them, and the words behind -/
abbrev PR := Option (Tr × List Str)
def pAgo (u : List Str) : Option (Nat × List Str) := if u.headD "" = "@" then (match numO (u.tail.headD "").cps.toList with
  | some i => if i < 1 then none else some (i.toNat, u.tail.tail)
  | none => none) else some (0, u)
def pBr (e : List Str → PR) (u : List Str) : PR := match e u.tail with
  | some (t, r) => if r.headD "" = ")" then some (t, r.tail) else none
  | none => none
def pTwo (e : List Str → PR) (u : List Str) : PR := if u.tail.headD "" = "(" then (match e u.tail.tail with
  | some (a, r1) => if r1.headD "" = "," then (match e r1.tail with
    | some (b, r2) => if r2.headD "" = ")" then some (.o2 (if u.headD "" = "most" then .most else .least) a b, r2.tail) else none
    | none => none) else none
  | none => none) else none
def pP (e : List Str → PR) (u : List Str) : PR :=
  if u.headD "" = "(" then pBr e u
  else if u.headD "" = "most" ∨ u.headD "" = "least" then pTwo e u
  else match numO (u.headD "").cps.toList with
    | some i => some (.no i, u.tail)
    | none => if nameB (u.headD "") = true then (match pAgo u.tail with
      | some (k, r) => some (.nm (u.headD "") k, r)
      | none => none) else none
def pT (e : List Str → PR) (u : List Str) : PR := match pP e u with
  | some (t, r) => (match numO (u.headD "").cps.toList with
    | some k => if r.headD "" = "*" then (match pP e r.tail with
      | some (t2, r2) => some (.tm k t2, r2)
      | none => none) else some (t, r)
    | none => some (t, r))
  | none => none
def sgnW (z : Str) : W2 := if z = "+" then .sum else .gap
def chn (e : List Str → PR) : Nat → Tr → List Str → PR
  | 0, t, r => some (t, r)
  | n + 1, t, r => if r.headD "" = "+" ∨ r.headD "" = "-" then (match pT e r.tail with
    | some (t2, r2) => chn e n (.o2 (sgnW (r.headD "")) t t2) r2
    | none => none) else some (t, r)
def pS (e : List Str → PR) (u : List Str) : PR := match pT e u with
  | some (t, r) => chn e u.length t r
  | none => none
def pIf (e : List Str → PR) (u : List Str) : PR := match e u.tail with
  | some (a, r1) => if r1.headD "" = "then" then (match e r1.tail with
    | some (b, r2) => if r2.headD "" = "else" then (match e r2.tail with
      | some (c, r3) => some (.o3 a b c, r3)
      | none => none) else none
    | none => none) else none
  | none => none
def pE1 (e : List Str → PR) (u : List Str) : PR := if u.headD "" = "if" then pIf e u else match pS e u with
  | some (a, r) => if r.headD "" = "<" then (match pS e r.tail with
    | some (b, r2) => some (.o2 .below a b, r2)
    | none => none) else some (a, r)
  | none => none
def pE : Nat → List Str → PR
  | 0 => fun _ => none
  | n + 1 => pE1 (pE n)
/-- what is left is less -/
def Less (e : List Str → PR) : Prop := ∀ u t r, e u = some (t, r) → r.length < u.length
theorem head_ne {u : List Str} {z : Str} (h : u.headD ("" : Str) = z) (n : z ≠ "") : 0 < u.length := by
  cases u with
  | nil => exact absurd h.symm n
  | cons _ _ => exact Nat.succ_pos _
theorem tail_lt {u : List Str} (h : 0 < u.length) : u.tail.length < u.length := by rw [List.length_tail]; omega
theorem tail_le (u : List Str) : u.tail.length ≤ u.length := by rw [List.length_tail]; omega
theorem no_empty : numO ("" : Str).cps.toList = none := by decide +kernel
theorem nm_empty : nameB "" = false := by decide +kernel
theorem pAgo_le {u r : List Str} {k : Nat} (h : pAgo u = some (k, r)) : r.length ≤ u.length := by
  unfold pAgo at h
  split at h
  · split at h
    · split at h
      · cases h
      · obtain ⟨_, rfl⟩ := Prod.mk.inj (Option.some.inj h)
        exact Nat.le_trans (tail_le _) (tail_le _)
    · cases h
  · obtain ⟨_, rfl⟩ := Prod.mk.inj (Option.some.inj h)
    exact Nat.le_refl _
theorem pBr_less {e : List Str → PR} (l : Less e) : ∀ (u : List Str) (t : Tr) (r : List Str), u.headD "" = ("(" : Str) → pBr e u = some (t, r) → r.length < u.length := fun u t r hd h => by
  unfold pBr at h
  have := tail_lt (head_ne hd (by decide))
  split at h
  · rename_i t1 r1 e1
    split at h
    · obtain ⟨rfl, rfl⟩ := Prod.mk.inj (Option.some.inj h)
      have := l _ _ _ e1
      have := tail_le r1
      omega
    · cases h
  · cases h
theorem pTwo_less {e : List Str → PR} (l : Less e) : ∀ u t r, pTwo e u = some (t, r) → r.length < u.length := fun u t r h => by
  unfold pTwo at h
  have := tail_le u
  split at h
  · rename_i c
    have := tail_lt (head_ne c (by decide))
    split at h
    · rename_i a r1 e1
      have := l _ _ _ e1
      split at h
      · split at h
        · rename_i b r2 e2
          have := l _ _ _ e2
          have := tail_le r1
          split at h
          · obtain ⟨rfl, rfl⟩ := Prod.mk.inj (Option.some.inj h)
            have := tail_le r2
            omega
          · cases h
        · cases h
      · cases h
    · cases h
  · cases h
theorem pP_less {e : List Str → PR} (l : Less e) : Less (pP e) := fun u t r h => by
  unfold pP at h
  split at h
  · rename_i c
    exact pBr_less l u t r c h
  · split at h
    · exact pTwo_less l u t r h
    · split at h
      · rename_i i ei
        obtain ⟨rfl, rfl⟩ := Prod.mk.inj (Option.some.inj h)
        refine tail_lt (head_ne rfl fun z => ?_)
        rw [z, no_empty] at ei
        cases ei
      · split at h
        · rename_i c
          have := tail_lt (u := u) (head_ne rfl fun z => by rw [z, nm_empty] at c; cases c)
          split at h
          · rename_i k r1 e1
            obtain ⟨rfl, rfl⟩ := Prod.mk.inj (Option.some.inj h)
            have := pAgo_le e1
            omega
          · cases h
        · cases h
theorem pT_less {e : List Str → PR} (l : Less e) : Less (pT e) := fun u t r h => by
  unfold pT at h
  split at h
  · rename_i t1 r1 e1
    have := pP_less l _ _ _ e1
    split at h
    · split at h
      · split at h
        · rename_i t2 r2 e2
          obtain ⟨rfl, rfl⟩ := Prod.mk.inj (Option.some.inj h)
          have := pP_less l _ _ _ e2
          have := tail_le r1
          omega
        · cases h
      · obtain ⟨rfl, rfl⟩ := Prod.mk.inj (Option.some.inj h)
        omega
    · obtain ⟨rfl, rfl⟩ := Prod.mk.inj (Option.some.inj h)
      omega
  · cases h
theorem chn_le {e : List Str → PR} (l : Less e) : ∀ n t0 u t r, chn e n t0 u = some (t, r) → r.length ≤ u.length
  | 0, t0, u, t, r, h => by
    obtain ⟨rfl, rfl⟩ := Prod.mk.inj (Option.some.inj h)
    exact Nat.le_refl _
  | n + 1, t0, u, t, r, h => by
    unfold chn at h
    split at h
    · split at h
      · rename_i t2 r2 e2
        have := pT_less l _ _ _ e2
        have := tail_le u
        have := chn_le l n _ _ _ _ h
        omega
      · cases h
    · obtain ⟨rfl, rfl⟩ := Prod.mk.inj (Option.some.inj h)
      exact Nat.le_refl _
theorem pS_less {e : List Str → PR} (l : Less e) : Less (pS e) := fun u t r h => by
  unfold pS at h
  split at h
  · rename_i t1 r1 e1
    have := pT_less l _ _ _ e1
    have := chn_le l _ _ _ _ _ h
    omega
  · cases h
theorem pIf_less {e : List Str → PR} (l : Less e) : ∀ u t r, pIf e u = some (t, r) → r.length < u.length := fun u t r h => by
  unfold pIf at h
  split at h
  · rename_i a r1 e1
    have := l _ _ _ e1
    have := tail_le u
    split at h
    · split at h
      · rename_i b r2 e2
        have := l _ _ _ e2
        have := tail_le r1
        split at h
        · split at h
          · rename_i c r3 e3
            have := l _ _ _ e3
            have := tail_le r2
            obtain ⟨rfl, rfl⟩ := Prod.mk.inj (Option.some.inj h)
            omega
          · cases h
        · cases h
      · cases h
    · cases h
  · cases h
theorem pE1_less {e : List Str → PR} (l : Less e) : Less (pE1 e) := fun u t r h => by
  unfold pE1 at h
  split at h
  · exact pIf_less l u t r h
  · split at h
    · rename_i a r1 e1
      have := pS_less l _ _ _ e1
      split at h
      · split at h
        · rename_i b r2 e2
          have := pS_less l _ _ _ e2
          have := tail_le r1
          obtain ⟨rfl, rfl⟩ := Prod.mk.inj (Option.some.inj h)
          omega
        · cases h
      · obtain ⟨rfl, rfl⟩ := Prod.mk.inj (Option.some.inj h)
        omega
    · cases h
theorem pE_less : ∀ n, Less (pE n)
  | 0 => fun _ _ _ h => nomatch h
  | n + 1 => pE1_less (pE_less n)
/-- a chain with as many steps as there are words, or more -/
theorem chn_more {e : List Str → PR} (l : Less e) : ∀ n m t u, u.length ≤ n → u.length ≤ m → chn e n t u = chn e m t u
  | 0, 0, _, _, _, _ => rfl
  | 0, m + 1, t, u, h, _ => by
    have : u = [] := List.eq_nil_of_length_eq_zero (by omega)
    subst this
    show _ = if _ then _ else _
    rw [if_neg (by decide)]
    rfl
  | n + 1, 0, t, u, _, h => by
    have : u = [] := List.eq_nil_of_length_eq_zero (by omega)
    subst this
    show (if _ then _ else _) = _
    rw [if_neg (by decide)]
    rfl
  | n + 1, m + 1, t, u, hn, hm => by
    show (if _ then _ else _) = if _ then _ else _
    by_cases c : u.headD "" = "+" ∨ u.headD "" = "-"
    · rw [if_pos c, if_pos c]
      cases ep : pT e u.tail with
      | none => rfl
      | some p =>
        obtain ⟨t2, r2⟩ := p
        have := pT_less l _ _ _ ep
        have := List.length_tail (l := u)
        exact chn_more l n m _ r2 (by omega) (by omega)
    · rw [if_neg c, if_neg c]
theorem pP_num {e : List Str → PR} {u : List Str} {i : Int} (h : numO (u.headD "").cps.toList = some i) : pP e u = some (.no i, u.tail) := by
  unfold pP
  have n1 : ∀ z : Str, numO z.cps.toList = none → u.headD "" ≠ z := fun z hz q => by rw [q, hz] at h; cases h
  rw [if_neg (n1 "(" (by decide +kernel)), if_neg (fun q => q.elim (n1 "most" (by decide +kernel)) (n1 "least" (by decide +kernel))), h]
/-! ### a reader -/
/-- a reader at the k-th of its words -/
def RdAt (C : Addr) (H : Hp) (R : Addr) (ws : List Str) (row : Int) (k : Nat) : Prop := ∃ dx L : Addr, H R = some (.ins C dx [("words", .ref L), ("row", .int row), ("at", nV k)]) ∧ H L = some (.lst (ws.map V.str))
/-- all stands but tables and what is at R -/
def BX (R : Addr) (H H' : Hp) : Prop := ∀ b o, H b = some o → (∀ ps, o ≠ .tbl ps) → b ≠ R → H' b = some o
theorem BX.refl {R : Addr} {H : Hp} : BX R H H := fun _ _ e _ _ => e
theorem BX.trans {R : Addr} {H H1 H2 : Hp} (a : BX R H H1) (b : BX R H1 H2) : BX R H H2 := fun x o e n m => b x o (a x o e n m) n m
theorem BX.but {R : Addr} {H H' : Hp} (b : But R H H') : BX R H H' := fun x o e _ m => b x o e m
theorem BX.ext {R : Addr} {H H' : Hp} (b : LamX.ExtN H H') : BX R H H' := fun x o e n _ => b x o e n
theorem BX.same {R : Addr} {H H' : Hp} (b : Same H H') : BX R H H' := fun x o e _ _ => b x o e
theorem BX.tk {R C dx : Addr} {fs : List (Str × V)} {H H' : Hp} (b : BX R H H') (h : H R = some (.ins C dx fs)) : TK H H' := fun x xs e => b _ _ e (fun _ z => nomatch z) (ne_of e h (fun z => nomatch z))
theorem RdAt.tk {C R : Addr} {H H' : Hp} {ws : List Str} {row : Int} {k : Nat} (h : RdAt C H R ws row k) (b : BX R H H') : TK H H' := by
  obtain ⟨dx, L, e, _⟩ := h
  exact b.tk e
theorem RdAt.lst {C R p : Addr} {H H' : Hp} {ws : List Str} {row : Int} {k : Nat} {xs : List V} (h : RdAt C H R ws row k) (b : BX R H H') (e : H p = some (.lst xs)) : H' p = some (.lst xs) := by
  obtain ⟨dx, L, e1, _⟩ := h
  exact b _ _ e (fun _ z => nomatch z) (ne_of e e1 (fun z => nomatch z))
theorem RdAt.ext {C R : Addr} {H H' : Hp} {ws : List Str} {row : Int} {k : Nat} (h : RdAt C H R ws row k) (b : LamX.ExtN H H') : RdAt C H' R ws row k := by
  obtain ⟨dx, L, e1, e2⟩ := h
  exact ⟨dx, L, b _ _ e1 (fun _ z => nomatch z), b _ _ e2 (fun _ z => nomatch z)⟩
theorem RdAt.same {C R : Addr} {H H' : Hp} {ws : List Str} {row : Int} {k : Nat} (h : RdAt C H R ws row k) (b : Same H H') : RdAt C H' R ws row k := h.ext (ext_same b)
theorem Tb2.butR {PT : Addr × Addr} {R C dx : Addr} {fs : List (Str × V)} {H H' : Hp} (t : Tb2 PT H) (h : H R = some (.ins C dx fs)) (b : But R H H') : Tb2 PT H' := by
  obtain ⟨⟨p1, e1, t1⟩, p2, e2, t2⟩ := t
  exact ⟨⟨p1, b _ _ e1 (fun z => by rw [z, h] at e1; cases e1), t1⟩, p2, b _ _ e2 (fun z => by rw [z, h] at e2; cases e2), t2⟩
def hdW (ws : List Str) (k : Nat) : Str := (ws[k]?).getD ""
theorem hdW_at {ws : List Str} {k : Nat} {z : Str} (h : ws[k]? = some z) : hdW ws k = z := by unfold hdW; rw [h]; rfl
section
variable {P : Program} {w : World} {K : PySem.W.Frag} {mg : Str → Option Value} {base : Heap}
def sp_Reader_over (K : PySem.W.Frag) (C : Addr) : Sp := fun vs H Q _ => ∃ (R : Addr) (ws : List Str) (row : Int) (k : Nat), vs = [.ref R] ∧ RdAt C H R ws row k ∧ Q (.bl (decide (ws.length ≤ k))) H
theorem ok_Reader_over {f : Addr} {fd : FuncData} (F : Fun K "over" "Reader.over" s_Reader_over f fd) {C : Addr} (T : Top w K mg C) : FnOk P w K mg base CX0 1 f fd ["self"] (sp_Reader_over K C) := by
  refine F.ok sc_Reader_over (fun vs H Q E h => ?_) (fun cdv A outer s H vs Q E hr h => ?_)
  · obtain ⟨R, ws, row, k, rfl, _⟩ := h
    rfl
  obtain ⟨R, ws, row, k, rfl, ⟨dx, L, hR, hL⟩, q⟩ := h
  refine ⟨_, (pss_one (ps_ret (pe_cmpR op_ge (pe_fldK K rfl (pv 0) rfl) (pe_callB (call_len_seqK K rfl) (by rfl) T.m_len (by decide +kernel) (pa_cons (pe_fldK K rfl (pv 0) rfl) pa_nil)) (nomark _)))), ?_⟩
  refine ⟨_, rfl, R, C, dx, _, _, rfl, hR, T.cl, T.n_at, rfl, _, rfl, R, C, dx, _, _, rfl, hR, T.cl, T.n_words, rfl, L, _, rfl, .inl (SqL.of hL), _, _, rfl, rfl, ?_⟩
  rw [List.length_map]
  have e : decide (((k : Nat) : Int) ≥ ((ws.length : Nat) : Int)) = decide (ws.length ≤ k) := by
    by_cases h : ws.length ≤ k
    · rw [decide_eq_true h, decide_eq_true (by omega)]
    · rw [decide_eq_false h, decide_eq_false (by omega)]
  rw [← e] at q
  exact q
def sp_Reader_ahead (K : PySem.W.Frag) (C : Addr) : Sp := fun vs H Q _ => ∃ (R : Addr) (ws : List Str) (row : Int) (k : Nat), vs = [.ref R] ∧ RdAt C H R ws row k ∧ Q (.str (hdW ws k)) H
theorem ok_Reader_ahead {f : Addr} {fd : FuncData} (F : Fun K "ahead" "Reader.ahead" s_Reader_ahead f fd) {C : Addr} (T : Top w K mg C) : FnOk P w K mg base CX0 2 f fd ["self"] (sp_Reader_ahead K C) := by
  obtain ⟨f_Reader_over, fd_Reader_over, F_Reader_over, b_Reader_over, m_Reader_over⟩ := T.d_Reader_over
  have G_Reader_over := ok_Reader_over (P := P) (w := w) (base := base) F_Reader_over T
  refine F.ok sc_Reader_ahead (fun vs H Q E h => ?_) (fun cdv A outer s H vs Q E hr h => ?_)
  · obtain ⟨R, ws, row, k, rfl, _⟩ := h
    rfl
  obtain ⟨R, ws, row, k, rfl, hRd, q⟩ := h
  obtain ⟨dx, L, hR, hL⟩ := id hRd
  refine ⟨_, (pss_one (ps_ret (pe_ifExp (pt_val (pe_meth0 (pv 0) T.cl m_Reader_over G_Reader_over (hr.mono (by decide)) b_Reader_over .nil pass0)) pe_str (pe_ix (ix_listK K rfl) (pe_fldK K rfl (pv 0) rfl) (pe_fldK K rfl (pv 0) rfl) (fun _ _ => rfl))))), ?_⟩
  refine ⟨_, rfl, R, dx, _, rfl, hR, rfl, R, ws, row, k, rfl, hRd, _, rfl, ?_⟩
  refine if_bl (fun c => ?_) (fun c => ?_)
  · have c := of_decide_eq_true c
    unfold hdW at q
    rw [List.getElem?_eq_none c] at q
    exact q
  · have c := of_decide_eq_false c
    have e : ws[k]? = some ws[k] := List.getElem?_eq_getElem (by omega)
    rw [hdW_at e] at q
    exact ⟨_, rfl, R, C, dx, _, _, rfl, hR, T.cl, T.n_words, rfl, _, rfl, R, C, dx, _, _, rfl, hR, T.cl, T.n_at, rfl, L, _, _, _, rfl, rfl, SqL.of hL, atI_nat (by rw [List.getElem?_map, e]; rfl), q⟩
def sp_Reader_take (K : PySem.W.Frag) (C : Addr) : Sp := fun vs H Q _ => ∃ (R : Addr) (ws : List Str) (row : Int) (k : Nat), vs = [.ref R] ∧ RdAt C H R ws row k ∧ ∀ H', RdAt C H' R ws row (k + 1) → But R H H' → Q (.str (hdW ws k)) H'
theorem ok_Reader_take {f : Addr} {fd : FuncData} (F : Fun K "take" "Reader.take" s_Reader_take f fd) {C : Addr} (T : Top w K mg C) : FnOk P w K mg base CX0 3 f fd ["self"] (sp_Reader_take K C) := by
  obtain ⟨f_Reader_ahead, fd_Reader_ahead, F_Reader_ahead, b_Reader_ahead, m_Reader_ahead⟩ := T.d_Reader_ahead
  have G_Reader_ahead := ok_Reader_ahead (P := P) (w := w) (base := base) F_Reader_ahead T
  refine F.ok sc_Reader_take (fun vs H Q E h => ?_) (fun cdv A outer s H vs Q E hr h => ?_)
  · obtain ⟨R, ws, row, k, rfl, _⟩ := h
    rfl
  obtain ⟨R, ws, row, k, rfl, hRd, q⟩ := h
  obtain ⟨dx, L, hR, hL⟩ := id hRd
  refine ⟨_, (pss_cons (ps_set (i := 1) sc_Reader_take.nd rfl (Or.inl rfl) (pe_meth0 (pv 0) T.cl m_Reader_ahead G_Reader_ahead (hr.mono (by decide)) b_Reader_ahead .nil pass0))
      (pss_cons (ps_fldaugK K rfl (pv 0) pe_int ip_add)
      (pss_one (ps_ret (pv 1))))), ?_⟩
  refine ⟨_, rfl, R, dx, _, rfl, hR, rfl, R, ws, row, k, rfl, hRd, ?_⟩
  refine ⟨_, rfl, R, C, dx, _, _, rfl, hR, T.cl, T.n_at, rfl, _, _, rfl, rfl, ?_⟩
  have L_R : L ≠ R := ne_of hL hR (fun z => nomatch z)
  refine ⟨dx, _, hR, (by show 3 < 1000; decide), _, rfl, q _ ⟨dx, L, ?_, by rw [upd_ne L_R]; exact hL⟩ But.refl.upd⟩
  rw [upd_same]
  show some (HO.ins C dx [("words", .ref L), ("row", .int row), ("at", .int (((k : Nat) : Int) + 1))]) = _
  rw [show ((k : Nat) : Int) + 1 = ((k + 1 : Nat) : Int) by omega]
/-- where a row is refused -/
def ErrQ (K : PySem.W.Frag) (PT : Addr × Addr) (R : Addr) (row : Int) (E : XK) (H : Hp) : Prop := ∀ (d : Addr) (H' : Hp), H' d = some (.xd [("row", .int row)]) → BX R H H' → Tb2 PT H' → E (.ref (nsA K)) (some d) H'
theorem ErrQ.on {K : PySem.W.Frag} {PT : Addr × Addr} {R : Addr} {row : Int} {E : XK} {H H1 : Hp} (h : ErrQ K PT R row E H) (b : BX R H H1) : ErrQ K PT R row E H1 := fun d H' e b2 t => h d H' e (b.trans b2) t
theorem keep_row {H : Hp} {a d C : Addr} {x : V} (na : H a = none) (nd : H d = none) : Same H (upd (del (upd (upd (upd H a (exo a C none)) d (exd d [("row", x)])) a (exo a C (some d))) a) d (.xd [("row", x)])) := fun b o e => by
  have b1 : b ≠ a := ne_of_none e na
  have b2 : b ≠ d := ne_of_none e nd
  rw [upd_ne b2, del_ne b1, upd_ne b1, upd_ne b2, upd_ne b1]
  exact e
theorem ErrQ.now {K : PySem.W.Frag} {PT : Addr × Addr} {R : Addr} {row : Int} {E : XK} {H : Hp} {a d : Addr} (h : ErrQ K PT R row E H) (t : Tb2 PT H) (na : H a = none) (nd : H d = none) : E (.ref (nsA K)) (some d) (upd (del (upd (upd (upd H a (exo a (nsA K) none)) d (exd d [("row", .int row)])) a (exo a (nsA K) (some d))) a) d (.xd [("row", .int row)])) :=
  h d _ upd_same (BX.same (keep_row na nd)) (t.same (keep_row na nd))
section
variable {cT : Addr} {PT : Addr × Addr} [TN : TabN K mg base cT PT]
include TN
def sp_Reader_take_just (K : PySem.W.Frag) (C : Addr) (PT : Addr × Addr) : Sp := fun vs H Q E => ∃ (R : Addr) (ws : List Str) (row : Int) (k : Nat) (z : Str), vs = [.ref R, .str z] ∧ RdAt C H R ws row k ∧ Tb2 PT H ∧ (hdW ws k = z → ∀ H', RdAt C H' R ws row (k + 1) → But R H H' → Q .non H') ∧ (hdW ws k ≠ z → ErrQ K PT R row E H)
theorem ok_Reader_take_just {f : Addr} {fd : FuncData} (F : Fun K "take_just" "Reader.take_just" s_Reader_take_just f fd) {C : Addr} (T : Top w K mg C) : FnOk P w K mg base (L2.CX P w) 4 f fd ["self", "word"] (sp_Reader_take_just K C PT) := by
  obtain ⟨f_Reader_take, fd_Reader_take, F_Reader_take, b_Reader_take, m_Reader_take⟩ := T.d_Reader_take
  have G_Reader_take := ok_Reader_take (P := P) (w := w) (base := base) F_Reader_take T
  obtain ⟨fdI, N⟩ := T.x_ns
  have GI := ok_NsInit (P := P) (w := w) (base := base) N
  refine F.okX sc_Reader_take_just (fun vs H Q E h => ?_) (fun cdv A outer s H vs Q E hr h => ?_)
  · obtain ⟨R, ws, row, k, z, rfl, _⟩ := h
    rfl
  obtain ⟨R, ws, row, k, z, rfl, hRd, tb, q1, q2⟩ := h
  obtain ⟨dx, L, hR, hL⟩ := id hRd
  refine ⟨_, (pss_one (ps_if (pt_cmpR op_ne (pe_meth0 (pv 0) T.cl m_Reader_take G_Reader_take (hr.mono (by decide)) b_Reader_take .nil pass0) (pv 1) (nomark _)) (pss_one (ps_raise rfl (takes_of rfl rfl rfl rfl) (pmk_oex N.T N.iC N.tI GI (hr.mono (by decide)) N.b .nil pass0 (by rfl) N.gC (pa_cons (pe_fldK K rfl (pv 0) rfl) pa_nil)))) pss_nil)), ?_⟩
  refine ⟨_, rfl, R, dx, _, rfl, hR, rfl, R, ws, row, k, rfl, hRd, fun H1 r1 b1 => ⟨_, rfl, rfl, _, rfl, if_strN (fun ne => ?_) (fun e => q1 e H1 r1 b1)⟩⟩
  obtain ⟨dx1, L1, hR1, hL1⟩ := id r1
  refine ⟨_, rfl, R, C, dx1, _, _, rfl, hR1, T.cl, T.n_row, rfl, by show 1 ≤ 1000; decide, fun a na => ⟨a, _, rfl, upd_same, fun d nd da => ⟨rfl, d, _, upd_same, by rw [upd_ne da, upd_same], ?_, ?_⟩⟩⟩
  · rw [upd_ne da] at nd; exact nd
  · have nd1 : H1 d = none := by rw [upd_ne da] at nd; exact nd
    exact ((q2 ne).on (BX.but b1)).now (tb.butR hR b1) na nd1
def sp_Reader_end (K : PySem.W.Frag) (C : Addr) (PT : Addr × Addr) : Sp := fun vs H Q E => ∃ (R : Addr) (ws : List Str) (row : Int) (k : Nat), vs = [.ref R] ∧ RdAt C H R ws row k ∧ Tb2 PT H ∧ (ws.length ≤ k → Q .non H) ∧ (k < ws.length → ErrQ K PT R row E H)
theorem ok_Reader_end {f : Addr} {fd : FuncData} (F : Fun K "end" "Reader.end" s_Reader_end f fd) {C : Addr} (T : Top w K mg C) : FnOk P w K mg base (L2.CX P w) 3 f fd ["self"] (sp_Reader_end K C PT) := by
  obtain ⟨f_Reader_over, fd_Reader_over, F_Reader_over, b_Reader_over, m_Reader_over⟩ := T.d_Reader_over
  have G_Reader_over := ok_Reader_over (P := P) (w := w) (base := base) F_Reader_over T
  obtain ⟨fdI, N⟩ := T.x_ns
  have GI := ok_NsInit (P := P) (w := w) (base := base) N
  refine F.okX sc_Reader_end (fun vs H Q E h => ?_) (fun cdv A outer s H vs Q E hr h => ?_)
  · obtain ⟨R, ws, row, k, rfl, _⟩ := h
    rfl
  obtain ⟨R, ws, row, k, rfl, hRd, tb, q1, q2⟩ := h
  obtain ⟨dx, L, hR, hL⟩ := id hRd
  refine ⟨_, (pss_one (ps_if (pt_not (pt_val (pe_meth0 (pv 0) T.cl m_Reader_over G_Reader_over (hr.mono (by decide)) b_Reader_over .nil pass0))) (pss_one (ps_raise rfl (takes_of rfl rfl rfl rfl) (pmk_oex N.T N.iC N.tI GI (hr.mono (by decide)) N.b .nil pass0 (by rfl) N.gC (pa_cons (pe_fldK K rfl (pv 0) rfl) pa_nil)))) pss_nil)), ?_⟩
  refine ⟨_, rfl, R, dx, _, rfl, hR, rfl, R, ws, row, k, rfl, hRd, _, rfl, ?_⟩
  by_cases le : ws.length ≤ k
  · rw [decide_eq_true le]
    exact if_bl (fun z => nomatch z) (fun _ => q1 le)
  · rw [decide_eq_false le]
    refine if_bl (fun _ => ?_) (fun z => nomatch z)
    refine ⟨_, rfl, R, C, dx, _, _, rfl, hR, T.cl, T.n_row, rfl, by show 1 ≤ 1000; decide, fun a na => ⟨a, _, rfl, upd_same, fun d nd da => ⟨rfl, d, _, upd_same, by rw [upd_ne da, upd_same], ?_, ?_⟩⟩⟩
    · rw [upd_ne da] at nd; exact nd
    · have nd1 : H d = none := by rw [upd_ne da] at nd; exact nd
      exact (q2 (by omega)).now tb na nd1
def sp_Reader___init__ (K : PySem.W.Frag) (C : Addr) (PT : Addr × Addr) : Sp := fun vs H Q E => ∃ (R dx L : Addr) (ws : List Str) (row : Int), vs = [.ref R, .ref L, .int row] ∧ H R = some (.ins C dx []) ∧ H L = some (.lst (ws.map V.str)) ∧ Tb2 PT H ∧ (ws.length ≤ 40 → ∀ H', RdAt C H' R ws row 0 → But R H H' → Q .non H') ∧ (40 < ws.length → ErrQ K PT R row E H)
theorem ok_Reader___init__ {f : Addr} {fd : FuncData} (F : Fun K "__init__" "Reader.__init__" s_Reader___init__ f fd) {C : Addr} (T : Top w K mg C) : FnOk P w K mg base (L2.CX P w) 3 f fd ["self", "words", "row"] (sp_Reader___init__ K C PT) := by
  obtain ⟨fdI, N⟩ := T.x_ns
  have GI := ok_NsInit (P := P) (w := w) (base := base) N
  refine F.okX sc_Reader___init__ (fun vs H Q E h => ?_) (fun cdv A outer s H vs Q E hr h => ?_)
  · obtain ⟨R, dx, L, ws, row, rfl, _⟩ := h
    rfl
  obtain ⟨tM, mMw⟩ := T.x_mw
  obtain ⟨R, dx, L, ws, row, rfl, hR, hL, tb, q1, q2⟩ := h
  have L_R : L ≠ R := ne_of hL hR (fun z => nomatch z)
  refine ⟨_, (pss_cons (ps_if (pt_cmpR op_gt (pe_callB (call_len_seqK K rfl) (by rfl) T.m_len (by decide +kernel) (pa_cons (pv 1) pa_nil)) (pe_glob (v := .int 40) (by rfl) mMw ⟨_, rfl⟩) (nomark _)) (pss_one (ps_raise rfl (takes_of rfl rfl rfl rfl) (pmk_oex N.T N.iC N.tI GI (hr.mono (by decide)) N.b .nil pass0 (by rfl) N.gC (pa_cons (pv 2) pa_nil)))) pss_nil)
      (pss_cons (ps_fldK K rfl (pv 0) (pv 1) rfl)
      (pss_cons (ps_fldK K rfl (pv 0) (pv 2) rfl)
      (pss_one (ps_fldK K rfl (pv 0) pe_int rfl))))), ?_⟩
  refine ⟨_, rfl, L, _, rfl, .inl (SqL.of hL), _, _, rfl, rfl, _, rfl, if_bl (fun c => ?_) (fun c => ?_)⟩
  · have c := of_decide_eq_true c
    rw [List.length_map] at c
    refine ⟨_, rfl, by show 1 ≤ 1000; decide, fun a na => ⟨a, _, rfl, upd_same, fun d nd da => ⟨rfl, d, _, upd_same, by rw [upd_ne da, upd_same], ?_, ?_⟩⟩⟩
    · rw [upd_ne da] at nd; exact nd
    · have nd1 : H d = none := by rw [upd_ne da] at nd; exact nd
      exact (q2 (by omega)).now tb na nd1
  have c := of_decide_eq_false c
  rw [List.length_map] at c
  refine ⟨_, rfl, _, rfl, R, C, dx, _, rfl, hR, T.cl, T.n_words, (by show 0 < 1000; decide), ?_⟩
  refine ⟨_, rfl, _, rfl, R, C, dx, _, rfl, upd_same, T.cl, T.n_row, (by show 1 < 1000; decide), ?_⟩
  refine ⟨_, rfl, R, C, dx, _, rfl, upd_same, T.cl, T.n_at, (by show 2 < 1000; decide), ?_⟩
  refine q1 (by omega) _ ⟨dx, L, upd_same, ?_⟩ ((But.refl.upd).upd).upd
  rw [upd_ne L_R, upd_ne L_R, upd_ne L_R]
  exact hL
def sp_Reader_take_name (K : PySem.W.Frag) (C : Addr) (PT : Addr × Addr) : Sp := fun vs H Q E => ∃ (R : Addr) (ws : List Str) (row : Int) (k : Nat) (z : Str), vs = [.ref R] ∧ RdAt C H R ws row k ∧ hdW ws k = z ∧ z.length ≤ 8000000 ∧ Tb2 PT H ∧ (nameB z = true → ∀ H', RdAt C H' R ws row (k + 1) → BX R H H' → Tb2 PT H' → Q (.str z) H') ∧ (nameB z = false → ErrQ K PT R row E H)
theorem ok_Reader_take_name {f : Addr} {fd : FuncData} (F : Fun K "take_name" "Reader.take_name" s_Reader_take_name f fd) {C : Addr} (T : Top w K mg C) : FnOk P w K mg base (L2.CX P w) 4 f fd ["self"] (sp_Reader_take_name K C PT) := by
  obtain ⟨f_Reader_take, fd_Reader_take, F_Reader_take, b_Reader_take, m_Reader_take⟩ := T.d_Reader_take
  have G_Reader_take := ok_Reader_take (P := P) (w := w) (base := base) F_Reader_take T
  obtain ⟨f_is_name, fd_is_name, F_is_name, b_is_name, m_is_name⟩ := T.d_is_name
  have G_is_name := ok_is_name (P := P) (w := w) (base := base) F_is_name (TN.cd _ _ F_is_name m_is_name) T
  obtain ⟨fdI, N⟩ := T.x_ns
  have GI := ok_NsInit (P := P) (w := w) (base := base) N
  refine F.okX sc_Reader_take_name (fun vs H Q E h => ?_) (fun cdv A outer s H vs Q E hr h => ?_)
  · obtain ⟨R, ws, row, k, z, rfl, _⟩ := h
    rfl
  obtain ⟨R, ws, row, k, z, rfl, hRd, ez, lz, tb, q1, q2⟩ := h
  obtain ⟨dx, L, hR, hL⟩ := id hRd
  refine ⟨_, (pss_cons (ps_set (i := 1) sc_Reader_take_name.nd rfl (Or.inl rfl) (pe_meth0 (pv 0) T.cl m_Reader_take G_Reader_take (hr.mono (by decide)) b_Reader_take .nil pass0))
      (pss_cons (ps_if (pt_not (pt_val (pe_call G_is_name (hr.mono (by decide)) (by rfl) m_is_name F_is_name.kp b_is_name .nil pass0 (pa_cons (pv 1) pa_nil)))) (pss_one (ps_raise rfl (takes_of rfl rfl rfl rfl) (pmk_oex N.T N.iC N.tI GI (hr.mono (by decide)) N.b .nil pass0 (by rfl) N.gC (pa_cons (pe_fldK K rfl (pv 0) rfl) pa_nil)))) pss_nil)
      (pss_one (ps_ret (pv 1))))), ?_⟩
  refine ⟨_, rfl, R, dx, _, rfl, hR, rfl, R, ws, row, k, rfl, hRd, fun H1 r1 b1 => ?_⟩
  rw [ez]
  have tb1 := tb.butR hR b1
  refine ⟨_, rfl, z, rfl, lz, tb1, fun H2 x2 tb2 => ⟨_, rfl, ?_⟩⟩
  cases nz : nameB z with
  | true => exact if_bl (fun z => nomatch z) (fun _ => ⟨_, rfl, q1 nz H2 (r1.ext x2) ((BX.but b1).trans (.ext x2)) tb2⟩)
  | false =>
    refine if_bl (fun _ => ?_) (fun z => nomatch z)
    obtain ⟨dx1, L1, hR1, hL1⟩ := r1.ext x2
    refine ⟨_, rfl, R, C, dx1, _, _, rfl, hR1, T.cl, T.n_row, rfl, by show 1 ≤ 1000; decide, fun a na => ⟨a, _, rfl, upd_same, fun d nd da => ⟨rfl, d, _, upd_same, by rw [upd_ne da, upd_same], ?_, ?_⟩⟩⟩
    · rw [upd_ne da] at nd; exact nd
    · have nd1 : H2 d = none := by rw [upd_ne da] at nd; exact nd
      exact ((q2 nz).on ((BX.but b1).trans (.ext x2))).now tb2 na nd1
end
section
variable {cT : Addr} {PT : Addr × Addr} [TF : TabF K mg base cT PT]
include TF
def sp_Reader_take_number (K : PySem.W.Frag) (C : Addr) (PT : Addr × Addr) : Sp := fun vs H Q E => ∃ (R : Addr) (ws : List Str) (row : Int) (k : Nat) (z : Str), vs = [.ref R] ∧ RdAt C H R ws row k ∧ hdW ws k = z ∧ z.length ≤ 8000000 ∧ Tb2 PT H ∧ (∀ n, numO z.cps.toList = some n → ∀ H', RdAt C H' R ws row (k + 1) → BX R H H' → Tb2 PT H' → Q (.int n) H') ∧ (numO z.cps.toList = none → ErrQ K PT R row E H)
theorem ok_Reader_take_number {f : Addr} {fd : FuncData} (F : Fun K "take_number" "Reader.take_number" s_Reader_take_number f fd) {C : Addr} (T : Top w K mg C) : FnOk P w K mg base (L2.CX P w) 4 f fd ["self"] (sp_Reader_take_number K C PT) := by
  obtain ⟨f_number_of, fd_number_of, F_number_of, b_number_of, m_number_of⟩ := T.d_number_of
  have G_number_of := ok_number_of (P := P) (w := w) (base := base) F_number_of (TF.cd _ _ F_number_of m_number_of) T
  obtain ⟨f_Reader_take, fd_Reader_take, F_Reader_take, b_Reader_take, m_Reader_take⟩ := T.d_Reader_take
  have G_Reader_take := ok_Reader_take (P := P) (w := w) (base := base) F_Reader_take T
  obtain ⟨fdI, N⟩ := T.x_ns
  have GI := ok_NsInit (P := P) (w := w) (base := base) N
  refine F.okX sc_Reader_take_number (fun vs H Q E h => ?_) (fun cdv A outer s H vs Q E hr h => ?_)
  · obtain ⟨R, ws, row, k, z, rfl, _⟩ := h
    rfl
  obtain ⟨R, ws, row, k, z, rfl, hRd, ez, lz, tb, q1, q2⟩ := h
  obtain ⟨dx, L, hR, hL⟩ := id hRd
  refine ⟨_, (pss_cons (ps_set (i := 1) sc_Reader_take_number.nd rfl (Or.inl rfl) (pe_call G_number_of (hr.mono (by decide)) (by rfl) m_number_of F_number_of.kp b_number_of .nil pass0 (pa_cons (pe_meth0 (pv 0) T.cl m_Reader_take G_Reader_take (hr.mono (by decide)) b_Reader_take .nil pass0) pa_nil)))
      (pss_cons (ps_if (pt_cmpR op_isN (pv 1) pe_non (nomark _)) (pss_one (ps_raise rfl (takes_of rfl rfl rfl rfl) (pmk_oex N.T N.iC N.tI GI (hr.mono (by decide)) N.b .nil pass0 (by rfl) N.gC (pa_cons (pe_fldK K rfl (pv 0) rfl) pa_nil)))) pss_nil)
      (pss_one (ps_ret (pv 1))))), ?_⟩
  refine ⟨_, rfl, R, dx, _, rfl, hR, rfl, R, ws, row, k, rfl, hRd, fun H1 r1 b1 => ?_⟩
  rw [ez]
  have tb1 := tb.butR hR b1
  refine ⟨z, rfl, lz, tb1, fun H2 x2 tb2 => ?_⟩
  cases nz : numO z.cps.toList with
  | some n => exact ⟨_, rfl, rfl, _, rfl, if_bl (fun z => nomatch z) (fun _ => ⟨_, rfl, q1 n nz H2 (r1.ext x2) ((BX.but b1).trans (.ext x2)) tb2⟩)⟩
  | none =>
    refine ⟨_, rfl, rfl, _, rfl, if_bl (fun _ => ?_) (fun z => nomatch z)⟩
    obtain ⟨dx1, L1, hR1, hL1⟩ := r1.ext x2
    refine ⟨_, rfl, R, C, dx1, _, _, rfl, hR1, T.cl, T.n_row, rfl, by show 1 ≤ 1000; decide, fun a na => ⟨a, _, rfl, upd_same, fun d nd da => ⟨rfl, d, _, upd_same, by rw [upd_ne da, upd_same], ?_, ?_⟩⟩⟩
    · rw [upd_ne da] at nd; exact nd
    · have nd1 : H2 d = none := by rw [upd_ne da] at nd; exact nd
      exact ((q2 nz).on ((BX.but b1).trans (.ext x2))).now tb2 na nd1
end
end
/-! ### trees read, exactly -/
theorem RdAt.tb {C R : Addr} {PT : Addr × Addr} {H H' : Hp} {ws : List Str} {row : Int} {k : Nat} (h : RdAt C H R ws row k) (t : Tb2 PT H) (b : But R H H') : Tb2 PT H' := by
  obtain ⟨dx, L, e, _⟩ := h
  exact t.butR e b
theorem hdW_drop (ws : List Str) (k : Nat) : hdW ws k = (ws.drop k).headD "" := by
  unfold hdW
  have : ws[k]? = (ws.drop k)[0]? := by rw [List.getElem?_drop, Nat.add_zero]
  rw [this]
  cases ws.drop k <;> rfl
theorem drop_tail (ws : List Str) (k : Nat) : ws.drop (k + 1) = (ws.drop k).tail := by rw [← List.drop_one, List.drop_drop]
def WOk1 (ws : List Str) : Prop := ∀ z ∈ ws, z.length ≤ 8000000
theorem WOk1.hd {ws : List Str} (h : WOk1 ws) (k : Nat) : (hdW ws k).length ≤ 8000000 := by
  unfold hdW
  cases e : ws[k]? with
  | none => decide
  | some z => exact h z (List.mem_of_getElem? e)
section
variable {P : Program} {w : World} {K : PySem.W.Frag} {mg : Str → Option Value} {base : Heap}
def spX (K : PySem.W.Frag) (C : Addr) (PT : Addr × Addr) (pre : List Str → Prop) (p : List Str → PR) (n : Nat) : Sp := fun vs H Q E => ∃ (R : Addr) (ws : List Str) (row : Int) (k : Nat), vs = [.ref R] ∧ RdAt C H R ws row k ∧ WOk1 ws ∧ (ws.drop k).length < n ∧ pre (ws.drop k) ∧ Tb2 PT H ∧
  (∀ (t : Tr) (r : List Str) (v : V) (H' : Hp) (k' : Nat), p (ws.drop k) = some (t, r) → TrAt H' v t → RdAt C H' R ws row k' → ws.drop k' = r → BX R H H' → Tb2 PT H' → Q v H') ∧ (p (ws.drop k) = none → ErrQ K PT R row E H)
abbrev anyP : List Str → Prop := fun _ => True
abbrev ifP : List Str → Prop := fun u => u.headD "" = ("if" : Str)
abbrev brP : List Str → Prop := fun u => u.headD "" = ("(" : Str)
abbrev twP : List Str → Prop := fun u => u.headD "" = ("most" : Str) ∨ u.headD "" = ("least" : Str)
abbrev FnX (P : Program) (w : World) (K : PySem.W.Frag) (mg : Str → Option Value) (base : Heap) (x : Str) (st : Stmt) (j : Nat) (sp : Sp) : Prop := ∀ (f : Addr) (fd : FuncData), Fun K x x st f fd → FnOk P w K mg base (L2.CX P w) j f fd ["reader"] sp
theorem fn_mono {CX : CXT} {i j : Nat} {f : Addr} {fd : FuncData} {ps : List Str} {sp : Sp} (h : i ≤ j) (F : FnOk P w K mg base CX i f fd ps sp) : FnOk P w K mg base CX j f fd ps sp := ⟨F.len, fun A outer s H args us vs Q E hr => F.run A outer s H args us vs Q E (hr.mono h)⟩
theorem fn_noX {CX : CXT} {j : Nat} {f : Addr} {fd : FuncData} {ps : List Str} {sp : Sp} (no : ∀ vs H Q E, ¬ sp vs H Q E) : FnOk P w K mg base CX j f fd ps sp := ⟨fun _ _ _ _ h => (no _ _ _ _ h).elim, fun _ _ _ _ _ _ _ _ _ _ _ _ _ h => (no _ _ _ _ h).elim⟩
variable {cN cF : Addr} {PT : Addr × Addr} [TN : TabN K mg base cN PT] [TF : TabF K mg base cF PT] {e : List Str → PR}
include TN
theorem bracket_step {C : Addr} {f : Addr} {fd : FuncData} (T : Top w K mg C) (n j : Nat) (hj : 6 ≤ j) (GW : FnX P w K mg base "whole_tree" s_whole_tree j (spX K C PT anyP e n)) (F : Fun K "bracket_tree" "bracket_tree" s_bracket_tree f fd) :
    FnOk P w K mg base (L2.CX P w) (j + 1) f fd ["reader"] (spX K C PT brP (pBr e) (n + 1)) := by
  obtain ⟨f_whole_tree, fd_whole_tree, F_whole_tree, b_whole_tree, m_whole_tree⟩ := T.d_whole_tree
  have G_whole_tree := GW f_whole_tree fd_whole_tree F_whole_tree
  obtain ⟨f_Reader_take_just, fd_Reader_take_just, F_Reader_take_just, b_Reader_take_just, m_Reader_take_just⟩ := T.d_Reader_take_just
  have G_Reader_take_just := ok_Reader_take_just (P := P) (w := w) (base := base) F_Reader_take_just T
  refine F.okX sc_bracket_tree (fun vs H Q E h => ?_) (fun cdv A outer s H vs Q E hr h => ?_)
  · obtain ⟨R, ws, row, k, rfl, _⟩ := h
    rfl
  obtain ⟨R, ws, row, k, rfl, r0, wk, ln, pr, tb, q1, q2⟩ := h
  have pr : (ws.drop k).headD "" = ("(" : Str) := pr
  refine ⟨_, (pss_cons (ps_expr (pe_meth (pv 0) T.cl m_Reader_take_just G_Reader_take_just (hr.mono (by omega)) b_Reader_take_just .nil (passS fun σ => passAt (takes_of rfl rfl rfl rfl) σ) (pa_cons pe_str pa_nil)))
      (pss_cons (ps_set (i := 1) sc_bracket_tree.nd rfl (Or.inl rfl) (pe_call G_whole_tree (hr.mono (by omega)) (by rfl) m_whole_tree F_whole_tree.kp b_whole_tree .nil (passS fun σ => passAt (takes_of rfl rfl rfl rfl) σ) (pa_cons (pv 0) pa_nil)))
      (pss_cons (ps_expr (pe_meth (pv 0) T.cl m_Reader_take_just G_Reader_take_just (hr.mono (by omega)) b_Reader_take_just .nil (passS fun σ => passAt (takes_of rfl rfl rfl rfl) σ) (pa_cons pe_str pa_nil)))
      (pss_one (ps_ret (pv 1)))))), ?_⟩
  obtain ⟨d0, L0, g0, _⟩ := id r0
  refine ⟨_, rfl, R, d0, _, rfl, g0, rfl, R, ws, row, k, "(", rfl, r0, tb, fun _ H1 r1 b1 => ?_, fun ne => absurd ((hdW_drop ws k).trans pr) ne⟩
  have tb1 := r0.tb tb b1
  have lt := tail_lt (head_ne pr (by decide))
  refine ⟨_, rfl, R, ws, row, k + 1, rfl, r1, wk, by rw [drop_tail]; omega, trivial, tb1, fun t r v H2 k2 e1 hv r2 ed2 b2 tb2 => ?_, fun e1 => ?_⟩
  · obtain ⟨d2, L2', g2, _⟩ := id r2
    rw [drop_tail] at e1
    refine ⟨_, rfl, R, d2, _, rfl, g2, rfl, R, ws, row, k2, ")", rfl, r2, tb2, fun ez H3 r3 b3 => ⟨_, rfl, ?_⟩, fun ne => ?_⟩
    · rw [hdW_drop, ed2] at ez
      exact q1 t r.tail v H3 (k2 + 1) (by unfold pBr; rw [e1]; exact if_pos ez) (hv.keep (r2.tk (BX.but b3))) r3 (by rw [drop_tail, ed2]) (((BX.but b1).trans b2).trans (BX.but b3)) (r2.tb tb2 b3)
    · rw [hdW_drop, ed2] at ne
      exact (q2 (by unfold pBr; rw [e1]; exact if_neg ne)).on ((BX.but b1).trans b2)
  · rw [drop_tail] at e1
    exact (q2 (by unfold pBr; rw [e1])).on (BX.but b1)
theorem pick_step {C : Addr} {f : Addr} {fd : FuncData} (T : Top w K mg C) (n j : Nat) (hj : 6 ≤ j) (le : Less e) (GW : FnX P w K mg base "whole_tree" s_whole_tree j (spX K C PT anyP e n)) (F : Fun K "pick_tree" "pick_tree" s_pick_tree f fd) :
    FnOk P w K mg base (L2.CX P w) (j + 1) f fd ["reader"] (spX K C PT ifP (pIf e) (n + 1)) := by
  obtain ⟨f_whole_tree, fd_whole_tree, F_whole_tree, b_whole_tree, m_whole_tree⟩ := T.d_whole_tree
  have G_whole_tree := GW f_whole_tree fd_whole_tree F_whole_tree
  obtain ⟨f_Reader_take_just, fd_Reader_take_just, F_Reader_take_just, b_Reader_take_just, m_Reader_take_just⟩ := T.d_Reader_take_just
  have G_Reader_take_just := ok_Reader_take_just (P := P) (w := w) (base := base) F_Reader_take_just T
  refine F.okX sc_pick_tree (fun vs H Q E h => ?_) (fun cdv A outer s H vs Q E hr h => ?_)
  · obtain ⟨R, ws, row, k, rfl, _⟩ := h
    rfl
  obtain ⟨R, ws, row, k, rfl, r0, wk, ln, pr, tb, q1, q2⟩ := h
  have pr : (ws.drop k).headD "" = ("if" : Str) := pr
  refine ⟨_, (pss_cons (ps_expr (pe_meth (pv 0) T.cl m_Reader_take_just G_Reader_take_just (hr.mono (by omega)) b_Reader_take_just .nil (passS fun σ => passAt (takes_of rfl rfl rfl rfl) σ) (pa_cons pe_str pa_nil)))
      (pss_cons (ps_set (i := 1) sc_pick_tree.nd rfl (Or.inl rfl) (pe_call G_whole_tree (hr.mono (by omega)) (by rfl) m_whole_tree F_whole_tree.kp b_whole_tree .nil (passS fun σ => passAt (takes_of rfl rfl rfl rfl) σ) (pa_cons (pv 0) pa_nil)))
      (pss_cons (ps_expr (pe_meth (pv 0) T.cl m_Reader_take_just G_Reader_take_just (hr.mono (by omega)) b_Reader_take_just .nil (passS fun σ => passAt (takes_of rfl rfl rfl rfl) σ) (pa_cons pe_str pa_nil)))
      (pss_cons (ps_set (i := 2) sc_pick_tree.nd rfl (Or.inl rfl) (pe_call G_whole_tree (hr.mono (by omega)) (by rfl) m_whole_tree F_whole_tree.kp b_whole_tree .nil (passS fun σ => passAt (takes_of rfl rfl rfl rfl) σ) (pa_cons (pv 0) pa_nil)))
      (pss_cons (ps_expr (pe_meth (pv 0) T.cl m_Reader_take_just G_Reader_take_just (hr.mono (by omega)) b_Reader_take_just .nil (passS fun σ => passAt (takes_of rfl rfl rfl rfl) σ) (pa_cons pe_str pa_nil)))
      (pss_one (ps_ret (pe_tup (pa_cons pe_str (pa_cons (pv 1) (pa_cons (pv 2) (pa_cons (pe_call G_whole_tree (hr.mono (by omega)) (by rfl) m_whole_tree F_whole_tree.kp b_whole_tree .nil (passS fun σ => passAt (takes_of rfl rfl rfl rfl) σ) (pa_cons (pv 0) pa_nil)) pa_nil)))))))))))), ?_⟩
  obtain ⟨d0, L0, g0, _⟩ := id r0
  refine ⟨_, rfl, R, d0, _, rfl, g0, rfl, R, ws, row, k, "if", rfl, r0, tb, fun _ H1 r1 b1 => ?_, fun ne => absurd ((hdW_drop ws k).trans pr) ne⟩
  have tb1 := r0.tb tb b1
  have lt := tail_lt (head_ne pr (by decide))
  refine ⟨_, rfl, R, ws, row, k + 1, rfl, r1, wk, by rw [drop_tail]; omega, trivial, tb1, fun ta ra va H2 k2 e1 ha r2 ed2 b2 tb2 => ?_, fun e1 => ?_⟩
  rotate_left
  · rw [drop_tail] at e1
    exact (q2 (by unfold pIf; rw [e1])).on (BX.but b1)
  obtain ⟨d2, L2', g2, _⟩ := id r2
  rw [drop_tail] at e1
  have l1 := le _ _ _ e1
  have b02 := (BX.but b1).trans b2
  refine ⟨_, rfl, R, d2, _, rfl, g2, rfl, R, ws, row, k2, "then", rfl, r2, tb2, fun ez H3 r3 b3 => ?_, fun ne => ?_⟩
  rotate_left
  · rw [hdW_drop, ed2] at ne
    exact (q2 (by unfold pIf; rw [e1]; exact if_neg ne)).on b02
  rw [hdW_drop, ed2] at ez
  have tb3 := r2.tb tb2 b3
  have b03 := b02.trans (BX.but b3)
  have lt2 := tail_le ra
  refine ⟨_, rfl, R, ws, row, k2 + 1, rfl, r3, wk, by rw [drop_tail, ed2]; omega, trivial, tb3, fun tb' rb vb H4 k4 e2 hb r4 ed4 b4 tb4 => ?_, fun e2 => ?_⟩
  rotate_left
  · rw [drop_tail, ed2] at e2
    exact (q2 (by unfold pIf; rw [e1]; refine (if_pos ez).trans ?_; rw [e2])).on b03
  obtain ⟨d4, L4, g4, _⟩ := id r4
  rw [drop_tail, ed2] at e2
  have l2 := le _ _ _ e2
  have b04 := b03.trans b4
  refine ⟨_, rfl, R, d4, _, rfl, g4, rfl, R, ws, row, k4, "else", rfl, r4, tb4, fun ey H5 r5 b5 => ?_, fun ne => ?_⟩
  rotate_left
  · rw [hdW_drop, ed4] at ne
    exact (q2 (by unfold pIf; rw [e1]; refine (if_pos ez).trans ?_; rw [e2]; exact if_neg ne)).on b04
  rw [hdW_drop, ed4] at ey
  have tb5 := r4.tb tb4 b5
  have b05 := b04.trans (BX.but b5)
  have lt3 := tail_le rb
  refine ⟨_, rfl, _, rfl, _, rfl, R, ws, row, k4 + 1, rfl, r5, wk, by rw [drop_tail, ed4]; omega, trivial, tb5, fun tc rc vc H6 k6 e3 hc r6 ed6 b6 tb6 => ⟨(by show 4 ≤ sizeLine; decide), fun p np => ?_⟩, fun e3 => ?_⟩
  rotate_left
  · rw [drop_tail, ed4] at e3
    exact (q2 (by unfold pIf; rw [e1]; refine (if_pos ez).trans ?_; rw [e2]; refine (if_pos ey).trans ?_; rw [e3])).on b05
  rw [drop_tail, ed4] at e3
  have b46 := (BX.but b5).trans b6
  have b26 := ((BX.but b3).trans b4).trans b46
  have s7 : Same H6 (upd H6 p (.tup [.str "pick", va, vb, vc])) := same_new np
  exact q1 (.o3 ta tb' tc) rc (.ref p) _ k6 (by unfold pIf; rw [e1]; refine (if_pos ez).trans ?_; rw [e2]; refine (if_pos ey).trans ?_; rw [e3]) ⟨p, va, vb, vc, rfl, upd_same, (ha.keep (r2.tk b26)).keep (TK.same s7), (hb.keep (r4.tk b46)).keep (TK.same s7), hc.keep (TK.same s7)⟩ (r6.same s7) ed6 ((b02.trans b26).trans (BX.same s7)) (tb6.same s7)
theorem two_step {C : Addr} {f : Addr} {fd : FuncData} (T : Top w K mg C) (n j : Nat) (hj : 6 ≤ j) (le : Less e) (GW : FnX P w K mg base "whole_tree" s_whole_tree j (spX K C PT anyP e n)) (F : Fun K "two_tree" "two_tree" s_two_tree f fd) :
    FnOk P w K mg base (L2.CX P w) (j + 1) f fd ["reader"] (spX K C PT twP (pTwo e) (n + 1)) := by
  obtain ⟨f_whole_tree, fd_whole_tree, F_whole_tree, b_whole_tree, m_whole_tree⟩ := T.d_whole_tree
  have G_whole_tree := GW f_whole_tree fd_whole_tree F_whole_tree
  obtain ⟨f_Reader_take_just, fd_Reader_take_just, F_Reader_take_just, b_Reader_take_just, m_Reader_take_just⟩ := T.d_Reader_take_just
  have G_Reader_take_just := ok_Reader_take_just (P := P) (w := w) (base := base) F_Reader_take_just T
  obtain ⟨f_Reader_take, fd_Reader_take, F_Reader_take, b_Reader_take, m_Reader_take⟩ := T.d_Reader_take
  have G_Reader_take := ok_Reader_take (P := P) (w := w) (base := base) F_Reader_take T
  refine F.okX sc_two_tree (fun vs H Q E h => ?_) (fun cdv A outer s H vs Q E hr h => ?_)
  · obtain ⟨R, ws, row, k, rfl, _⟩ := h
    rfl
  obtain ⟨R, ws, row, k, rfl, r0, wk, ln, pr, tb, q1, q2⟩ := h
  have lt : (ws.drop k).tail.length < (ws.drop k).length := tail_lt (pr.elim (fun h => head_ne h (by decide)) (fun h => head_ne h (by decide)))
  have hs : hdW ws k = W2.s (if (ws.drop k).headD "" = "most" then .most else .least) := by
    rw [hdW_drop]
    by_cases c : (ws.drop k).headD "" = ("most" : Str)
    · rw [if_pos c, c]; rfl
    · rw [if_neg c, pr.resolve_left c]; rfl
  refine ⟨_, (pss_cons (ps_set (i := 1) sc_two_tree.nd rfl (Or.inl rfl) (pe_meth0 (pv 0) T.cl m_Reader_take G_Reader_take (hr.mono (by omega)) b_Reader_take .nil pass0))
      (pss_cons (ps_expr (pe_meth (pv 0) T.cl m_Reader_take_just G_Reader_take_just (hr.mono (by omega)) b_Reader_take_just .nil (passS fun σ => passAt (takes_of rfl rfl rfl rfl) σ) (pa_cons pe_str pa_nil)))
      (pss_cons (ps_set (i := 2) sc_two_tree.nd rfl (Or.inl rfl) (pe_call G_whole_tree (hr.mono (by omega)) (by rfl) m_whole_tree F_whole_tree.kp b_whole_tree .nil (passS fun σ => passAt (takes_of rfl rfl rfl rfl) σ) (pa_cons (pv 0) pa_nil)))
      (pss_cons (ps_expr (pe_meth (pv 0) T.cl m_Reader_take_just G_Reader_take_just (hr.mono (by omega)) b_Reader_take_just .nil (passS fun σ => passAt (takes_of rfl rfl rfl rfl) σ) (pa_cons pe_str pa_nil)))
      (pss_cons (ps_set (i := 3) sc_two_tree.nd rfl (Or.inl rfl) (pe_call G_whole_tree (hr.mono (by omega)) (by rfl) m_whole_tree F_whole_tree.kp b_whole_tree .nil (passS fun σ => passAt (takes_of rfl rfl rfl rfl) σ) (pa_cons (pv 0) pa_nil)))
      (pss_cons (ps_expr (pe_meth (pv 0) T.cl m_Reader_take_just G_Reader_take_just (hr.mono (by omega)) b_Reader_take_just .nil (passS fun σ => passAt (takes_of rfl rfl rfl rfl) σ) (pa_cons pe_str pa_nil)))
      (pss_one (ps_ret (pe_tup (pa_cons (pv 1) (pa_cons (pv 2) (pa_cons (pv 3) pa_nil)))))))))))), ?_⟩
  obtain ⟨d0, L0, g0, _⟩ := id r0
  refine ⟨_, rfl, R, d0, _, rfl, g0, rfl, R, ws, row, k, rfl, r0, fun H1 r1 b1 => ?_⟩
  rw [hs]
  have tb1 := r0.tb tb b1
  obtain ⟨d1, L1, g1, _⟩ := id r1
  refine ⟨_, rfl, R, d1, _, rfl, g1, rfl, R, ws, row, k + 1, "(", rfl, r1, tb1, fun ex H2 r2 b2 => ?_, fun ne => ?_⟩
  rotate_left
  · rw [hdW_drop, drop_tail] at ne
    exact (q2 (by unfold pTwo; exact if_neg ne)).on (BX.but b1)
  rw [hdW_drop, drop_tail] at ex
  have tb2 := r1.tb tb1 b2
  have b02 := (BX.but b1).trans (BX.but b2)
  have lt1 := tail_le (ws.drop k).tail
  refine ⟨_, rfl, R, ws, row, k + 1 + 1, rfl, r2, wk, by rw [drop_tail, drop_tail]; omega, trivial, tb2, fun ta ra va H3 k3 e1 ha r3 ed3 b3 tb3 => ?_, fun e1 => ?_⟩
  rotate_left
  · rw [drop_tail, drop_tail] at e1
    exact (q2 (by unfold pTwo; refine (if_pos ex).trans ?_; rw [e1])).on b02
  obtain ⟨d3, L3, g3, _⟩ := id r3
  rw [drop_tail, drop_tail] at e1
  have l1 := le _ _ _ e1
  have b03 := b02.trans b3
  refine ⟨_, rfl, R, d3, _, rfl, g3, rfl, R, ws, row, k3, ",", rfl, r3, tb3, fun ez H4 r4 b4 => ?_, fun ne => ?_⟩
  rotate_left
  · rw [hdW_drop, ed3] at ne
    exact (q2 (by unfold pTwo; refine (if_pos ex).trans ?_; rw [e1]; exact if_neg ne)).on b03
  rw [hdW_drop, ed3] at ez
  have tb4 := r3.tb tb3 b4
  have b04 := b03.trans (BX.but b4)
  have lt2 := tail_le ra
  refine ⟨_, rfl, R, ws, row, k3 + 1, rfl, r4, wk, by rw [drop_tail, ed3]; omega, trivial, tb4, fun tb' rb vb H5 k5 e2 hb r5 ed5 b5 tb5 => ?_, fun e2 => ?_⟩
  rotate_left
  · rw [drop_tail, ed3] at e2
    exact (q2 (by unfold pTwo; refine (if_pos ex).trans ?_; rw [e1]; refine (if_pos ez).trans ?_; rw [e2])).on b04
  obtain ⟨d5, L5, g5, _⟩ := id r5
  rw [drop_tail, ed3] at e2
  have b05 := b04.trans b5
  refine ⟨_, rfl, R, d5, _, rfl, g5, rfl, R, ws, row, k5, ")", rfl, r5, tb5, fun ey H6 r6 b6 => ?_, fun ne => ?_⟩
  rotate_left
  · rw [hdW_drop, ed5] at ne
    exact (q2 (by unfold pTwo; refine (if_pos ex).trans ?_; rw [e1]; refine (if_pos ez).trans ?_; rw [e2]; exact if_neg ne)).on b05
  rw [hdW_drop, ed5] at ey
  have tb6 := r5.tb tb5 b6
  have b36 := ((BX.but b4).trans b5).trans (BX.but b6)
  refine ⟨_, rfl, _, rfl, _, rfl, (by show 3 ≤ sizeLine; decide), fun p np => ?_⟩
  generalize hwd : (if (ws.drop k).headD "" = "most" then W2.most else W2.least) = wd at *
  have s7 : Same H6 (upd H6 p (.tup [.str wd.s, va, vb])) := same_new np
  exact q1 (.o2 wd ta tb') rb.tail (.ref p) _ (k5 + 1) (by unfold pTwo; refine (if_pos ex).trans ?_; rw [e1]; refine (if_pos ez).trans ?_; rw [e2, ← hwd]; exact if_pos ey) ⟨p, va, vb, rfl, upd_same, (ha.keep (r3.tk b36)).keep (TK.same s7), (hb.keep (r5.tk (BX.but b6))).keep (TK.same s7)⟩ (r6.same s7) (by rw [drop_tail, ed5]) (((b03.trans b36)).trans (BX.same s7)) (tb6.same s7)
theorem whole_step {C : Addr} {f : Addr} {fd : FuncData} (T : Top w K mg C) (n j : Nat) (hj : 6 ≤ j) (le : Less e) (GS : FnX P w K mg base "sum_tree" s_sum_tree j (spX K C PT anyP (pS e) n)) (GP : FnX P w K mg base "pick_tree" s_pick_tree j (spX K C PT ifP (pIf e) n)) (F : Fun K "whole_tree" "whole_tree" s_whole_tree f fd) :
    FnOk P w K mg base (L2.CX P w) (j + 1) f fd ["reader"] (spX K C PT anyP (pE1 e) n) := by
  obtain ⟨f_sum_tree, fd_sum_tree, F_sum_tree, b_sum_tree, m_sum_tree⟩ := T.d_sum_tree
  have G_sum_tree := GS f_sum_tree fd_sum_tree F_sum_tree
  obtain ⟨f_pick_tree, fd_pick_tree, F_pick_tree, b_pick_tree, m_pick_tree⟩ := T.d_pick_tree
  have G_pick_tree := GP f_pick_tree fd_pick_tree F_pick_tree
  obtain ⟨f_Reader_take_just, fd_Reader_take_just, F_Reader_take_just, b_Reader_take_just, m_Reader_take_just⟩ := T.d_Reader_take_just
  have G_Reader_take_just := ok_Reader_take_just (P := P) (w := w) (base := base) F_Reader_take_just T
  obtain ⟨f_Reader_ahead, fd_Reader_ahead, F_Reader_ahead, b_Reader_ahead, m_Reader_ahead⟩ := T.d_Reader_ahead
  have G_Reader_ahead := ok_Reader_ahead (P := P) (w := w) (base := base) F_Reader_ahead T
  refine F.okX sc_whole_tree (fun vs H Q E h => ?_) (fun cdv A outer s H vs Q E hr h => ?_)
  · obtain ⟨R, ws, row, k, rfl, _⟩ := h
    rfl
  obtain ⟨R, ws, row, k, rfl, r0, wk, ln, _, tb, q1, q2⟩ := h
  refine ⟨_, (pss_cons (ps_if (pt_cmpR op_eq (pe_meth0 (pv 0) T.cl m_Reader_ahead G_Reader_ahead (hr.mono (by omega)) b_Reader_ahead .nil pass0) pe_str (nomark _)) (pss_one (ps_ret (pe_call G_pick_tree (hr.mono (by omega)) (by rfl) m_pick_tree F_pick_tree.kp b_pick_tree .nil (passS fun σ => passAt (takes_of rfl rfl rfl rfl) σ) (pa_cons (pv 0) pa_nil)))) pss_nil)
      (pss_cons (ps_set (i := 1) sc_whole_tree.nd rfl (Or.inl rfl) (pe_call G_sum_tree (hr.mono (by omega)) (by rfl) m_sum_tree F_sum_tree.kp b_sum_tree .nil (passS fun σ => passAt (takes_of rfl rfl rfl rfl) σ) (pa_cons (pv 0) pa_nil)))
      (pss_cons (ps_if (pt_cmpR op_ne (pe_meth0 (pv 0) T.cl m_Reader_ahead G_Reader_ahead (hr.mono (by omega)) b_Reader_ahead .nil pass0) pe_str (nomark _)) (pss_one (ps_ret (pv 1))) pss_nil)
      (pss_cons (ps_expr (pe_meth (pv 0) T.cl m_Reader_take_just G_Reader_take_just (hr.mono (by omega)) b_Reader_take_just .nil (passS fun σ => passAt (takes_of rfl rfl rfl rfl) σ) (pa_cons pe_str pa_nil)))
      (pss_one (ps_ret (pe_tup (pa_cons pe_str (pa_cons (pv 1) (pa_cons (pe_call G_sum_tree (hr.mono (by omega)) (by rfl) m_sum_tree F_sum_tree.kp b_sum_tree .nil (passS fun σ => passAt (takes_of rfl rfl rfl rfl) σ) (pa_cons (pv 0) pa_nil)) pa_nil)))))))))), ?_⟩
  obtain ⟨d0, L0, g0, _⟩ := id r0
  refine ⟨_, rfl, R, d0, _, rfl, g0, rfl, R, ws, row, k, rfl, r0, rfl, _, rfl, if_strE (fun c => ?_) (fun c => ?_)⟩
  · rw [hdW_drop] at c
    have ep : pE1 e (ws.drop k) = pIf e (ws.drop k) := if_pos c
    exact ⟨_, rfl, R, ws, row, k, rfl, r0, wk, ln, c, tb, fun t r v H' k' e1 => q1 t r v H' k' (ep.trans e1), fun e1 => q2 (ep.trans e1)⟩
  · rw [hdW_drop] at c
    refine ⟨_, rfl, R, ws, row, k, rfl, r0, wk, ln, trivial, tb, fun ta ra va H1 k1 e1 ha r1 ed1 b1 tb1 => ?_, fun e1 => q2 (by unfold pE1; refine (if_neg c).trans ?_; rw [e1])⟩
    obtain ⟨d1, L1, g1, _⟩ := id r1
    have l1 := pS_less le _ _ _ e1
    refine ⟨_, rfl, R, d1, _, rfl, g1, rfl, R, ws, row, k1, rfl, r1, rfl, _, rfl, if_strN (fun ne => ⟨_, rfl, ?_⟩) (fun ez => ?_)⟩
    · rw [hdW_drop, ed1] at ne
      exact q1 ta ra va H1 k1 (by unfold pE1; refine (if_neg c).trans ?_; rw [e1]; exact if_neg ne) ha r1 ed1 b1 tb1
    · have ez' := ez
      rw [hdW_drop, ed1] at ez
      refine ⟨_, rfl, R, d1, _, rfl, g1, rfl, R, ws, row, k1, "<", rfl, r1, tb1, fun _ H2 r2 b2 => ?_, fun ne => absurd ez' ne⟩
      have tb2 := r1.tb tb1 b2
      have lt1 := tail_le ra
      refine ⟨_, rfl, _, rfl, R, ws, row, k1 + 1, rfl, r2, wk, by rw [drop_tail, ed1]; omega, trivial, tb2, fun tb' rb vb H3 k3 e2 hb r3 ed3 b3 tb3 => ⟨(by show 3 ≤ sizeLine; decide), fun p np => ?_⟩, fun e2 => ?_⟩
      · rw [drop_tail, ed1] at e2
        have b13 := (BX.but b2).trans b3
        have s4 : Same H3 (upd H3 p (.tup [.str "below", va, vb])) := same_new np
        exact q1 (.o2 .below ta tb') rb (.ref p) _ k3 (by unfold pE1; refine (if_neg c).trans ?_; rw [e1]; refine (if_pos ez).trans ?_; rw [e2]) ⟨p, va, vb, rfl, upd_same, (ha.keep (r1.tk b13)).keep (TK.same s4), hb.keep (TK.same s4)⟩ (r3.same s4) ed3 ((b1.trans b13).trans (BX.same s4)) (tb3.same s4)
      · rw [drop_tail, ed1] at e2
        exact (q2 (by unfold pE1; refine (if_neg c).trans ?_; rw [e1]; refine (if_pos ez).trans ?_; rw [e2])).on (b1.trans (BX.but b2))
end
/-! ### sums, times -/
theorem chn_stop {e : List Str → PR} {n : Nat} {t : Tr} {r : List Str} (no : ¬ (r.headD "" = ("+" : Str) ∨ r.headD "" = ("-" : Str))) : chn e n t r = some (t, r) := by
  cases n with
  | zero => rfl
  | succ n => exact if_neg no
theorem chn_go {e : List Str → PR} {n : Nat} {t : Tr} {r : List Str} (yes : r.headD "" = ("+" : Str) ∨ r.headD "" = ("-" : Str)) (h : r.length ≤ n) : ∃ m, n = m + 1 ∧ chn e n t r = (match pT e r.tail with
    | some (t2, r2) => chn e m (.o2 (sgnW (r.headD "")) t t2) r2
    | none => none) := by
  have lt : 0 < r.length := yes.elim (fun h => head_ne h (by decide)) (fun h => head_ne h (by decide))
  obtain ⟨m, rfl⟩ : ∃ m, n = m + 1 := ⟨n - 1, by omega⟩
  exact ⟨m, rfl, if_pos yes⟩
section
variable {P : Program} {w : World} {K : PySem.W.Frag} {mg : Str → Option Value} {base : Heap}
variable {cN cF : Addr} {PT : Addr × Addr} [TN : TabN K mg base cN PT] [TF : TabF K mg base cF PT] {e : List Str → PR}
theorem sum_step {C : Addr} {f : Addr} {fd : FuncData} (T : Top w K mg C) (n j : Nat) (hj : 6 ≤ j) (le : Less e) (GT : FnX P w K mg base "times_tree" s_times_tree j (spX K C PT anyP (pT e) n)) (F : Fun K "sum_tree" "sum_tree" s_sum_tree f fd) :
    FnOk P w K mg base (L2.CX P w) (j + 1) f fd ["reader"] (spX K C PT anyP (pS e) n) := by
  obtain ⟨f_times_tree, fd_times_tree, F_times_tree, b_times_tree, m_times_tree⟩ := T.d_times_tree
  have G_times_tree := GT f_times_tree fd_times_tree F_times_tree
  obtain ⟨f_Reader_take, fd_Reader_take, F_Reader_take, b_Reader_take, m_Reader_take⟩ := T.d_Reader_take
  have G_Reader_take := ok_Reader_take (P := P) (w := w) (base := base) F_Reader_take T
  obtain ⟨f_Reader_ahead, fd_Reader_ahead, F_Reader_ahead, b_Reader_ahead, m_Reader_ahead⟩ := T.d_Reader_ahead
  have G_Reader_ahead := ok_Reader_ahead (P := P) (w := w) (base := base) F_Reader_ahead T
  obtain ⟨aSg, mSg, hSg⟩ := T.x_sg
  obtain ⟨es, nn, hKD⟩ := hSg.dict
  refine F.okX sc_sum_tree (fun vs H Q E h => ?_) (fun cdv A outer s H vs Q E hr h => ?_)
  · obtain ⟨R, ws, row, k, rfl, _⟩ := h
    rfl
  obtain ⟨R, ws, row, k, rfl, r0, wk, ln, _, tb, q1, q2⟩ := h
  refine ⟨_, (pss_cons (ps_set (i := 1) sc_sum_tree.nd rfl (Or.inl rfl) (pe_call G_times_tree (hr.mono (by omega)) (by rfl) m_times_tree F_times_tree.kp b_times_tree .nil (passS fun σ => passAt (takes_of rfl rfl rfl rfl) σ) (pa_cons (pv 0) pa_nil)))
      (pss_cons (ps_while (passes_of rfl) (pt_cmpR (op_in_kd hKD) (pe_meth0 (pv 0) T.cl m_Reader_ahead G_Reader_ahead (hr.mono (by omega)) b_Reader_ahead .nil pass0) (pe_glob (v := .ref aSg) (by rfl) mSg rfl) (by with_unfolding_all rfl))
        (pss_cons (ps_set (i := 2) sc_sum_tree.nd rfl (Or.inl rfl) (pe_ix ix_kdict (pe_glob (v := .ref aSg) (by rfl) mSg rfl) (pe_meth0 (pv 0) T.cl m_Reader_take G_Reader_take (hr.mono (by omega)) b_Reader_take .nil pass0) (fun _ _ => rfl)))
      (pss_one (ps_set (i := 1) sc_sum_tree.nd rfl (Or.inl rfl) (pe_tup (pa_cons (pv 2) (pa_cons (pv 1) (pa_cons (pe_call G_times_tree (hr.mono (by omega)) (by rfl) m_times_tree F_times_tree.kp b_times_tree .nil (passS fun σ => passAt (takes_of rfl rfl rfl rfl) σ) (pa_cons (pv 0) pa_nil)) pa_nil))))))))
      (pss_one (ps_ret (pv 1))))), ?_⟩
  refine ⟨_, rfl, R, ws, row, k, rfl, r0, wk, ln, trivial, tb, fun t0 u0 v H1 k1 e1 hv r1 ed1 b1 tb1 => ?_, fun e1 => q2 (by unfold pS; rw [e1])⟩
  have l1 := pT_less le _ _ _ e1
  have ep : pS e (ws.drop k) = chn e (ws.drop k).length t0 (ws.drop k1) := by unfold pS; rw [e1, ed1]
  rw [ep] at q1 q2
  let W : Nat → L2.St → Hp → Prop := fun m σ H5 => ∃ (v : V) (v2 : Option V) (t' : Tr) (k' i : Nat), σ = [some (.ref R), some v, v2] ∧ TrAt H5 v t' ∧ RdAt C H5 R ws row k' ∧ (ws.drop k').length ≤ i ∧ chn e (ws.drop k).length t0 (ws.drop k1) = chn e i t' (ws.drop k') ∧ (ws.drop k').length < n ∧ BX R H H5 ∧ Tb2 PT H5 ∧ m = (ws.drop k').length
  refine ⟨W, ⟨_, v, none, t0, k1, (ws.drop k).length, rfl, hv, r1, by rw [ed1]; omega, rfl, by rw [ed1]; omega, b1, tb1, rfl⟩, ?_⟩
  rintro m σ H5 ⟨v, v2, t', k', i, rfl, hv5, r5, li, eq, lk, b5, tb5, rfl⟩
  obtain ⟨d5, L5, g5, _⟩ := id r5
  rw [eq] at q1 q2
  by_cases m2 : hdW ws k' ∈ twoS
  · have yes : (ws.drop k').headD "" = ("+" : Str) ∨ (ws.drop k').headD "" = ("-" : Str) := by
      rw [hdW_drop] at m2
      simpa only [twoS, List.mem_cons, List.not_mem_nil, or_false] using m2
    obtain ⟨i', rfl, eg⟩ := chn_go (e := e) (t := t') yes li
    rw [eg] at q1 q2
    have lt := tail_lt (yes.elim (fun h => head_ne h (by decide)) (fun h => head_ne h (by decide)))
    have sw : signW (hdW ws k') = (sgnW ((ws.drop k').headD "")).s := by
      rw [hdW_drop]
      unfold sgnW signW
      by_cases c : (ws.drop k').headD "" = ("+" : Str)
      · rw [if_pos c, if_pos c]; rfl
      · rw [if_neg c, if_neg c]; rfl
    obtain ⟨tt, hy⟩ := hSg.yes _ m2
    refine ⟨_, rfl, R, d5, _, rfl, g5, rfl, R, ws, row, k', rfl, r5, _, _, rfl, rfl, hy, _, rfl, ?_⟩
    refine if_bl (fun _ => ?_) (fun z => nomatch z)
    refine ⟨fun σ' H' => ∃ m', m' < (ws.drop k').length ∧ W m' σ' H', fun _ _ z => z, ?_⟩
    refine ⟨_, rfl, R, d5, _, rfl, g5, rfl, R, ws, row, k', rfl, r5, fun H6 r6 b6 => ⟨aSg, hdW ws k', .str (signW (hdW ws k')), rfl, rfl, ⟨es, nn, _, hKD.at_, hKD.lit, hy, ⟨tt, rfl⟩⟩, ?_⟩⟩
    rw [sw]
    generalize hsg : sgnW ((ws.drop k').headD "") = sg at q1 q2 eg ⊢
    have tb6 := r5.tb tb5 b6
    refine ⟨_, rfl, _, rfl, _, rfl, R, ws, row, k' + 1, rfl, r6, wk, by rw [drop_tail]; omega, trivial, tb6, fun t2 u2 vb H7 k7 e2 hb r7 ed7 b7 tb7 => ⟨(by show 3 ≤ sizeLine; decide), fun pp npp => ?_⟩, fun e2 => ?_⟩
    · rw [drop_tail] at e2
      have l2 := pT_less le _ _ _ e2
      rw [e2] at eg
      have b57 := (BX.but b6).trans b7
      have s8 : Same H7 (upd H7 pp (.tup [.str sg.s, v, vb])) := same_new npp
      exact ⟨(ws.drop k7).length, by rw [ed7]; omega, .ref pp, _, .o2 sg t' t2, k7, i', rfl, ⟨pp, v, vb, rfl, upd_same, (hv5.keep (r5.tk b57)).keep (TK.same s8), hb.keep (TK.same s8)⟩, r7.same s8, by rw [ed7]; omega, by rw [eq, eg, ed7], by rw [ed7]; omega, (b5.trans b57).trans (BX.same s8), tb7.same s8, rfl⟩
    · rw [drop_tail] at e2
      exact (q2 (by rw [e2])).on (b5.trans (BX.but b6))
  · have no : ¬ ((ws.drop k').headD "" = ("+" : Str) ∨ (ws.drop k').headD "" = ("-" : Str)) := fun h => m2 (by
      rw [hdW_drop]
      simpa only [twoS, List.mem_cons, List.not_mem_nil, or_false] using h)
    refine ⟨_, rfl, R, d5, _, rfl, g5, rfl, R, ws, row, k', rfl, r5, _, _, rfl, rfl, hSg.no _ m2, _, rfl, ?_⟩
    exact if_bl (fun z => nomatch z) (fun _ => ⟨_, rfl, q1 t' (ws.drop k') v H5 k' (chn_stop no) hv5 r5 rfl b5 tb5⟩)
def sp_bells_ago (K : PySem.W.Frag) (C : Addr) (PT : Addr × Addr) : Sp := fun vs H Q E => ∃ (R : Addr) (ws : List Str) (row : Int) (k : Nat), vs = [.ref R] ∧ RdAt C H R ws row k ∧ WOk1 ws ∧ Tb2 PT H ∧
  (∀ (i : Nat) (r : List Str) (H' : Hp) (k' : Nat), pAgo (ws.drop k) = some (i, r) → RdAt C H' R ws row k' → ws.drop k' = r → BX R H H' → Tb2 PT H' → Q (nV i) H') ∧ (pAgo (ws.drop k) = none → ErrQ K PT R row E H)
include TN TF in
theorem ok_bells_ago {f : Addr} {fd : FuncData} (F : Fun K "bells_ago" "bells_ago" s_bells_ago f fd) {C : Addr} (T : Top w K mg C) : FnOk P w K mg base (L2.CX P w) 5 f fd ["reader"] (sp_bells_ago K C PT) := by
  obtain ⟨f_Reader_take_just, fd_Reader_take_just, F_Reader_take_just, b_Reader_take_just, m_Reader_take_just⟩ := T.d_Reader_take_just
  have G_Reader_take_just := ok_Reader_take_just (P := P) (w := w) (base := base) F_Reader_take_just T
  obtain ⟨f_Reader_take_number, fd_Reader_take_number, F_Reader_take_number, b_Reader_take_number, m_Reader_take_number⟩ := T.d_Reader_take_number
  have G_Reader_take_number := ok_Reader_take_number (P := P) (w := w) (base := base) F_Reader_take_number T
  obtain ⟨f_Reader_ahead, fd_Reader_ahead, F_Reader_ahead, b_Reader_ahead, m_Reader_ahead⟩ := T.d_Reader_ahead
  have G_Reader_ahead := ok_Reader_ahead (P := P) (w := w) (base := base) F_Reader_ahead T
  obtain ⟨fdI, N⟩ := T.x_ns
  have GI := ok_NsInit (P := P) (w := w) (base := base) N
  refine F.okX sc_bells_ago (fun vs H Q E h => ?_) (fun cdv A outer s H vs Q E hr h => ?_)
  · obtain ⟨R, ws, row, k, rfl, _⟩ := h
    rfl
  obtain ⟨R, ws, row, k, rfl, r0, wk, tb, q1, q2⟩ := h
  obtain ⟨d0, L0, g0, _⟩ := id r0
  refine ⟨_, (pss_cons (ps_if (pt_cmpR op_ne (pe_meth0 (pv 0) T.cl m_Reader_ahead G_Reader_ahead (hr.mono (by decide)) b_Reader_ahead .nil pass0) pe_str (nomark _)) (pss_one (ps_ret pe_int)) pss_nil)
      (pss_cons (ps_expr (pe_meth (pv 0) T.cl m_Reader_take_just G_Reader_take_just (hr.mono (by decide)) b_Reader_take_just .nil (passS fun σ => passAt (takes_of rfl rfl rfl rfl) σ) (pa_cons pe_str pa_nil)))
      (pss_cons (ps_set (i := 1) sc_bells_ago.nd rfl (Or.inl rfl) (pe_meth0 (pv 0) T.cl m_Reader_take_number G_Reader_take_number (hr.mono (by decide)) b_Reader_take_number .nil (passS fun σ => passAt (takes_of rfl rfl rfl rfl) σ)))
      (pss_cons (ps_if (pt_cmpR op_lt (pv 1) pe_int (nomark _)) (pss_one (ps_raise rfl (takes_of rfl rfl rfl rfl) (pmk_oex N.T N.iC N.tI GI (hr.mono (by decide)) N.b .nil pass0 (by rfl) N.gC (pa_cons (pe_fldK K rfl (pv 0) rfl) pa_nil)))) pss_nil)
      (pss_one (ps_ret (pv 1))))))), ?_⟩
  refine ⟨_, rfl, R, d0, _, rfl, g0, rfl, R, ws, row, k, rfl, r0, rfl, _, rfl, if_strN (fun ne => ?_) (fun ez => ?_)⟩
  · rw [hdW_drop] at ne
    exact q1 0 (ws.drop k) H k (if_neg ne) r0 rfl BX.refl tb
  · have ez' := ez
    rw [hdW_drop] at ez
    have ep : pAgo (ws.drop k) = (match numO ((ws.drop k).tail.headD "").cps.toList with
      | some i => if i < 1 then none else some (i.toNat, (ws.drop k).tail.tail)
      | none => none) := if_pos ez
    rw [ep] at q1 q2
    refine ⟨_, rfl, R, d0, _, rfl, g0, rfl, R, ws, row, k, "@", rfl, r0, tb, fun _ H1 r1 b1 => ?_, fun ne => absurd ez' ne⟩
    have tb1 := r0.tb tb b1
    obtain ⟨d1, L1, g1, _⟩ := id r1
    have e1 : hdW ws (k + 1) = (ws.drop k).tail.headD "" := by rw [hdW_drop, drop_tail]
    refine ⟨_, rfl, R, d1, _, rfl, g1, rfl, R, ws, row, k + 1, hdW ws (k + 1), rfl, r1, rfl, wk.hd _, tb1, fun i ei H2 r2 b2 tb2 => ?_, fun ei => ?_⟩
    · rw [e1] at ei
      rw [ei] at q1 q2
      have b12 := (BX.but b1).trans b2
      refine ⟨_, rfl, _, _, rfl, rfl, _, rfl, if_bl (fun c => ?_) (fun c => ?_)⟩
      · have c := of_decide_eq_true c
        obtain ⟨d2, L2', g2, _⟩ := id r2
        refine ⟨_, rfl, R, C, d2, _, _, rfl, g2, T.cl, T.n_row, rfl, by show 1 ≤ 1000; decide, fun a na => ⟨a, _, rfl, upd_same, fun d nd da => ⟨rfl, d, _, upd_same, by rw [upd_ne da, upd_same], ?_, ?_⟩⟩⟩
        · rw [upd_ne da] at nd; exact nd
        · have nd1 : H2 d = none := by rw [upd_ne da] at nd; exact nd
          exact ((q2 (if_pos c)).on b12).now tb2 na nd1
      · have c := of_decide_eq_false c
        obtain ⟨i', rfl⟩ : ∃ i' : Nat, i = ((i' : Nat) : Int) := ⟨i.toNat, by omega⟩
        exact ⟨_, rfl, q1 i' _ H2 (k + 1 + 1) (if_neg c) r2 (by rw [drop_tail, drop_tail]) b12 tb2⟩
    · rw [e1] at ei
      rw [ei] at q2
      exact (q2 rfl).on (BX.but b1)
include TN TF in
theorem times_step {C : Addr} {f : Addr} {fd : FuncData} (T : Top w K mg C) (n j : Nat) (hj : 6 ≤ j) (le : Less e) (GT : FnX P w K mg base "small_tree" s_small_tree j (spX K C PT anyP (pP e) n)) (F : Fun K "times_tree" "times_tree" s_times_tree f fd) :
    FnOk P w K mg base (L2.CX P w) (j + 1) f fd ["reader"] (spX K C PT anyP (pT e) n) := by
  obtain ⟨f_small_tree, fd_small_tree, F_small_tree, b_small_tree, m_small_tree⟩ := T.d_small_tree
  have G_small_tree := GT f_small_tree fd_small_tree F_small_tree
  obtain ⟨f_Reader_take_just, fd_Reader_take_just, F_Reader_take_just, b_Reader_take_just, m_Reader_take_just⟩ := T.d_Reader_take_just
  have G_Reader_take_just := ok_Reader_take_just (P := P) (w := w) (base := base) F_Reader_take_just T
  obtain ⟨f_Reader_ahead, fd_Reader_ahead, F_Reader_ahead, b_Reader_ahead, m_Reader_ahead⟩ := T.d_Reader_ahead
  have G_Reader_ahead := ok_Reader_ahead (P := P) (w := w) (base := base) F_Reader_ahead T
  obtain ⟨f_number_of, fd_number_of, F_number_of, b_number_of, m_number_of⟩ := T.d_number_of
  have G_number_of := ok_number_of (P := P) (w := w) (base := base) F_number_of (TF.cd _ _ F_number_of m_number_of) T
  refine F.okX sc_times_tree (fun vs H Q E h => ?_) (fun cdv A outer s H vs Q E hr h => ?_)
  · obtain ⟨R, ws, row, k, rfl, _⟩ := h
    rfl
  obtain ⟨R, ws, row, k, rfl, r0, wk, ln, _, tb, q1, q2⟩ := h
  obtain ⟨d0, L0, g0, _⟩ := id r0
  refine ⟨_, (pss_cons (ps_set (i := 1) sc_times_tree.nd rfl (Or.inl rfl) (pe_call G_number_of (hr.mono (by omega)) (by rfl) m_number_of F_number_of.kp b_number_of .nil pass0 (pa_cons (pe_meth0 (pv 0) T.cl m_Reader_ahead G_Reader_ahead (hr.mono (by omega)) b_Reader_ahead .nil pass0) pa_nil)))
      (pss_cons (ps_set (i := 2) sc_times_tree.nd rfl (Or.inl rfl) (pe_call G_small_tree (hr.mono (by omega)) (by rfl) m_small_tree F_small_tree.kp b_small_tree .nil (passS fun σ => passAt (takes_of rfl rfl rfl rfl) σ) (pa_cons (pv 0) pa_nil)))
      (pss_cons (ps_if (PW.pt (pw_or (pt_cmpR op_isN (pv 1) pe_non (nomark _)) (pw_or1 (pt_cmpR op_ne (pe_meth0 (pv 0) T.cl m_Reader_ahead G_Reader_ahead (hr.mono (by omega)) b_Reader_ahead .nil pass0) pe_str (nomark _))))) (pss_one (ps_ret (pv 2))) pss_nil)
      (pss_cons (ps_expr (pe_meth (pv 0) T.cl m_Reader_take_just G_Reader_take_just (hr.mono (by omega)) b_Reader_take_just .nil (passS fun σ => passAt (takes_of rfl rfl rfl rfl) σ) (pa_cons pe_str pa_nil)))
      (pss_one (ps_ret (pe_tup (pa_cons pe_str (pa_cons (pv 1) (pa_cons (pe_call G_small_tree (hr.mono (by omega)) (by rfl) m_small_tree F_small_tree.kp b_small_tree .nil (passS fun σ => passAt (takes_of rfl rfl rfl rfl) σ) (pa_cons (pv 0) pa_nil)) pa_nil)))))))))), ?_⟩
  refine ⟨_, rfl, R, d0, _, rfl, g0, rfl, R, ws, row, k, rfl, r0, _, rfl, wk.hd k, tb, fun H1 x1 tb1 => ?_⟩
  have r1 := r0.ext x1
  rw [hdW_drop]
  refine ⟨_, rfl, R, ws, row, k, rfl, r1, wk, ln, trivial, tb1, fun t r v H2 k2 e1 hv r2 ed2 b2 tb2 => ?_, fun e1 => (q2 (by unfold pT; rw [e1])).on (BX.ext x1)⟩
  have l1 := pP_less le _ _ _ e1
  obtain ⟨d2, L2', g2, _⟩ := id r2
  have b02 := (BX.ext x1).trans b2
  have ep : pT e (ws.drop k) = (match numO ((ws.drop k).headD "").cps.toList with
    | some k => if r.headD "" = "*" then (match pP e r.tail with
      | some (t2, r2) => some (.tm k t2, r2)
      | none => none) else some (t, r)
    | none => some (t, r)) := by unfold pT; rw [e1] <;> rfl
  rw [ep] at q1 q2
  cases eo : numO ((ws.drop k).headD "").cps.toList with
  | none =>
    rw [eo] at q1
    exact ⟨_, rfl, rfl, _, rfl, if_bl (fun _ => ⟨_, rfl, q1 t r v H2 k2 rfl hv r2 ed2 b02 tb2⟩) (fun z => nomatch z)⟩
  | some i =>
    rw [eo] at q1 q2
    refine ⟨_, rfl, rfl, _, rfl, if_bl (fun z => nomatch z) (fun _ => ?_)⟩
    refine ⟨_, rfl, R, d2, _, rfl, g2, rfl, R, ws, row, k2, rfl, r2, rfl, _, rfl, if_strN (fun ne => ⟨_, rfl, ?_⟩) (fun ez => ?_)⟩
    · rw [hdW_drop, ed2] at ne
      exact q1 t r v H2 k2 (if_neg ne) hv r2 ed2 b02 tb2
    · have ez' := ez
      rw [hdW_drop, ed2] at ez
      refine ⟨_, rfl, R, d2, _, rfl, g2, rfl, R, ws, row, k2, "*", rfl, r2, tb2, fun _ H3 r3 b3 => ?_, fun ne => absurd ez' ne⟩
      have tb3 := r2.tb tb2 b3
      have lt := tail_le r
      have b03 := b02.trans (BX.but b3)
      refine ⟨_, rfl, _, rfl, R, ws, row, k2 + 1, rfl, r3, wk, by rw [drop_tail, ed2]; omega, trivial, tb3, fun t2 u2 vb H4 k4 e2 hb r4 ed4 b4 tb4 => ⟨(by show 3 ≤ sizeLine; decide), fun p np => ?_⟩, fun e2 => ?_⟩
      · rw [drop_tail, ed2] at e2
        have s5 : Same H4 (upd H4 p (.tup [.str "times", .int i, vb])) := same_new np
        exact q1 (.tm i t2) u2 (.ref p) _ k4 (by refine (if_pos ez).trans ?_; rw [e2]) ⟨p, vb, rfl, upd_same, hb.keep (TK.same s5)⟩ (r4.same s5) ed4 ((b03.trans b4).trans (BX.same s5)) (tb4.same s5)
      · rw [drop_tail, ed2] at e2
        exact (q2 (by refine (if_pos ez).trans ?_; rw [e2])).on b03
end
/-! ### small trees; all of them -/
section
variable {P : Program} {w : World} {K : PySem.W.Frag} {mg : Str → Option Value} {base : Heap}
variable {cN cF : Addr} {PT : Addr × Addr} [TN : TabN K mg base cN PT] [TF : TabF K mg base cF PT]
include TN TF
theorem small_step {e : List Str → PR} {C : Addr} {f : Addr} {fd : FuncData} (T : Top w K mg C) (n j : Nat) (hj : 6 ≤ j) (GB : FnX P w K mg base "bracket_tree" s_bracket_tree j (spX K C PT brP (pBr e) n)) (GT : FnX P w K mg base "two_tree" s_two_tree j (spX K C PT twP (pTwo e) n)) (F : Fun K "small_tree" "small_tree" s_small_tree f fd) :
    FnOk P w K mg base (L2.CX P w) (j + 1) f fd ["reader"] (spX K C PT anyP (pP e) n) := by
  obtain ⟨f_bracket_tree, fd_bracket_tree, F_bracket_tree, b_bracket_tree, m_bracket_tree⟩ := T.d_bracket_tree
  have G_bracket_tree := GB f_bracket_tree fd_bracket_tree F_bracket_tree
  obtain ⟨f_two_tree, fd_two_tree, F_two_tree, b_two_tree, m_two_tree⟩ := T.d_two_tree
  have G_two_tree := GT f_two_tree fd_two_tree F_two_tree
  obtain ⟨f_Reader_ahead, fd_Reader_ahead, F_Reader_ahead, b_Reader_ahead, m_Reader_ahead⟩ := T.d_Reader_ahead
  have G_Reader_ahead := ok_Reader_ahead (P := P) (w := w) (base := base) F_Reader_ahead T
  obtain ⟨f_Reader_take_name, fd_Reader_take_name, F_Reader_take_name, b_Reader_take_name, m_Reader_take_name⟩ := T.d_Reader_take_name
  have G_Reader_take_name := ok_Reader_take_name (P := P) (w := w) (base := base) F_Reader_take_name T
  obtain ⟨f_Reader_take_number, fd_Reader_take_number, F_Reader_take_number, b_Reader_take_number, m_Reader_take_number⟩ := T.d_Reader_take_number
  have G_Reader_take_number := ok_Reader_take_number (P := P) (w := w) (base := base) F_Reader_take_number T
  obtain ⟨f_number_of, fd_number_of, F_number_of, b_number_of, m_number_of⟩ := T.d_number_of
  have G_number_of := ok_number_of (P := P) (w := w) (base := base) F_number_of (TF.cd _ _ F_number_of m_number_of) T
  obtain ⟨f_bells_ago, fd_bells_ago, F_bells_ago, b_bells_ago, m_bells_ago⟩ := T.d_bells_ago
  have G_bells_ago := ok_bells_ago (P := P) (w := w) (base := base) F_bells_ago T
  refine F.okX sc_small_tree (fun vs H Q E h => ?_) (fun cdv A outer s H vs Q E hr h => ?_)
  · obtain ⟨R, ws, row, k, rfl, _⟩ := h
    rfl
  obtain ⟨R, ws, row, k, rfl, r0, wk, ln, _, tb, q1, q2⟩ := h
  obtain ⟨d0, L0, g0, _⟩ := id r0
  have ez : hdW ws k = (ws.drop k).headD "" := hdW_drop ws k
  refine ⟨_, (pss_cons (ps_set (i := 1) sc_small_tree.nd rfl (Or.inl rfl) (pe_meth0 (pv 0) T.cl m_Reader_ahead G_Reader_ahead (hr.mono (by omega)) b_Reader_ahead .nil pass0))
      (pss_cons (ps_if (pt_cmpR op_eq (pv 1) pe_str (nomark _)) (pss_one (ps_ret (pe_call G_bracket_tree (hr.mono (by omega)) (by rfl) m_bracket_tree F_bracket_tree.kp b_bracket_tree .nil (passS fun σ => passAt (takes_of rfl rfl rfl rfl) σ) (pa_cons (pv 0) pa_nil)))) pss_nil)
      (pss_cons (ps_if (pt_cmpR (op_in_seqK K rfl) (pv 1) (pe_tup (pa_cons pe_str (pa_cons pe_str pa_nil))) (by with_unfolding_all rfl)) (pss_one (ps_ret (pe_call G_two_tree (hr.mono (by omega)) (by rfl) m_two_tree F_two_tree.kp b_two_tree .nil (passS fun σ => passAt (takes_of rfl rfl rfl rfl) σ) (pa_cons (pv 0) pa_nil)))) pss_nil)
      (pss_cons (ps_if (pt_cmpR op_notN (pe_call G_number_of (hr.mono (by omega)) (by rfl) m_number_of F_number_of.kp b_number_of .nil pass0 (pa_cons (pv 1) pa_nil)) pe_non (nomark _)) (pss_one (ps_ret (pe_tup (pa_cons pe_str (pa_cons (pe_meth0 (pv 0) T.cl m_Reader_take_number G_Reader_take_number (hr.mono (by omega)) b_Reader_take_number .nil (passS fun σ => passAt (takes_of rfl rfl rfl rfl) σ)) pa_nil))))) pss_nil)
      (pss_cons (ps_set (i := 2) sc_small_tree.nd rfl (Or.inl rfl) (pe_meth0 (pv 0) T.cl m_Reader_take_name G_Reader_take_name (hr.mono (by omega)) b_Reader_take_name .nil (passS fun σ => passAt (takes_of rfl rfl rfl rfl) σ)))
      (pss_one (ps_ret (pe_tup (pa_cons pe_str (pa_cons (pv 2) (pa_cons (pe_call G_bells_ago (hr.mono (by omega)) (by rfl) m_bells_ago F_bells_ago.kp b_bells_ago .nil (passS fun σ => passAt (takes_of rfl rfl rfl rfl) σ) (pa_cons (pv 0) pa_nil)) pa_nil))))))))))), ?_⟩
  refine ⟨_, rfl, R, d0, _, rfl, g0, rfl, R, ws, row, k, rfl, r0, ?_⟩
  refine ⟨_, rfl, rfl, _, rfl, if_strE (fun c => ?_) (fun c => ?_)⟩
  · rw [ez] at c
    have ep : pP e (ws.drop k) = pBr e (ws.drop k) := if_pos c
    exact ⟨_, rfl, R, ws, row, k, rfl, r0, wk, ln, c, tb, fun t r v H' k' e1 => q1 t r v H' k' (ep.trans e1), fun e1 => q2 (ep.trans e1)⟩
  have c' := c
  rw [ez] at c
  refine ⟨_, rfl, (by show 2 ≤ sizeLine; decide), fun tp ntp => ?_⟩
  have s1 : Same H (upd H tp (.tup [.str "most", .str "least"])) := same_new ntp
  refine ⟨tp, _, rfl, .inr (SqT.of upd_same), rfl, rfl, _, rfl, ?_⟩
  generalize upd H tp (.tup [.str "most", .str "least"]) = H1 at s1 ⊢
  have r1 := r0.same s1
  have tb1 := tb.same s1
  refine if_in (zs := ["most", "least"]) (fun m => ?_) (fun m => ?_)
  · rw [ez] at m
    have m : (ws.drop k).headD "" = ("most" : Str) ∨ (ws.drop k).headD "" = ("least" : Str) := by simpa only [List.mem_cons, List.not_mem_nil, or_false] using m
    have ep : pP e (ws.drop k) = pTwo e (ws.drop k) := (if_neg c).trans (if_pos m)
    exact ⟨_, rfl, R, ws, row, k, rfl, r1, wk, ln, m, tb1, fun t r v H' k' e1 hv hr hd b => q1 t r v H' k' (ep.trans e1) hv hr hd ((BX.same s1).trans b), fun e1 => (q2 (ep.trans e1)).on (BX.same s1)⟩
  rw [ez] at m
  have m : ¬ ((ws.drop k).headD "" = ("most" : Str) ∨ (ws.drop k).headD "" = ("least" : Str)) := fun h => m (by simpa only [List.mem_cons, List.not_mem_nil, or_false] using h)
  have ep : pP e (ws.drop k) = (match numO ((ws.drop k).headD "").cps.toList with
    | some i => some (.no i, (ws.drop k).tail)
    | none => if nameB ((ws.drop k).headD "") = true then (match pAgo (ws.drop k).tail with
      | some (k', r) => some (.nm ((ws.drop k).headD "") k', r)
      | none => none) else none) := (if_neg c).trans (if_neg m)
  rw [ep] at q1 q2
  have lz := wk.hd k
  rw [ez] at lz ⊢
  refine ⟨_, rfl, _, rfl, lz, tb1, fun H2 x2 tb2 => ?_⟩
  have r2 := r1.ext x2
  have b02 : BX R H H2 := (BX.same s1).trans (BX.ext x2)
  obtain ⟨d2, L2', g2, _⟩ := id r2
  cases eo : numO ((ws.drop k).headD "").cps.toList with
  | some i =>
    rw [eo] at q1
    refine ⟨rfl, _, rfl, if_bl (fun _ => ?_) (fun z => nomatch z)⟩
    refine ⟨_, rfl, R, d2, _, rfl, g2, rfl, R, ws, row, k, _, rfl, r2, ez, lz, tb2, fun i2 e2 H3 r3 b3 tb3 => ⟨(by show 2 ≤ sizeLine; decide), fun p np => ?_⟩, fun e2 => by rw [eo] at e2; cases e2⟩
    rw [eo] at e2
    obtain rfl := Option.some.inj e2
    have s4 : Same H3 (upd H3 p (.tup [.str "number", .int i])) := same_new np
    exact q1 (.no i) _ (.ref p) _ (k + 1) rfl ⟨p, rfl, upd_same⟩ (r3.same s4) (drop_tail ws k) ((b02.trans b3).trans (BX.same s4)) (tb3.same s4)
  | none =>
    rw [eo] at q1 q2
    refine ⟨rfl, _, rfl, if_bl (fun z => nomatch z) (fun _ => ?_)⟩
    refine ⟨_, rfl, R, d2, _, rfl, g2, rfl, R, ws, row, k, _, rfl, r2, ez, lz, tb2, fun nz H3 r3 b3 tb3 => ?_, fun nz => (q2 (if_neg (by rw [nz]; exact Bool.false_ne_true))).on b02⟩
    have b03 := b02.trans b3
    refine ⟨_, rfl, _, rfl, R, ws, row, k + 1, rfl, r3, wk, tb3, fun i r H4 k4 e4 r4 ed4 b4 tb4 => ⟨(by show 3 ≤ sizeLine; decide), fun p np => ?_⟩, fun e4 => ?_⟩
    · rw [drop_tail] at e4
      have s5 : Same H4 (upd H4 p (.tup [.str "name", .str ((ws.drop k).headD ""), nV i])) := same_new np
      exact q1 (.nm ((ws.drop k).headD "") i) r (.ref p) _ k4 (by refine (if_pos nz).trans ?_; rw [e4]) ⟨p, rfl, upd_same⟩ (r4.same s5) ed4 ((b03.trans b4).trans (BX.same s5)) (tb4.same s5)
    · rw [drop_tail] at e4
      exact (q2 (by refine (if_pos nz).trans ?_; rw [e4])).on b03
theorem whole_all {C : Addr} (T : Top w K mg C) : ∀ n, FnX P w K mg base "whole_tree" s_whole_tree (5 * n + 7) (spX K C PT anyP (pE n) n)
  | 0 => fun f fd F => fn_noX fun vs H Q E ⟨_, _, _, _, _, _, _, l, _⟩ => absurd l (Nat.not_lt_zero _)
  | n + 1 => by
    have W := whole_all T n
    have le := pE_less n
    have GB : FnX P w K mg base "bracket_tree" s_bracket_tree (5 * n + 8) (spX K C PT brP (pBr (pE n)) (n + 1)) := fun f fd F => bracket_step T n (5 * n + 7) (by omega) W F
    have GT : FnX P w K mg base "two_tree" s_two_tree (5 * n + 8) (spX K C PT twP (pTwo (pE n)) (n + 1)) := fun f fd F => two_step T n (5 * n + 7) (by omega) le W F
    have GP : FnX P w K mg base "pick_tree" s_pick_tree (5 * n + 8) (spX K C PT ifP (pIf (pE n)) (n + 1)) := fun f fd F => pick_step T n (5 * n + 7) (by omega) le W F
    have GSm : FnX P w K mg base "small_tree" s_small_tree (5 * n + 9) (spX K C PT anyP (pP (pE n)) (n + 1)) := fun f fd F => small_step T (n + 1) (5 * n + 8) (by omega) GB GT F
    have GTi : FnX P w K mg base "times_tree" s_times_tree (5 * n + 10) (spX K C PT anyP (pT (pE n)) (n + 1)) := fun f fd F => times_step T (n + 1) (5 * n + 9) (by omega) le GSm F
    have GSu : FnX P w K mg base "sum_tree" s_sum_tree (5 * n + 11) (spX K C PT anyP (pS (pE n)) (n + 1)) := fun f fd F => sum_step T (n + 1) (5 * n + 10) (by omega) le GTi F
    have GP2 : FnX P w K mg base "pick_tree" s_pick_tree (5 * n + 11) (spX K C PT ifP (pIf (pE n)) (n + 1)) := fun f fd F => fn_mono (by omega) (GP f fd F)
    exact fun f fd F => whole_step T (n + 1) (5 * n + 11) (by omega) le GSu GP2 F
abbrev sp_whole_tree (K : PySem.W.Frag) (C : Addr) (PT : Addr × Addr) : Sp := spX K C PT anyP (pE 40) 40
theorem ok_whole_tree {f : Addr} {fd : FuncData} (F : Fun K "whole_tree" "whole_tree" s_whole_tree f fd) {C : Addr} (T : Top w K mg C) : FnOk P w K mg base (L2.CX P w) 207 f fd ["reader"] (sp_whole_tree K C PT) := whole_all T 40 f fd F
end
/-! ### formulas -/
def firstN (n : Nat) (p : Nat → Bool) : Option Nat := (List.range n).find? p
theorem firstN_at {n i : Nat} {p : Nat → Bool} (hi : i < n) (hp : p i = true) (no : ∀ j, j < i → p j = false) : firstN n p = some i := by
  unfold firstN
  rw [List.find?_range_eq_some]
  exact ⟨hp, List.mem_range.mpr hi, fun j hj => by rw [no j hj]; rfl⟩
theorem firstN_none {n : Nat} {p : Nat → Bool} (no : ∀ j, j < n → p j = false) : firstN n p = none := by
  unfold firstN
  rw [List.find?_eq_none]
  intro j hj
  rw [no j (List.mem_range.mp hj)]
  exact Bool.false_ne_true
theorem firstN_no {n : Nat} {p : Nat → Bool} (h : firstN n p = none) : ∀ j, j < n → p j = false := fun j hj => by
  have := List.find?_eq_none.mp h j (List.mem_range.mpr hj)
  exact Bool.eq_false_iff.mpr this
structure Fm where
  ins : List Str
  was : List (Str × List Int)
  rules : List (Str × Tr)
  outs : List Str
def WaAt (H : Hp) (v : V) (p : Str × List Int) : Prop := ∃ a b, v = .ref a ∧ H a = some (.tup [.str p.1, .ref b]) ∧ H b = some (.tup (p.2.map V.int))
def RlAt (H : Hp) (v : V) (p : Str × Tr) : Prop := ∃ a x, v = .ref a ∧ H a = some (.tup [.str p.1, x]) ∧ TrAt H x p.2
theorem WaAt.keep {H H' : Hp} {v : V} {p : Str × List Int} (h : WaAt H v p) (k : TK H H') : WaAt H' v p := by
  obtain ⟨a, b, rfl, e1, e2⟩ := h
  exact ⟨a, b, rfl, k _ _ e1, k _ _ e2⟩
theorem RlAt.keep {H H' : Hp} {v : V} {p : Str × Tr} (h : RlAt H v p) (k : TK H H') : RlAt H' v p := by
  obtain ⟨a, x, rfl, e1, e2⟩ := h
  exact ⟨a, x, rfl, k _ _ e1, e2.keep k⟩
def FmAt (H : Hp) (r : Addr) (F : Fm) : Prop := ∃ (a1 a2 a3 a4 : Addr) (wv rv : List V), H r = some (.tup [.ref a1, .ref a2, .ref a3, .ref a4]) ∧ H a1 = some (.tup (F.ins.map V.str)) ∧ H a2 = some (.tup wv) ∧ All2 (WaAt H) wv F.was ∧ H a3 = some (.tup rv) ∧ All2 (RlAt H) rv F.rules ∧ H a4 = some (.tup (F.outs.map V.str))
theorem FmAt.keep {H H' : Hp} {r : Addr} {F : Fm} (h : FmAt H r F) (k : TK H H') : FmAt H' r F := by
  obtain ⟨a1, a2, a3, a4, wv, rv, e0, e1, e2, e3, e4, e5, e6⟩ := h
  exact ⟨a1, a2, a3, a4, wv, rv, k _ _ e0, k _ _ e1, k _ _ e2, e3.imp fun _ _ z => z.keep k, k _ _ e4, e5.imp fun _ _ z => z.keep k, k _ _ e6⟩
/-- formulas whose was is a tuple that has no names of its own -/
def FmAtF (H : Hp) (r : Addr) (F : Fm) : Prop := ∃ (a1 a2 a3 a4 : Addr) (ob : Obj) (wv rv : List V), ob.dict = none ∧ H r = some (.tup [.ref a1, .ref a2, .ref a3, .ref a4]) ∧ H a1 = some (.tup (F.ins.map V.str)) ∧ H a2 = some (.frz ob (.tup wv)) ∧ All2 (WaAt H) wv F.was ∧ H a3 = some (.tup rv) ∧ All2 (RlAt H) rv F.rules ∧ H a4 = some (.tup (F.outs.map V.str))
theorem FmAtF.same {H H' : Hp} {r : Addr} {F : Fm} (h : FmAtF H r F) (s : Same H H') : FmAtF H' r F := by
  obtain ⟨a1, a2, a3, a4, ob, wv, rv, d, e0, e1, e2, e3, e4, e5, e6⟩ := h
  exact ⟨a1, a2, a3, a4, ob, wv, rv, d, s _ _ e0, s _ _ e1, s _ _ e2, e3.imp fun _ _ z => z.keep (TK.same s), s _ _ e4, e5.imp fun _ _ z => z.keep (TK.same s), s _ _ e6⟩
structure FmOk (F : Fm) : Prop where
  li : F.ins.length ≤ 100
  lw : F.was.length ≤ 100
  lr : F.rules.length ≤ 100
  lo : F.outs.length ≤ 100
  tr : ∀ p ∈ F.rules, p.2.parts.length ≤ 100
def dupB (l : List Str) (i : Nat) : Bool := match l[i]? with
  | some x => decide (x ∈ l.take i)
  | none => false
def dupO (l : List Str) : Option Str := (firstN l.length (dupB l)).bind fun i => l[i]?
def onS : Option Str → V
  | some z => .str z
  | none => .non
def Fm.own (F : Fm) : List Str := F.ins ++ F.rules.map (·.1)
def Fm.kept (F : Fm) : List Str := F.was.map (·.1)
def Fm.used (F : Fm) : List Str := F.kept ++ F.rules.flatMap (fun p => p.2.leans.map (·.1)) ++ F.outs
def lostO (l own : List Str) : Option Str := l.find? fun z => decide (z ∉ own)
theorem find_at {α : Type} {p : α → Bool} : ∀ {l : List α} {i : Nat} {x : α}, l[i]? = some x → p x = true → (∀ (j : Nat) (y : α), j < i → l[j]? = some y → p y = false) → l.find? p = some x
  | [], _, _, e, _, _ => nomatch e
  | a :: r, 0, x, e, hp, _ => by
    obtain rfl := Option.some.inj e
    rw [List.find?_cons, hp]
  | a :: r, i + 1, x, e, hp, no => by
    rw [List.find?_cons, no 0 a (Nat.succ_pos _) rfl]
    exact find_at (l := r) e hp fun j y hj ey => no (j + 1) y (Nat.succ_lt_succ hj) ey
def leanN (ns : List Str) (l : List (Str × Nat)) : List Str := (l.filter fun q => decide (q.2 = 0) && decide (q.1 ∈ ns)).map (·.1)
theorem nodup_get {ns : List Str} (nd : ns.Nodup) {i j : Nat} {z : Str} (h1 : ns[i]? = some z) (h2 : ns[j]? = some z) : i = j := by
  obtain ⟨l1, e1⟩ := List.getElem?_eq_some_iff.mp h1
  obtain ⟨l2, e2⟩ := List.getElem?_eq_some_iff.mp h2
  rw [List.nodup_iff_pairwise_ne, List.pairwise_iff_getElem] at nd
  rcases Nat.lt_trichotomy i j with h | h | h
  · exact absurd (e1.trans e2.symm) (nd i j l1 l2 h)
  · exact h
  · exact absurd (e2.trans e1.symm) (nd j i l2 l1 h)
theorem few_in {α : Type} [BEq α] [LawfulBEq α] : ∀ {l m : List α}, l.Nodup → (∀ x ∈ l, x ∈ m) → l.length ≤ m.length := by
  intro l
  induction l with
  | nil => intro _ _ _; exact Nat.zero_le _
  | cons x l ih =>
    intro m nd h
    obtain ⟨n1, n2⟩ := List.nodup_cons.mp nd
    have i := ih (m := m.erase x) n2 fun y hy => (List.mem_erase_of_ne (fun e : y = x => n1 (e ▸ hy))).mpr (h y (List.mem_cons_of_mem _ hy))
    have := List.length_erase_of_mem (h x (List.mem_cons_self ..))
    have pos : 0 < m.length := List.length_pos_of_mem (h x (List.mem_cons_self ..))
    show l.length + 1 ≤ m.length
    omega
/-! ### rows read, exactly -/
theorem RdAt.lstN {C R p : Addr} {H : Hp} {ws : List Str} {row : Int} {k : Nat} {xs ys : List V} (r : RdAt C H R ws row k) (hp : H p = some (.lst xs)) (ne : xs.length < ws.length) : RdAt C (upd H p (.lst ys)) R ws row k := by
  obtain ⟨dx, L, e1, e2⟩ := r
  refine ⟨dx, L, by rw [upd_ne (ne_of e1 hp (fun z => nomatch z))]; exact e1, ?_⟩
  rw [upd_ne fun z => ?_]
  · exact e2
  · rw [z, hp] at e2
    have := congrArg List.length (HO.lst.inj (Option.some.inj e2))
    rw [List.length_map] at this
    omega
theorem BX.own {R p : Addr} {H H1 : Hp} {o : HO} (a : BX R H H1) (h : H p = none) : BX R H (upd H1 p o) := fun b x e n m => by
  rw [upd_ne (ne_of_none e h)]
  exact a b x e n m
theorem Tb2.lstU {PT : Addr × Addr} {D : Addr} {H : Hp} {xs ys : List V} (t : Tb2 PT H) (e : H D = some (.lst xs)) : Tb2 PT (upd H D (.lst ys)) := by
  obtain ⟨⟨p1, e1, t1⟩, p2, e2, t2⟩ := t
  exact ⟨⟨p1, by rw [upd_ne (fun z => by rw [z, e] at e1; cases e1)]; exact e1, t1⟩, p2, by rw [upd_ne (fun z => by rw [z, e] at e2; cases e2)]; exact e2, t2⟩
def namesO (wd : Str) (u : List Str) : Option (List Str) := if u.headD "" = wd then (if u.tail.all nameB = true then some u.tail else none) else none
def numsW : List Str → Option (List Int)
  | [] => some []
  | z :: r => match numO z.cps.toList with
    | some i => (match numsW r with
      | some l => some (i :: l)
      | none => none)
    | none => none
def wasO (u : List Str) : Option (Str × List Int) := if u.headD "" = "was" then (if nameB (u.tail.headD "") = true then (if u.tail.tail.headD "" = ":" then (match numsW u.tail.tail.tail with
  | some l => some (u.tail.headD "", l)
  | none => none) else none) else none) else none
def ruleO (u : List Str) : Option (Str × Tr) := if nameB (u.headD "") = true then (if u.tail.headD "" = "=" then (match pE 40 u.tail.tail with
  | some (t, []) => some (u.headD "", t)
  | _ => none) else none) else none
theorem drop_len {ws : List Str} {k : Nat} : ws.length ≤ k ↔ ws.drop k = [] := by
  rw [List.drop_eq_nil_iff]
theorem drop_cons {ws : List Str} {k : Nat} (h : k < ws.length) : ∃ z, hdW ws k = z ∧ ws.drop k = z :: ws.drop (k + 1) := by
  refine ⟨ws[k], hdW_at (List.getElem?_eq_getElem h), ?_⟩
  rw [List.drop_eq_getElem_cons h]
section
variable {P : Program} {w : World} {K : PySem.W.Frag} {mg : Str → Option Value} {base : Heap}
variable {cN cF : Addr} {PT : Addr × Addr} [TN : TabN K mg base cN PT] [TF : TabF K mg base cF PT]
def sp_names_behind (K : PySem.W.Frag) (C : Addr) (PT : Addr × Addr) : Sp := fun vs H Q E => ∃ (R : Addr) (wd : Str) (ws : List Str) (row : Int), vs = [.str wd, .ref R] ∧ RdAt C H R ws row 0 ∧ WOk1 ws ∧ ws.length ≤ 40 ∧ wd ≠ "" ∧ Tb2 PT H ∧
  (∀ (zs : List Str) (p : Addr) (H' : Hp), namesO wd ws = some zs → H' p = some (.tup (zs.map V.str)) → BX R H H' → Tb2 PT H' → Q (.ref p) H') ∧ (namesO wd ws = none → ErrQ K PT R row E H)
include TN in
theorem ok_names_behind {f : Addr} {fd : FuncData} (F : Fun K "names_behind" "names_behind" s_names_behind f fd) {C : Addr} (T : Top w K mg C) : FnOk P w K mg base (L2.CX P w) 5 f fd ["word", "reader"] (sp_names_behind K C PT) := by
  obtain ⟨f_Reader_take_just, fd_Reader_take_just, F_Reader_take_just, b_Reader_take_just, m_Reader_take_just⟩ := T.d_Reader_take_just
  have G_Reader_take_just := ok_Reader_take_just (P := P) (w := w) (base := base) F_Reader_take_just T
  obtain ⟨f_Reader_over, fd_Reader_over, F_Reader_over, b_Reader_over, m_Reader_over⟩ := T.d_Reader_over
  have G_Reader_over := ok_Reader_over (P := P) (w := w) (base := base) F_Reader_over T
  obtain ⟨f_Reader_take_name, fd_Reader_take_name, F_Reader_take_name, b_Reader_take_name, m_Reader_take_name⟩ := T.d_Reader_take_name
  have G_Reader_take_name := ok_Reader_take_name (P := P) (w := w) (base := base) F_Reader_take_name T
  obtain ⟨fdI, N⟩ := T.x_ns
  have GI := ok_NsInit (P := P) (w := w) (base := base) N
  refine F.okX sc_names_behind (fun vs H Q E h => ?_) (fun cdv A outer s H vs Q E hr h => ?_)
  · obtain ⟨R, wd, ws, row, rfl, _⟩ := h
    rfl
  obtain ⟨R, wd, ws, row, rfl, r0, wk, l40, wne, tb, q1, q2⟩ := h
  refine ⟨_, (pss_cons (ps_expr (pe_meth (pv 1) T.cl m_Reader_take_just G_Reader_take_just (hr.mono (by decide)) b_Reader_take_just .nil (passS fun σ => passAt (takes_of rfl rfl rfl rfl) σ) (pa_cons (pv 0) pa_nil)))
      (pss_cons (ps_set (i := 2) sc_names_behind.nd rfl (Or.inl rfl) (pe_lst pa_nil))
      (pss_cons (ps_while (passes_of rfl) (pt_not (pt_val (pe_meth0 (pv 1) T.cl m_Reader_over G_Reader_over (hr.mono (by decide)) b_Reader_over .nil pass0)))
        (pss_one (ps_expr (pe_bmK K rfl PySem.F.plainAttrs_list PySem.F.slot_list_append PySem.F.type_list_append mt_append (pv 2) (pa_cons (pe_meth0 (pv 1) T.cl m_Reader_take_name G_Reader_take_name (hr.mono (by decide)) b_Reader_take_name .nil (passS fun σ => passAt (takes_of rfl rfl rfl rfl) σ)) pa_nil)))))
      (pss_one (ps_ret (pe_callTy (call_tuple_ofK K rfl) (by rfl) T.m_tuple (by decide +kernel) (pa_cons (pv 2) pa_nil))))))), ?_⟩
  obtain ⟨d0, L0, g0, _⟩ := id r0
  have e0 : hdW ws 0 = ws.headD "" := hdW_drop ws 0
  refine ⟨_, rfl, R, d0, _, rfl, g0, rfl, _, rfl, R, ws, row, 0, wd, rfl, r0, tb, fun ez H1 r1 b1 => ?_, fun ne => ?_⟩
  rotate_left
  · rw [e0] at ne
    exact q2 (if_neg ne)
  rw [e0] at ez
  have lt := head_ne ez wne
  have ep : namesO wd ws = if ws.tail.all nameB = true then some ws.tail else none := if_pos ez
  rw [ep] at q1 q2
  have tb1 := r0.tb tb b1
  refine ⟨(by show 0 ≤ sizeLine; decide), fun p np => ?_⟩
  have s2 : Same H1 (upd H1 p (.lst [])) := same_new np
  have pR : p ≠ R := fun z => by
    obtain ⟨_, _, e, _⟩ := r1
    rw [z, e] at np
    cases np
  have np0 : H p = none := b1.none np pR
  let W : Nat → L2.St → Hp → Prop := fun m σ H5 => ∃ (acc : List Str) (j : Nat), σ = [some (.str wd), some (.ref R), some (.ref p)] ∧ H5 p = some (.lst (acc.map V.str)) ∧ RdAt C H5 R ws row (j + 1) ∧ acc ++ ws.drop (j + 1) = ws.tail ∧ acc.length = j ∧ j + 1 ≤ ws.length ∧ acc.all nameB = true ∧ BX R H H5 ∧ Tb2 PT H5 ∧ m = ws.length - j
  refine ⟨W, ⟨_, [], 0, rfl, upd_same, r1.same s2, drop_tail ws 0, rfl, lt, rfl, (BX.but b1).own np0, tb1.same s2, rfl⟩, ?_⟩
  rintro m σ H5 ⟨acc, j, rfl, hp5, r5, ea, la, hj, na, b5, tb5, rfl⟩
  obtain ⟨d5, L5, g5, _⟩ := id r5
  refine ⟨_, rfl, R, d5, _, rfl, g5, rfl, R, ws, row, j + 1, rfl, r5, _, rfl, ?_⟩
  by_cases c : ws.length ≤ j + 1
  · rw [decide_eq_true c]
    refine if_bl (fun z => nomatch z) (fun _ => ?_)
    rw [drop_len.mp c, List.append_nil] at ea
    subst ea
    refine ⟨_, rfl, p, _, rfl, .inl ⟨SqL.of hp5, fun t nt => ?_⟩⟩
    exact q1 ws.tail t _ (if_pos na) upd_same (b5.trans (BX.same (same_new nt))) (tb5.same (same_new nt))
  · rw [decide_eq_false c]
    refine if_bl (fun _ => ?_) (fun z => nomatch z)
    refine ⟨fun σ' H' => ∃ m', m' < ws.length - j ∧ W m' σ' H', fun _ _ z => z, ?_⟩
    obtain ⟨z, ez1, ed⟩ := drop_cons (ws := ws) (k := j + 1) (by omega)
    refine ⟨_, rfl, .inl ⟨rfl, _, SqL.of hp5⟩, _, rfl, R, d5, _, rfl, g5, rfl, R, ws, row, j + 1, z, rfl, r5, ez1, by rw [← ez1]; exact wk.hd _, tb5, fun nz H6 r6 b6 tb6 => ?_, fun nz => ?_⟩
    · have hp6 := r5.lst b6 hp5
      have lt : (acc.map V.str).length = j := by rw [List.length_map, la]
      refine ⟨p, _, _, rfl, rfl, hp6, small1000 (by rw [lt]; omega), ws.length - (j + 1), by omega, acc ++ [z], j + 1, rfl, by rw [upd_same, List.map_append]; rfl, r6.lstN hp6 (by rw [lt]; omega), by rw [List.append_assoc]; show acc ++ (z :: ws.drop (j + 1 + 1)) = _; rw [← ed, ea], by rw [List.length_append, la]; rfl, by omega, by rw [List.all_append, na]; show (true && (nameB z && true)) = true; rw [nz]; rfl, (b5.trans b6).own np0, tb6.lstU hp6, rfl⟩
    · refine (q2 (if_neg fun h => ?_)).on b5
      rw [← ea, ed, List.all_append] at h
      have h : (acc.all nameB && (nameB z && (ws.drop (j + 1 + 1)).all nameB)) = true := h
      rw [nz, Bool.false_and, Bool.and_false] at h
      cases h
theorem nums_step {z : Str} {r : List Str} {i : Int} (h : numO z.cps.toList = some i) : numsW (z :: r) = (numsW r).map (i :: ·) := by
  show (match numO z.cps.toList with | some i => _ | none => _) = _
  rw [h]
  cases numsW r <;> rfl
theorem nums_none {z : Str} {r : List Str} (h : numO z.cps.toList = none) : numsW (z :: r) = none := by
  show (match numO z.cps.toList with | some i => (match numsW r with | some l => some (i :: l) | none => none) | none => none) = _
  rw [h]
def sp_was_row (K : PySem.W.Frag) (C : Addr) (PT : Addr × Addr) : Sp := fun vs H Q E => ∃ (R : Addr) (ws : List Str) (row : Int), vs = [.ref R] ∧ RdAt C H R ws row 0 ∧ WOk1 ws ∧ ws.length ≤ 40 ∧ Tb2 PT H ∧
  (∀ (p : Str × List Int) (v : V) (H' : Hp), wasO ws = some p → WaAt H' v p → BX R H H' → Tb2 PT H' → Q v H') ∧ (wasO ws = none → ErrQ K PT R row E H)
set_option maxHeartbeats 0 in
include TN TF in
theorem ok_was_row {f : Addr} {fd : FuncData} (F : Fun K "was_row" "was_row" s_was_row f fd) {C : Addr} (T : Top w K mg C) : FnOk P w K mg base (L2.CX P w) 5 f fd ["reader"] (sp_was_row K C PT) := by
  obtain ⟨f_Reader_take_just, fd_Reader_take_just, F_Reader_take_just, b_Reader_take_just, m_Reader_take_just⟩ := T.d_Reader_take_just
  have G_Reader_take_just := ok_Reader_take_just (P := P) (w := w) (base := base) F_Reader_take_just T
  obtain ⟨f_Reader_take_name, fd_Reader_take_name, F_Reader_take_name, b_Reader_take_name, m_Reader_take_name⟩ := T.d_Reader_take_name
  have G_Reader_take_name := ok_Reader_take_name (P := P) (w := w) (base := base) F_Reader_take_name T
  obtain ⟨f_Reader_over, fd_Reader_over, F_Reader_over, b_Reader_over, m_Reader_over⟩ := T.d_Reader_over
  have G_Reader_over := ok_Reader_over (P := P) (w := w) (base := base) F_Reader_over T
  obtain ⟨f_Reader_take_number, fd_Reader_take_number, F_Reader_take_number, b_Reader_take_number, m_Reader_take_number⟩ := T.d_Reader_take_number
  have G_Reader_take_number := ok_Reader_take_number (P := P) (w := w) (base := base) F_Reader_take_number T
  obtain ⟨fdI, N⟩ := T.x_ns
  have GI := ok_NsInit (P := P) (w := w) (base := base) N
  refine F.okX sc_was_row (fun vs H Q E h => ?_) (fun cdv A outer s H vs Q E hr h => ?_)
  · obtain ⟨R, ws, row, rfl, _⟩ := h
    rfl
  obtain ⟨R, ws, row, rfl, r0, wk, l40, tb, q1, q2⟩ := h
  refine ⟨_, (pss_cons (ps_expr (pe_meth (pv 0) T.cl m_Reader_take_just G_Reader_take_just (hr.mono (by decide)) b_Reader_take_just .nil (passS fun σ => passAt (takes_of rfl rfl rfl rfl) σ) (pa_cons pe_str pa_nil)))
      (pss_cons (ps_set (i := 1) sc_was_row.nd rfl (Or.inl rfl) (pe_meth0 (pv 0) T.cl m_Reader_take_name G_Reader_take_name (hr.mono (by decide)) b_Reader_take_name .nil (passS fun σ => passAt (takes_of rfl rfl rfl rfl) σ)))
      (pss_cons (ps_expr (pe_meth (pv 0) T.cl m_Reader_take_just G_Reader_take_just (hr.mono (by decide)) b_Reader_take_just .nil (passS fun σ => passAt (takes_of rfl rfl rfl rfl) σ) (pa_cons pe_str pa_nil)))
      (pss_cons (ps_set (i := 2) sc_was_row.nd rfl (Or.inl rfl) (pe_lst pa_nil))
      (pss_cons (ps_while (passes_of rfl) (pt_not (pt_val (pe_meth0 (pv 0) T.cl m_Reader_over G_Reader_over (hr.mono (by decide)) b_Reader_over .nil pass0)))
        (pss_one (ps_expr (pe_bmK K rfl PySem.F.plainAttrs_list PySem.F.slot_list_append PySem.F.type_list_append mt_append (pv 2) (pa_cons (pe_meth0 (pv 0) T.cl m_Reader_take_number G_Reader_take_number (hr.mono (by decide)) b_Reader_take_number .nil (passS fun σ => passAt (takes_of rfl rfl rfl rfl) σ)) pa_nil)))))
      (pss_one (ps_ret (pe_tup (pa_cons (pv 1) (pa_cons (pe_callTy (call_tuple_ofK K rfl) (by rfl) T.m_tuple (by decide +kernel) (pa_cons (pv 2) pa_nil)) pa_nil)))))))))), ?_⟩
  obtain ⟨d0, L0, g0, _⟩ := id r0
  have e0 : hdW ws 0 = ws.headD "" := hdW_drop ws 0
  have e1 : hdW ws 1 = ws.tail.headD "" := by rw [hdW_drop, drop_tail]; rfl
  have e2 : hdW ws 2 = ws.tail.tail.headD "" := by rw [hdW_drop, drop_tail, drop_tail]; rfl
  have e3 : ws.drop 3 = ws.tail.tail.tail := by rw [drop_tail, drop_tail, drop_tail]; rfl
  refine ⟨_, rfl, R, d0, _, rfl, g0, rfl, R, ws, row, 0, "was", rfl, r0, tb, fun ez H1 r1 b1 => ?_, fun ne => ?_⟩
  rotate_left
  · rw [e0] at ne
    exact q2 (if_neg ne)
  rw [e0] at ez
  have tb1 := r0.tb tb b1
  obtain ⟨d1, L1, g1, _⟩ := id r1
  refine ⟨_, rfl, R, d1, _, rfl, g1, rfl, R, ws, row, 0 + 1, _, rfl, r1, e1, by rw [← e1]; exact wk.hd 1, tb1, fun nz H2 r2 b2 tb2 => ?_, fun nz => ?_⟩
  rotate_left
  · exact (q2 (by unfold wasO; refine (if_pos ez).trans (if_neg ?_); rw [nz]; exact Bool.false_ne_true)).on (BX.but b1)
  have b02 := (BX.but b1).trans b2
  obtain ⟨d2, L2', g2, _⟩ := id r2
  refine ⟨_, rfl, R, d2, _, rfl, g2, rfl, R, ws, row, 0 + 1 + 1, ":", rfl, r2, tb2, fun ey H3 r3 b3 => ?_, fun ne => ?_⟩
  rotate_left
  · have ne : hdW ws 2 ≠ ":" := ne
    rw [e2] at ne
    exact (q2 (by unfold wasO; exact (if_pos ez).trans ((if_pos nz).trans (if_neg ne)))).on b02
  have ey : hdW ws 2 = ":" := ey
  have l3 : 3 ≤ ws.length := by
    have := head_ne (e2.symm.trans ey) (by decide)
    rw [List.length_tail, List.length_tail] at this
    omega
  rw [e2] at ey
  have ep : wasO ws = (match numsW ws.tail.tail.tail with
    | some l => some (ws.tail.headD "", l)
    | none => none) := by unfold wasO; exact (if_pos ez).trans ((if_pos nz).trans (if_pos ey))
  rw [ep, ← e3] at q1 q2
  have tb3 := r2.tb tb2 b3
  have b03 := b02.trans (BX.but b3)
  refine ⟨(by show 0 ≤ sizeLine; decide), fun p np => ?_⟩
  have s4 : Same H3 (upd H3 p (.lst [])) := same_new np
  let W : Nat → L2.St → Hp → Prop := fun m σ H5 => ∃ (acc : List Int) (j : Nat), σ = [some (.ref R), some (.str (ws.tail.headD "")), some (.ref p)] ∧ H5 p = some (.lst (acc.map V.int)) ∧ RdAt C H5 R ws row (j + 3) ∧ numsW (ws.drop 3) = (numsW (ws.drop (j + 3))).map (acc ++ ·) ∧ acc.length = j ∧ j + 3 ≤ ws.length ∧ BX R H3 H5 ∧ Tb2 PT H5 ∧ m = ws.length - j
  refine ⟨W, ⟨_, [], 0, rfl, upd_same, r3.same s4, by cases numsW (ws.drop 3) <;> rfl, rfl, l3, BX.same s4, tb3.same s4, rfl⟩, ?_⟩
  rintro m σ H5 ⟨acc, j, rfl, hp5, r5, ea, la, hj, b5, tb5, rfl⟩
  obtain ⟨d5, L5, g5, _⟩ := id r5
  rw [ea] at q1 q2
  refine ⟨_, rfl, R, d5, _, rfl, g5, rfl, R, ws, row, j + 3, rfl, r5, _, rfl, ?_⟩
  by_cases c : ws.length ≤ j + 3
  · rw [decide_eq_true c]
    refine if_bl (fun z => nomatch z) (fun _ => ?_)
    rw [drop_len.mp c] at q1
    refine ⟨_, rfl, _, rfl, p, _, rfl, .inl ⟨SqL.of hp5, fun t nt => ⟨(by show 2 ≤ sizeLine; decide), fun t2 nt2 => ?_⟩⟩⟩
    have s6 : Same H5 (upd H5 t (.tup (acc.map V.int))) := same_new nt
    have s7 := s6.trans (same_new (o := .tup [V.str (ws.tail.headD ""), V.ref t]) nt2)
    exact q1 (ws.tail.headD "", acc) (.ref t2) _ (by show some (_, acc ++ []) = _; rw [List.append_nil]) ⟨t2, t, rfl, upd_same, same_new nt2 _ _ upd_same⟩ ((b03.trans b5).trans (BX.same s7)) (tb5.same s7)
  · rw [decide_eq_false c]
    refine if_bl (fun _ => ?_) (fun z => nomatch z)
    refine ⟨fun σ' H' => ∃ m', m' < ws.length - j ∧ W m' σ' H', fun _ _ z => z, ?_⟩
    obtain ⟨z, ez1, ed⟩ := drop_cons (ws := ws) (k := j + 3) (by omega)
    refine ⟨_, rfl, .inl ⟨rfl, _, SqL.of hp5⟩, _, rfl, R, d5, _, rfl, g5, rfl, R, ws, row, j + 3, z, rfl, r5, ez1, by rw [← ez1]; exact wk.hd _, tb5, fun i ei H6 r6 b6 tb6 => ?_, fun ei => ?_⟩
    · have hp6 := r5.lst b6 hp5
      have lt : (acc.map V.int).length = j := by rw [List.length_map, la]
      have b56 : BX R H3 (upd H6 p (.lst (acc.map V.int ++ [V.int i]))) := (b5.trans b6).own np
      refine ⟨p, _, _, rfl, rfl, hp6, small1000 (by rw [lt]; omega), ws.length - (j + 1), by omega, acc ++ [i], j + 1, rfl, by rw [upd_same, List.map_append]; rfl, ?_, ?_, by rw [List.length_append, la]; rfl, by omega, b56, tb6.lstU hp6, rfl⟩
      · rw [show j + 1 + 3 = j + 3 + 1 by omega]
        exact r6.lstN hp6 (by rw [lt]; omega)
      · rw [ea, ed, nums_step ei, show j + 1 + 3 = j + 3 + 1 by omega]
        cases numsW (ws.drop (j + 3 + 1)) with
        | none => rfl
        | some l => show some (acc ++ i :: l) = some (acc ++ [i] ++ l); rw [List.append_assoc]; rfl
    · refine (q2 ?_).on (b03.trans b5)
      rw [ed, nums_none ei]
      rfl
def sp_rule_row (K : PySem.W.Frag) (C : Addr) (PT : Addr × Addr) : Sp := fun vs H Q E => ∃ (R : Addr) (ws : List Str) (row : Int), vs = [.ref R] ∧ RdAt C H R ws row 0 ∧ WOk1 ws ∧ ws.length ≤ 40 ∧ Tb2 PT H ∧
  (∀ (p : Str × Tr) (v : V) (H' : Hp), ruleO ws = some p → RlAt H' v p → BX R H H' → Tb2 PT H' → Q v H') ∧ (ruleO ws = none → ErrQ K PT R row E H)
set_option maxHeartbeats 0 in
include TN TF in
theorem ok_rule_row {f : Addr} {fd : FuncData} (F : Fun K "rule_row" "rule_row" s_rule_row f fd) {C : Addr} (T : Top w K mg C) : FnOk P w K mg base (L2.CX P w) 208 f fd ["reader"] (sp_rule_row K C PT) := by
  obtain ⟨f_Reader_take_name, fd_Reader_take_name, F_Reader_take_name, b_Reader_take_name, m_Reader_take_name⟩ := T.d_Reader_take_name
  have G_Reader_take_name := ok_Reader_take_name (P := P) (w := w) (base := base) F_Reader_take_name T
  obtain ⟨f_Reader_take_just, fd_Reader_take_just, F_Reader_take_just, b_Reader_take_just, m_Reader_take_just⟩ := T.d_Reader_take_just
  have G_Reader_take_just := ok_Reader_take_just (P := P) (w := w) (base := base) F_Reader_take_just T
  obtain ⟨f_Reader_end, fd_Reader_end, F_Reader_end, b_Reader_end, m_Reader_end⟩ := T.d_Reader_end
  have G_Reader_end := ok_Reader_end (P := P) (w := w) (base := base) F_Reader_end T
  obtain ⟨f_whole_tree, fd_whole_tree, F_whole_tree, b_whole_tree, m_whole_tree⟩ := T.d_whole_tree
  have G_whole_tree := ok_whole_tree (P := P) (w := w) (base := base) F_whole_tree T
  obtain ⟨fdI, N⟩ := T.x_ns
  have GI := ok_NsInit (P := P) (w := w) (base := base) N
  refine F.okX sc_rule_row (fun vs H Q E h => ?_) (fun cdv A outer s H vs Q E hr h => ?_)
  · obtain ⟨R, ws, row, rfl, _⟩ := h
    rfl
  obtain ⟨R, ws, row, rfl, r0, wk, l40, tb, q1, q2⟩ := h
  refine ⟨_, (pss_cons (ps_set (i := 1) sc_rule_row.nd rfl (Or.inl rfl) (pe_meth0 (pv 0) T.cl m_Reader_take_name G_Reader_take_name (hr.mono (by decide)) b_Reader_take_name .nil (passS fun σ => passAt (takes_of rfl rfl rfl rfl) σ)))
      (pss_cons (ps_expr (pe_meth (pv 0) T.cl m_Reader_take_just G_Reader_take_just (hr.mono (by decide)) b_Reader_take_just .nil (passS fun σ => passAt (takes_of rfl rfl rfl rfl) σ) (pa_cons pe_str pa_nil)))
      (pss_cons (ps_set (i := 2) sc_rule_row.nd rfl (Or.inl rfl) (pe_call G_whole_tree (hr.mono (by decide)) (by rfl) m_whole_tree F_whole_tree.kp b_whole_tree .nil (passS fun σ => passAt (takes_of rfl rfl rfl rfl) σ) (pa_cons (pv 0) pa_nil)))
      (pss_cons (ps_expr (pe_meth0 (pv 0) T.cl m_Reader_end G_Reader_end (hr.mono (by decide)) b_Reader_end .nil (passS fun σ => passAt (takes_of rfl rfl rfl rfl) σ)))
      (pss_one (ps_ret (pe_tup (pa_cons (pv 1) (pa_cons (pv 2) pa_nil))))))))), ?_⟩
  obtain ⟨d0, L0, g0, _⟩ := id r0
  have e0 : hdW ws 0 = ws.headD "" := hdW_drop ws 0
  have e1 : hdW ws 1 = ws.tail.headD "" := by rw [hdW_drop, drop_tail]; rfl
  have e2 : ws.drop 2 = ws.tail.tail := by rw [drop_tail, drop_tail]; rfl
  refine ⟨_, rfl, R, d0, _, rfl, g0, rfl, R, ws, row, 0, _, rfl, r0, e0, by rw [← e0]; exact wk.hd 0, tb, fun nz H1 r1 b1 tb1 => ?_, fun nz => ?_⟩
  rotate_left
  · exact q2 (if_neg (by rw [nz]; exact Bool.false_ne_true))
  obtain ⟨d1, L1, g1, _⟩ := id r1
  refine ⟨_, rfl, R, d1, _, rfl, g1, rfl, R, ws, row, 0 + 1, "=", rfl, r1, tb1, fun ey H2 r2 b2 => ?_, fun ne => ?_⟩
  rotate_left
  · have ne : hdW ws 1 ≠ "=" := ne
    rw [e1] at ne
    exact (q2 (by unfold ruleO; exact (if_pos nz).trans (if_neg ne))).on b1
  have ey : hdW ws 1 = "=" := ey
  rw [e1] at ey
  have l2 := head_ne ey (by decide)
  rw [List.length_tail] at l2
  have ep : ruleO ws = (match pE 40 ws.tail.tail with
    | some (t, []) => some (ws.headD "", t)
    | _ => none) := by unfold ruleO; exact (if_pos nz).trans (if_pos ey)
  rw [ep, ← e2] at q1 q2
  have tb2 := r1.tb tb1 b2
  have b02 := b1.trans (BX.but b2)
  refine ⟨_, rfl, R, ws, row, 0 + 1 + 1, rfl, r2, wk, by rw [List.length_drop]; omega, trivial, tb2, fun t r v H3 k3 e3 hv r3 ed3 b3 tb3 => ?_, fun e3 => ?_⟩
  rotate_left
  · have e3 : pE 40 (ws.drop 2) = none := e3
    exact (q2 (by rw [e3])).on b02
  have e3 : pE 40 (ws.drop 2) = some (t, r) := e3
  rw [e3] at q1 q2
  obtain ⟨d3, L3, g3, _⟩ := id r3
  have b03 := b02.trans b3
  refine ⟨_, rfl, R, d3, _, rfl, g3, rfl, R, ws, row, k3, rfl, r3, tb3, fun le => ?_, fun gt => ?_⟩
  · rw [drop_len.mp le] at ed3
    subst ed3
    refine ⟨_, rfl, _, rfl, (by show 2 ≤ sizeLine; decide), fun p np => ?_⟩
    have s4 : Same H3 (upd H3 p (.tup [.str (ws.headD ""), v])) := same_new np
    exact q1 (ws.headD "", t) (.ref p) _ rfl ⟨p, v, rfl, upd_same, hv.keep (TK.same s4)⟩ (b03.trans (BX.same s4)) (tb3.same s4)
  · refine (q2 ?_).on b03
    cases r with
    | nil => exact absurd (drop_len.mpr ed3) (by omega)
    | cons _ _ => rfl
end
/-! ### texts read, exactly -/
abbrev Mid := (Str × List Int) ⊕ (Str × Tr)
def Mid.wa : Mid → Option (Str × List Int)
  | .inl p => some p
  | .inr _ => none
def Mid.rl : Mid → Option (Str × Tr)
  | .inl _ => none
  | .inr p => some p
/-- a list of words, other than the one at D -/
def LsAt (D : Addr) (H : Hp) (v : V) (ws : List Str) : Prop := ∃ L : Addr, v = .ref L ∧ L ≠ D ∧ H L = some (.lst (ws.map V.str))
def midO (u : List Str) : Option Mid := if u.headD "" = "was" then (wasO u).map .inl else (ruleO u).map .inr
abbrev rwAt (rws : List (List Str)) (k : Nat) : List Str := rws.getD k []
/-- a row that is none there -/
def badB (rws : List (List Str)) (k : Nat) : Bool := decide (40 < (rwAt rws k).length) || (decide (k = 0) && (namesO "in" (rwAt rws k)).isNone) || (decide (k + 1 = rws.length) && (namesO "out" (rwAt rws k)).isNone) || (decide (0 < k) && decide (k + 1 < rws.length) && (midO (rwAt rws k)).isNone)
def wasF (rws : List (List Str)) (i : Nat) : List (Str × List Int) := (List.range i).filterMap fun j => (midO (rwAt rws (j + 1))).bind Mid.wa
def rlsF (rws : List (List Str)) (i : Nat) : List (Str × Tr) := (List.range i).filterMap fun j => (midO (rwAt rws (j + 1))).bind Mid.rl
def fmF (rws : List (List Str)) : Fm := ⟨(rwAt rws 0).tail, wasF rws (rws.length - 2), rlsF rws (rws.length - 2), (rwAt rws (rws.length - 1)).tail⟩
theorem wasF_succ {rws : List (List Str)} {i : Nat} {m : Mid} (h : midO (rwAt rws (i + 1)) = some m) : wasF rws (i + 1) = wasF rws i ++ m.wa.toList := by
  unfold wasF
  rw [List.range_succ, List.filterMap_append]
  congr 1
  show List.filterMap _ [i] = _
  rw [List.filterMap_cons, h]
  cases m <;> rfl
theorem rlsF_succ {rws : List (List Str)} {i : Nat} {m : Mid} (h : midO (rwAt rws (i + 1)) = some m) : rlsF rws (i + 1) = rlsF rws i ++ m.rl.toList := by
  unfold rlsF
  rw [List.range_succ, List.filterMap_append]
  congr 1
  show List.filterMap _ [i] = _
  rw [List.filterMap_cons, h]
  cases m <;> rfl
theorem names_tail {wd : Str} {u zs : List Str} (h : namesO wd u = some zs) : u.headD "" = wd ∧ zs = u.tail := by
  unfold namesO at h
  split at h
  · rename_i c
    split at h
    · exact ⟨c, (Option.some.inj h).symm⟩
    · cases h
  · cases h
/-- the rows of words of a text -/
structure TB (a : Str) (rs : List Str) (rws : List (List Str)) : Prop where
  la : a.length ≤ 8000000
  sp : Txt.split a "\n" = rs
  sr : All2 (fun r ws => Txt.split r " " = ws ∧ r.length ≤ 8000000) rs rws
  ne : rws ≠ []
  few : rws.length ≤ 1000
  wk : ∀ u ∈ rws, WOk1 u
section
variable {P : Program} {w : World} {K : PySem.W.Frag} {mg : Str → Option Value} {base : Heap}
variable {cN cF : Addr} {PT : Addr × Addr} [TN : TabN K mg base cN PT] [TF : TabF K mg base cF PT]
def NoTb (H : Hp) (p : Addr) : Prop := ∀ o, H p = some o → ∃ ps, o = .tbl ps
theorem NoTb.of {H H' : Hp} {p : Addr} (x : LamX.ExtN H H') (n : H' p = none) : NoTb H p := fun o e => Classical.byContradiction fun h => by
  have := x p o e fun ps z => h ⟨ps, z⟩
  rw [n] at this
  cases this
theorem NoTb.own {H H' : Hp} {D : Addr} {o : HO} (nt : NoTb H D) (e : LamX.ExtN H H') : LamX.ExtN H (upd H' D o) := fun b x hb n => by
  by_cases z : b = D
  · subst z
    obtain ⟨ps, rfl⟩ := nt x hb
    exact absurd rfl (n ps)
  · rw [upd_ne z]; exact e b x hb n
theorem bx_ext {M : Addr} {H H1 H2 : Hp} (s : LamX.ExtN H H1) (nM : H M = none) (b : BX M H1 H2) : LamX.ExtN H H2 := fun x o e n => b x o (s x o e n) n (fun z => by rw [z, nM] at e; cases e)
theorem bx_extT {M : Addr} {H H1 H2 : Hp} (s : LamX.ExtN H H1) (nM : NoTb H M) (b : BX M H1 H2) : LamX.ExtN H H2 := fun x o e n => b x o (s x o e n) n (fun z => by
  subst z
  obtain ⟨ps, rfl⟩ := nM o e
  exact n ps rfl)
theorem ext_own {H H' : Hp} {D : Addr} {o : HO} (e : LamX.ExtN H H') (n : H D = none) : LamX.ExtN H (upd H' D o) := fun b x hb nt => by
  by_cases z : b = D
  · subst z; rw [hb] at n; cases n
  · rw [upd_ne z]; exact e b x hb nt
def sp_read_formulas (K : PySem.W.Frag) (C : Addr) (PT : Addr × Addr) : Sp := fun vs H Q E => ∃ (a : Str) (rs : List Str) (rws : List (List Str)), vs = [.str a] ∧ TB a rs rws ∧ Tb2 PT H ∧
  (∀ (r : Addr) (H' : Hp), (∀ k, k < rws.length → badB rws k = false) → FmAt H' r (fmF rws) → LamX.ExtN H H' → Tb2 PT H' → Q (.ref r) H') ∧
  ∀ (k : Nat) (d : Addr) (H' : Hp), k < rws.length → badB rws k = true → (∀ j, j < k → badB rws j = false) → H' d = some (.xd [("row", nV k)]) → LamX.ExtN H H' → Tb2 PT H' → E (.ref (nsA K)) (some d) H'
set_option maxHeartbeats 0 in
include TN TF in
theorem ok_read_formulas {f : Addr} {fd : FuncData} (F : Fun K "read_formulas" "read_formulas" s_read_formulas f fd) {C : Addr} (T : Top w K mg C) : FnOk P w K mg base (L2.CX P w) 209 f fd ["text"] (sp_read_formulas K C PT) := by
  obtain ⟨f_names_behind, fd_names_behind, F_names_behind, b_names_behind, m_names_behind⟩ := T.d_names_behind
  have G_names_behind := ok_names_behind (P := P) (w := w) (base := base) F_names_behind T
  obtain ⟨f_Reader___init__, fd_Reader___init__, F_Reader___init__, b_Reader___init__, m_Reader___init__⟩ := T.d_Reader___init__
  have G_Reader___init__ := ok_Reader___init__ (P := P) (w := w) (base := base) F_Reader___init__ T
  obtain ⟨f_Reader_ahead, fd_Reader_ahead, F_Reader_ahead, b_Reader_ahead, m_Reader_ahead⟩ := T.d_Reader_ahead
  have G_Reader_ahead := ok_Reader_ahead (P := P) (w := w) (base := base) F_Reader_ahead T
  obtain ⟨f_was_row, fd_was_row, F_was_row, b_was_row, m_was_row⟩ := T.d_was_row
  have G_was_row := ok_was_row (P := P) (w := w) (base := base) F_was_row T
  obtain ⟨f_rule_row, fd_rule_row, F_rule_row, b_rule_row, m_rule_row⟩ := T.d_rule_row
  have G_rule_row := ok_rule_row (P := P) (w := w) (base := base) F_rule_row T
  obtain ⟨fdI, N⟩ := T.x_ns
  have GI := ok_NsInit (P := P) (w := w) (base := base) N
  refine F.okX sc_read_formulas (fun vs H Q E h => ?_) (fun cdv A outer s H vs Q E hr h => ?_)
  · obtain ⟨a, rs, rws, rfl, _⟩ := h
    rfl
  obtain ⟨a, rs, rws, rfl, tx, tb, q1, q2⟩ := h
  have sr := tx.sr
  have lrs : rs.length = rws.length := sr.length
  have few := tx.few
  have la := tx.la
  obtain ⟨n, en⟩ : ∃ n, rws.length = n + 1 := ⟨rws.length - 1, by have := List.length_pos_iff.mpr tx.ne; omega⟩
  refine ⟨_, (pss_cons (ps_setLc (i := 1) (own := [("row", 2)]) (g := gName 2) (tt := tYes) (by rfl) sc_read_formulas.nd rfl rfl (sw_true rfl rfl rfl (by decide +kernel)) (pi_listK K rfl (pe_bmK K rfl PySem.F.plainAttrs_str PySem.F.slot_str_split PySem.F.type_str_split mt_split (pv 0) (pa_cons pe_str pa_nil))) (blkOk_by (own := [("row", 2)]) (N := N_read_formulas) (sc := defScope s_read_formulas) (by decide +kernel)) (fun _ _ _ _ _ => (pg_name (i := 2) sc_read_formulas.nd rfl (Or.inl rfl))) (fun _ _ _ _ _ => pts_nil) (fun _ _ _ _ _ => (pe_bmK K rfl PySem.F.plainAttrs_str PySem.F.slot_str_split PySem.F.type_str_split mt_split (pv 2) (pa_cons pe_str pa_nil))))
      (pss_cons (ps_set (i := 3) sc_read_formulas.nd rfl (Or.inl rfl) (pe_op op_sub (pe_callB (call_len_seqK K rfl) (by rfl) T.m_len (by decide +kernel) (pa_cons (pv 1) pa_nil)) pe_int))
      (pss_cons (ps_set (i := 4) sc_read_formulas.nd rfl (Or.inl rfl) (pe_call G_names_behind (hr.mono (by decide)) (by rfl) m_names_behind F_names_behind.kp b_names_behind .nil (passS fun σ => passAt (takes_of rfl rfl rfl rfl) σ) (pa_cons pe_str (pa_cons (pe_make m_Reader___init__ G_Reader___init__ (hr.mono (by decide)) (by rfl) T.mgC b_Reader___init__ .nil (passS fun σ => passAt (takes_of rfl rfl rfl rfl) σ) (pa_cons (pe_ix (ix_listK K rfl) (pv 1) pe_int (fun _ _ => rfl)) (pa_cons pe_int pa_nil))) pa_nil))))
      (pss_cons (ps_set (i := 5) sc_read_formulas.nd rfl (Or.inl rfl) (pe_lst pa_nil))
      (pss_cons (ps_set (i := 6) sc_read_formulas.nd rfl (Or.inl rfl) (pe_lst pa_nil))
      (pss_cons (ps_for (passes_of rfl) rfl (pi_range2 (by rfl) T.m_range (pa_cons pe_int (pa_cons (pv 3) pa_nil))) (pg_name (i := 7) sc_read_formulas.nd rfl (Or.inl rfl))
        (pss_cons (ps_set (i := 8) sc_read_formulas.nd rfl (Or.inl rfl) (pe_make m_Reader___init__ G_Reader___init__ (hr.mono (by decide)) (by rfl) T.mgC b_Reader___init__ .nil (passS fun σ => passAt (takes_of rfl rfl rfl rfl) σ) (pa_cons (pe_ix (ix_listK K rfl) (pv 1) (pv 7) (fun _ _ => rfl)) (pa_cons (pv 7) pa_nil))))
      (pss_one (ps_if (pt_cmpR op_eq (pe_meth0 (pv 8) T.cl m_Reader_ahead G_Reader_ahead (hr.mono (by decide)) b_Reader_ahead .nil pass0) pe_str (nomark _)) (pss_one (ps_expr (pe_bmK K rfl PySem.F.plainAttrs_list PySem.F.slot_list_append PySem.F.type_list_append mt_append (pv 5) (pa_cons (pe_call G_was_row (hr.mono (by decide)) (by rfl) m_was_row F_was_row.kp b_was_row .nil (passS fun σ => passAt (takes_of rfl rfl rfl rfl) σ) (pa_cons (pv 8) pa_nil)) pa_nil)))) (pss_one (ps_expr (pe_bmK K rfl PySem.F.plainAttrs_list PySem.F.slot_list_append PySem.F.type_list_append mt_append (pv 6) (pa_cons (pe_call G_rule_row (hr.mono (by decide)) (by rfl) m_rule_row F_rule_row.kp b_rule_row .nil (passS fun σ => passAt (takes_of rfl rfl rfl rfl) σ) (pa_cons (pv 8) pa_nil)) pa_nil))))))))
      (pss_cons (ps_set (i := 9) sc_read_formulas.nd rfl (Or.inl rfl) (pe_call G_names_behind (hr.mono (by decide)) (by rfl) m_names_behind F_names_behind.kp b_names_behind .nil (passS fun σ => passAt (takes_of rfl rfl rfl rfl) σ) (pa_cons pe_str (pa_cons (pe_make m_Reader___init__ G_Reader___init__ (hr.mono (by decide)) (by rfl) T.mgC b_Reader___init__ .nil (passS fun σ => passAt (takes_of rfl rfl rfl rfl) σ) (pa_cons (pe_ix (ix_listK K rfl) (pv 1) (pv 3) (fun _ _ => rfl)) (pa_cons (pv 3) pa_nil))) pa_nil))))
      (pss_one (ps_ret (pe_tup (pa_cons (pv 4) (pa_cons (pe_callTy (call_tuple_ofK K rfl) (by rfl) T.m_tuple (by decide +kernel) (pa_cons (pv 5) pa_nil)) (pa_cons (pe_callTy (call_tuple_ofK K rfl) (by rfl) T.m_tuple (by decide +kernel) (pa_cons (pv 6) pa_nil)) (pa_cons (pv 9) pa_nil)))))))))))))), ?_⟩
  refine ⟨_, rfl, rfl, _, _, rfl, rfl, by decide +kernel, Nat.le_trans (show a.length + 2 ≤ 8000002 by omega) (by decide), fun p0 np0 => ?_⟩
  have s1 : Same H (upd H p0 (.lst ((Txt.split a "\n").map V.str))) := same_new np0
  have hp0 : (upd H p0 (.lst ((Txt.split a "\n").map V.str))) p0 = some (.lst (rs.map V.str)) := by rw [upd_same, tx.sp]
  generalize upd H p0 (.lst ((Txt.split a "\n").map V.str)) = H1 at s1 hp0 ⊢
  refine ⟨p0, rfl, ⟨_, SqL.of hp0⟩, fun D nD => ?_⟩
  refine lc_list (K := K) (a := p0) (xs := rs.map V.str) (fun i H9 => ∃ lv, H9 D = some (.lst lv) ∧ All2 (LsAt D H9) lv (rws.take i) ∧ Same H1 H9) ⟨[], upd_same, by rw [List.take_zero]; exact .nil, same_new nD⟩ (fun i H9 _ ⟨_, _, _, s9⟩ => SqL.of (s9 _ _ hp0)) ?_ ?_
  · rintro i v H9 hx ⟨lv, hD, al, s9⟩
    rw [List.getElem?_map] at hx
    cases hk : rs[i]? with
    | none => rw [hk] at hx; cases hx
    | some r =>
    rw [hk] at hx
    obtain rfl : V.str r = v := Option.some.inj hx
    obtain ⟨u, hu, eu, lr⟩ := sr.getL hk
    have il := (List.getElem?_eq_some_iff.mp hk).1
    have lal := al.length
    rw [List.length_take] at lal
    refine ⟨rfl, yes_in ⟨_, rfl, rfl, _, _, rfl, rfl, by decide +kernel, Nat.le_trans (show r.length + 2 ≤ 8000002 by omega) (by decide), fun L nL => ?_⟩⟩
    have s10 : Same H9 (upd H9 L (.lst ((Txt.split r " ").map V.str))) := same_new nL
    have hL : (upd H9 L (.lst ((Txt.split r " ").map V.str))) L = some (.lst (u.map V.str)) := by rw [upd_same, eu]
    have LD : L ≠ D := fun z => by rw [z, hD] at nL; cases nL
    generalize upd H9 L (.lst ((Txt.split r " ").map V.str)) = H10 at s10 hL ⊢
    refine ⟨lv, s10 _ _ hD, small1000 (by omega), lv ++ [.ref L], upd_same, ?_, Same.own (s9.trans s10) nD⟩
    rw [List.take_add_one, hu]
    refine (al.imp fun x y z => ?_).snoc ⟨L, rfl, LD, by rw [upd_ne LD]; exact hL⟩
    obtain ⟨L2', e, nn, g⟩ := z
    exact ⟨L2', e, nn, by rw [upd_ne nn]; exact s10 _ _ g⟩
  rintro H2 ⟨lv, hD, al, s2⟩
  rw [List.length_map, List.take_of_length_le (by omega)] at al
  have llv : lv.length = n + 1 := by rw [al.length, en]
  have s02 := s1.trans s2
  -- the last row's number
  refine ⟨_, rfl, D, _, rfl, .inl (SqL.of hD), _, _, rfl, rfl, ?_⟩
  have elast : ((lv.length : Nat) : Int) - 1 = ((n : Nat) : Int) := by rw [llv]; omega
  have rowAt : ∀ {i : Nat}, i < n + 1 → ∃ L : Addr, lv[i]? = some (.ref L) ∧ H2 L = some (.lst ((rwAt rws i).map V.str)) := fun {i} hi => by
    have e : rws[i]? = some (rwAt rws i) := by
      rw [rwAt, List.getD_eq_getElem?_getD, List.getElem?_eq_getElem (by omega)]; rfl
    obtain ⟨v, ev, L, rfl, _, g⟩ := al.get e
    exact ⟨L, ev, g⟩
  have wkAt : ∀ {i : Nat}, i < n + 1 → WOk1 (rwAt rws i) := fun {i} hi => by
    have e : rws[i]? = some (rwAt rws i) := by
      rw [rwAt, List.getD_eq_getElem?_getD, List.getElem?_eq_getElem (by omega)]; rfl
    exact tx.wk _ (List.mem_of_getElem? e)
  -- the reader of a row, and what becomes of it
  obtain ⟨Li, eLi, hLi⟩ := rowAt (i := 0) (by omega)
  have rd0 : ∀ (k : Nat), k < n + 1 → badB rws k = true → (∀ j, j < k → badB rws j = false) → ∀ {H3 H4 : Hp} {M : Addr}, LamX.ExtN H H3 → NoTb H M → BX M H3 H4 → ErrQ K PT M (((k : Nat) : Int)) E H4 := fun k hk bad pre {H3 H4 M} x nM b d H' e b2 t => q2 k d H' (by omega) bad pre e (bx_extT x nM (b.trans b2)) t
  refine ⟨_, rfl, D, _, _, _, rfl, rfl, SqL.of hD, atI_nat (j := 0) eLi, fun M dx nM ndx ne => ?_⟩
  have s3 : Same H2 (upd (upd H2 dx (.own M)) M (.ins C dx [])) := (same_new ndx).trans (same_new (by rw [upd_ne ne.symm]; exact nM))
  have hM3 : (upd (upd H2 dx (.own M)) M (.ins C dx [])) M = some (.ins C dx []) := upd_same
  generalize upd (upd H2 dx (.own M)) M (.ins C dx []) = H3 at s3 hM3 ⊢
  have nTM : NoTb H M := .of (ext_same s02) nM
  have x03 := ext_same (s02.trans s3)
  have tb3 := tb.same (s02.trans s3)
  refine ⟨M, dx, Li, rwAt rws 0, 0, rfl, hM3, s3 _ _ hLi, tb3, fun l40 H4 r4 b4 => ⟨rfl, ?_⟩, fun l40 => rd0 0 (by omega) (by unfold badB; rw [decide_eq_true l40]; rfl) (fun j h => absurd h (Nat.not_lt_zero _)) x03 nTM BX.refl⟩
  have tb4 : Tb2 PT H4 := tb3.butR hM3 b4
  refine ⟨M, "in", rwAt rws 0, 0, rfl, r4, wkAt (by omega), l40, by decide, tb4, fun ins pi H5 hin hpi b5 tb5 => ?_, fun hin => rd0 0 (by omega) (by unfold badB; rw [hin, decide_eq_true rfl]; simp) (fun j h => absurd h (Nat.not_lt_zero _)) x03 nTM (BX.but b4)⟩
  obtain ⟨hdi, rfl⟩ := names_tail hin
  have x25 : LamX.ExtN H2 H5 := bx_ext (ext_same s3) nM ((BX.but b4).trans b5)
  have bad0 : 1 ≤ n → badB rws 0 = false := fun h1 => by
    unfold badB
    rw [decide_eq_false (by omega), hin, decide_eq_false (show ¬ 0 + 1 = rws.length by omega), decide_eq_false (show ¬ 0 < 0 by omega)]
    rfl
  refine ⟨(by show 0 ≤ sizeLine; decide), fun pw npw => ?_⟩
  have s6 : Same H5 (upd H5 pw (.lst [])) := same_new npw
  have hpw6 : (upd H5 pw (.lst [])) pw = some (.lst []) := upd_same
  generalize upd H5 pw (.lst []) = H6 at s6 hpw6 ⊢
  refine ⟨(by show 0 ≤ sizeLine; decide), fun pr npr => ?_⟩
  have s7 : Same H6 (upd H6 pr (.lst [])) := same_new npr
  have hpr7 : (upd H6 pr (.lst [])) pr = some (.lst []) := upd_same
  have prw : pr ≠ pw := fun z => by rw [z, hpw6] at npr; cases npr
  have hpw7 : (upd H6 pr (.lst [])) pw = some (.lst []) := s7 _ _ hpw6
  generalize upd H6 pr (.lst []) = H7 at s7 hpr7 hpw7 ⊢
  have s57 := s6.trans s7
  refine ⟨_, rfl, _, _, rfl, ⟨by decide, by decide, by omega, by omega⟩, ?_⟩
  have x27 : LamX.ExtN H2 H7 := x25.trans (ext_same s57)
  have npw2 : NoTb H2 pw := .of x25 npw
  have npr2 : NoTb H2 pr := .of (x25.trans (ext_same s6)) npr
  have x02 : LamX.ExtN H H2 := ext_same s02
  have ln2 : (((lv.length : Nat) : Int) - 1 - 1).toNat = n - 1 := by omega
  refine for_range (lo := 1) (n := (((lv.length : Nat) : Int) - 1 - 1).toNat) (fun i σ H8 => ∃ (v7 v8 : Option V) (wv rv : List V), σ = [some (.str a), some (.ref D), none, some (.int (((lv.length : Nat) : Int) - 1)), some (.ref pi), some (.ref pw), some (.ref pr), v7, v8, none] ∧ H8 pw = some (.lst wv) ∧ H8 pr = some (.lst rv) ∧ All2 (WaAt H8) wv (wasF rws i) ∧ All2 (RlAt H8) rv (rlsF rws i) ∧ wv.length ≤ i ∧ rv.length ≤ i ∧ LamX.ExtN H2 H8 ∧ Tb2 PT H8 ∧ H8 pi = some (.tup ((rwAt rws 0).tail.map V.str)) ∧ ∀ j, j < i + 1 → j < n → badB rws j = false) ⟨none, none, [], [], rfl, hpw7, hpr7, .nil, .nil, Nat.le_refl _, Nat.le_refl _, x27, tb5.same s57, s57 _ _ hpi, fun j h1 h2 => by
    obtain rfl : j = 0 := by omega
    exact bad0 (by omega)⟩ ?_ ?_
  · rintro i σ H8 hi ⟨v7, v8, wv, rv, rfl, hpw, hpr, aw, ar, lw, lr, x8, tb8, hpi8, pre⟩
    rw [ln2] at hi
    obtain ⟨Lu, eLu, hLu⟩ := rowAt (i := i + 1) (by omega)
    have pre' : ∀ j, j < i + 1 → badB rws j = false := fun j h => pre j h (by omega)
    have hD8 := x8 _ _ hD (fun ps z => nomatch z)
    have e1i : (1 : Int) + ((i : Nat) : Int) = ((i + 1 : Nat) : Int) := by omega
    rw [e1i]
    refine ⟨_, rfl, _, rfl, D, _, _, _, rfl, rfl, SqL.of hD8, atI_nat eLu, _, rfl, fun M dx nM ndx ne => ?_⟩
    have s9 : Same H8 (upd (upd H8 dx (.own M)) M (.ins C dx [])) := (same_new ndx).trans (same_new (by rw [upd_ne ne.symm]; exact nM))
    have hM9 : (upd (upd H8 dx (.own M)) M (.ins C dx [])) M = some (.ins C dx []) := upd_same
    generalize upd (upd H8 dx (.own M)) M (.ins C dx []) = H9 at s9 hM9 ⊢
    have nTM2 : NoTb H M := .of (x02.trans x8) nM
    have x09 := (x02.trans x8).trans (ext_same s9)
    have tb9 := tb8.same s9
    refine ⟨M, dx, Lu, rwAt rws (i + 1), _, rfl, hM9, s9 _ _ (x8 _ _ hLu (fun ps z => nomatch z)), tb9, fun l40 H10 r10 b10 => ⟨rfl, ?_⟩, fun l40 => rd0 (i + 1) (by omega) (by unfold badB; rw [decide_eq_true l40]; rfl) pre' x09 nTM2 BX.refl⟩
    have tb10 : Tb2 PT H10 := tb9.butR hM9 b10
    obtain ⟨d10, L10, g10, _⟩ := id r10
    have b810 : BX M H9 H10 := BX.but b10
    have bad_mid : midO (rwAt rws (i + 1)) = none → badB rws (i + 1) = true := fun h => by
      unfold badB
      rw [h, decide_eq_true (show 0 < i + 1 by omega), decide_eq_true (show i + 1 + 1 < rws.length by omega)]
      simp
    have good_mid : ∀ m, midO (rwAt rws (i + 1)) = some m → badB rws (i + 1) = false := fun m h => by
      unfold badB
      rw [h, decide_eq_false (show ¬ 40 < (rwAt rws (i + 1)).length by omega), decide_eq_false (show ¬ i + 1 = 0 by omega), decide_eq_false (show ¬ i + 1 + 1 = rws.length by omega)]
      simp
    have prest : ∀ m, midO (rwAt rws (i + 1)) = some m → ∀ j, j < i + 1 + 1 → j < n → badB rws j = false := fun m h j h1 h2 => by
      by_cases c : j = i + 1
      · rw [c]; exact good_mid m h
      · exact pre' j (by omega)
    refine ⟨_, rfl, M, d10, _, rfl, g10, rfl, M, rwAt rws (i + 1), _, 0, rfl, r10, rfl, _, rfl, ?_⟩
    rw [hdW_drop]
    refine if_strE (fun cw => ?_) (fun cw => ?_)
    · have cw : (rwAt rws (i + 1)).headD "" = ("was" : Str) := cw
      have em : midO (rwAt rws (i + 1)) = (wasO (rwAt rws (i + 1))).map .inl := if_pos cw
      have pwM : pw ≠ M := fun z => by rw [z, nM] at hpw; cases hpw
      have hpw10 : H10 pw = some (.lst wv) := b10 _ _ (s9 _ _ hpw) pwM
      refine ⟨_, rfl, .inl ⟨rfl, _, SqL.of hpw10⟩, _, rfl, M, rwAt rws (i + 1), _, rfl, r10, wkAt (by omega), l40, tb10, fun p v H11 ep hv b11 tb11 => ?_, fun ep => rd0 (i + 1) (by omega) (bad_mid (by rw [em, ep]; rfl)) pre' x09 nTM2 b810⟩
      have em : midO (rwAt rws (i + 1)) = some (.inl p) := by rw [em, ep]; rfl
      have x11 : LamX.ExtN H8 H11 := bx_ext (ext_same s9) nM (b810.trans b11)
      have hpw11 := x11 _ _ hpw (fun ps z => nomatch z)
      have hpr11 := x11 _ _ hpr (fun ps z => nomatch z)
      have k11 := tk_ext x11
      have kd : TK H11 (upd H11 pw (.lst (wv ++ [v]))) := TK.lst hpw11
      refine ⟨pw, _, _, rfl, rfl, hpw11, small1000 (by omega), _, _, wv ++ [v], rv, rfl, upd_same, by rw [upd_ne prw]; exact hpr11, ?_, ?_, by rw [List.length_append]; show _ + 1 ≤ _; omega, by omega, npw2.own (x8.trans x11), tb11.lstU hpw11, kd _ _ (k11 _ _ hpi8), prest _ em⟩
      · rw [wasF_succ em]
        exact ((aw.imp fun _ _ z => (z.keep k11).keep kd)).snoc (hv.keep kd)
      · rw [rlsF_succ em]
        show All2 _ _ (_ ++ [])
        rw [List.append_nil]
        exact ar.imp fun _ _ z => (z.keep k11).keep kd
    · have cw : ¬ (rwAt rws (i + 1)).headD "" = ("was" : Str) := cw
      have em : midO (rwAt rws (i + 1)) = (ruleO (rwAt rws (i + 1))).map .inr := if_neg cw
      have prM : pr ≠ M := fun z => by rw [z, nM] at hpr; cases hpr
      have hpr10 : H10 pr = some (.lst rv) := b10 _ _ (s9 _ _ hpr) prM
      refine ⟨_, rfl, .inl ⟨rfl, _, SqL.of hpr10⟩, _, rfl, M, rwAt rws (i + 1), _, rfl, r10, wkAt (by omega), l40, tb10, fun p v H11 ep hv b11 tb11 => ?_, fun ep => rd0 (i + 1) (by omega) (bad_mid (by rw [em, ep]; rfl)) pre' x09 nTM2 b810⟩
      have em : midO (rwAt rws (i + 1)) = some (.inr p) := by rw [em, ep]; rfl
      have x11 : LamX.ExtN H8 H11 := bx_ext (ext_same s9) nM (b810.trans b11)
      have hpw11 := x11 _ _ hpw (fun ps z => nomatch z)
      have hpr11 := x11 _ _ hpr (fun ps z => nomatch z)
      have k11 := tk_ext x11
      have kd : TK H11 (upd H11 pr (.lst (rv ++ [v]))) := TK.lst hpr11
      refine ⟨pr, _, _, rfl, rfl, hpr11, small1000 (by omega), _, _, wv, rv ++ [v], rfl, by rw [upd_ne prw.symm]; exact hpw11, upd_same, ?_, ?_, by omega, by rw [List.length_append]; show _ + 1 ≤ _; omega, npr2.own (x8.trans x11), tb11.lstU hpr11, kd _ _ (k11 _ _ hpi8), prest _ em⟩
      · rw [wasF_succ em]
        show All2 _ _ (_ ++ [])
        rw [List.append_nil]
        exact aw.imp fun _ _ z => (z.keep k11).keep kd
      · rw [rlsF_succ em]
        exact ((ar.imp fun _ _ z => (z.keep k11).keep kd)).snoc (hv.keep kd)
  · rintro σ H8 ⟨v7, v8, wv, rv, rfl, hpw, hpr, aw, ar, lw, lr, x8, tb8, hpi8, pre⟩
    rw [ln2] at aw ar lw lr pre
    -- outs
    obtain ⟨Lo, eLo, hLo⟩ := rowAt (i := n) (by omega)
    have pre' : ∀ j, j < n → badB rws j = false := fun j h => pre j (by omega) h
    have hD8 := x8 _ _ hD (fun ps z => nomatch z)
    refine ⟨_, rfl, _, rfl, D, _, _, _, rfl, rfl, SqL.of hD8, (by rw [elast]; exact atI_nat eLo), _, rfl, fun M dx nM ndx ne => ?_⟩
    have s9 : Same H8 (upd (upd H8 dx (.own M)) M (.ins C dx [])) := (same_new ndx).trans (same_new (by rw [upd_ne ne.symm]; exact nM))
    have hM9 : (upd (upd H8 dx (.own M)) M (.ins C dx [])) M = some (.ins C dx []) := upd_same
    generalize upd (upd H8 dx (.own M)) M (.ins C dx []) = H9 at s9 hM9 ⊢
    have nTM2 : NoTb H M := .of (x02.trans x8) nM
    have x09 := (x02.trans x8).trans (ext_same s9)
    have tb9 := tb8.same s9
    refine ⟨M, dx, Lo, rwAt rws n, ((n : Nat) : Int), (by show [V.ref M, V.ref Lo, V.int (((lv.length : Nat) : Int) - 1)] = _; rw [elast]), hM9, s9 _ _ (x8 _ _ hLo (fun ps z => nomatch z)), tb9, fun l40' H10 r10 b10 => ⟨rfl, ?_⟩, fun l40' => rd0 n (by omega) (by unfold badB; rw [decide_eq_true l40']; rfl) pre' x09 nTM2 BX.refl⟩
    have tb10 : Tb2 PT H10 := tb9.butR hM9 b10
    refine ⟨M, "out", rwAt rws n, _, rfl, r10, wkAt (by omega), l40', by decide, tb10, fun outs po H11 hout hpo b11 tb11 => ?_, fun hout => rd0 n (by omega) (by unfold badB; rw [hout, decide_eq_true (show n + 1 = rws.length by omega)]; simp) pre' x09 nTM2 (BX.but b10)⟩
    obtain ⟨hdo, rfl⟩ := names_tail hout
    have n1 : 1 ≤ n := by
      rcases Nat.eq_zero_or_pos n with rfl | h
      · rw [hdi] at hdo
        exact absurd hdo (by decide)
      · exact h
    have badn : badB rws n = false := by
      unfold badB
      rw [hout, decide_eq_false (show ¬ 40 < (rwAt rws n).length by omega), decide_eq_false (show ¬ n = 0 by omega), decide_eq_false (show ¬ n + 1 < rws.length by omega)]
      simp
    have x11 : LamX.ExtN H8 H11 := bx_ext (ext_same s9) nM ((BX.but b10).trans b11)
    have k11 := tk_ext x11
    have hpw11 := x11 _ _ hpw (fun ps z => nomatch z)
    have hpr11 := x11 _ _ hpr (fun ps z => nomatch z)
    refine ⟨_, rfl, _, rfl, pw, _, rfl, .inl ⟨SqL.of hpw11, fun t1 nt1 => ?_⟩⟩
    have s12 : Same H11 (upd H11 t1 (.tup wv)) := same_new nt1
    have ht1 : (upd H11 t1 (.tup wv)) t1 = some (.tup wv) := upd_same
    generalize upd H11 t1 (.tup wv) = H12 at s12 ht1 ⊢
    refine ⟨_, rfl, pr, _, rfl, .inl ⟨SqL.of (s12 _ _ hpr11), fun t2 nt2 => ?_⟩⟩
    have s13 : Same H12 (upd H12 t2 (.tup rv)) := same_new nt2
    have ht2 : (upd H12 t2 (.tup rv)) t2 = some (.tup rv) := upd_same
    generalize upd H12 t2 (.tup rv) = H13 at s13 ht2 ⊢
    refine ⟨_, rfl, (by show 4 ≤ sizeLine; decide), fun t3 nt3 => ?_⟩
    have s14 : Same H13 (upd H13 t3 (.tup [.ref pi, .ref t1, .ref t2, .ref po])) := same_new nt3
    have s114 := s12.trans (s13.trans s14)
    have k814 := k11.trans (TK.same s114)
    have e2 : rws.length - 2 = n - 1 := by omega
    have e3 : rws.length - 1 = n := by omega
    refine q1 t3 _ (fun k hk => ?_) ⟨pi, t1, t2, po, wv, rv, upd_same, k814 _ _ hpi8, s14 _ _ (s13 _ _ ht1), ?_, s14 _ _ ht2, ?_, ?_⟩ ((((ext_same s02).trans x8).trans x11).trans (ext_same s114)) (tb11.same s114)
    · by_cases c : k = n
      · rw [c]; exact badn
      · exact pre' k (by omega)
    · show All2 _ _ (wasF rws (rws.length - 2))
      rw [e2]
      exact aw.imp fun _ _ z => z.keep k814
    · show All2 _ _ (rlsF rws (rws.length - 2))
      rw [e2]
      exact ar.imp fun _ _ z => z.keep k814
    · show _ = some (HO.tup ((rwAt rws (rws.length - 1)).tail.map V.str))
      rw [e3]
      exact s114 _ _ hpo
end
/-! ### how trees are written -/
def numW (z : Str) (i : Int) : Prop := numO z.cps.toList = some i ∧ z.length ≤ 100
def namW (z : Str) : Prop := nameB z = true ∧ z.length ≤ 100
def W2.pm : W2 → Option Str
  | .sum => some "+"
  | .gap => some "-"
  | _ => none
def W2.ml : W2 → Bool
  | .most => true
  | .least => true
  | _ => false
/-- words that write a tree: at level 0 whole, 1 sum, 2 times, 3 small; h bounds the calls -/
inductive Rd : Nat → Tr → List Str → Nat → Prop
  | up {l : Nat} {t : Tr} {ws : List Str} {h : Nat} : l < 3 → Rd (l + 1) t ws h → Rd l t ws (h + 1)
  | par {t : Tr} {ws : List Str} {h : Nat} : Rd 0 t ws h → Rd 3 t (("(" : Str) :: (ws ++ [(")" : Str)])) (h + 2)
  | num {z : Str} {i : Int} {h : Nat} : numW z i → Rd 3 (.no i) [z] h
  | nam {z : Str} {h : Nat} : namW z → Rd 3 (.nm z 0) [z] h
  | ago {z y : Str} {k h : Nat} : namW z → numW y ((k + 1 : Nat) : Int) → Rd 3 (.nm z (k + 1)) [z, ("@" : Str), y] h
  | two {w : W2} {a b : Tr} {u v : List Str} {h : Nat} : w.ml = true → Rd 0 a u h → Rd 0 b v h → Rd 3 (.o2 w a b) (w.s :: ("(" : Str) :: (u ++ ("," : Str) :: (v ++ [(")" : Str)]))) (h + 2)
  | times {z : Str} {k : Int} {t : Tr} {u : List Str} {h : Nat} : numW z k → Rd 3 t u h → Rd 2 (.tm k t) (z :: ("*" : Str) :: u) (h + 1)
  | sum {w : W2} {s : Str} {a b : Tr} {u v : List Str} {h : Nat} : w.pm = some s → Rd 1 a u (h + 1) → Rd 2 b v h → Rd 1 (.o2 w a b) (u ++ s :: v) (h + 1)
  | less {a b : Tr} {u v : List Str} {h : Nat} : Rd 1 a u h → Rd 1 b v h → Rd 0 (.o2 .below a b) (u ++ ("<" : Str) :: v) (h + 1)
  | pick {a b c : Tr} {u v x : List Str} {h : Nat} : Rd 0 a u h → Rd 0 b v h → Rd 0 c x h → Rd 0 (.o3 a b c) (("if" : Str) :: (u ++ ("then" : Str) :: (v ++ ("else" : Str) :: x))) (h + 2)
/-- a word that does not go on with what was read at a level -/
def St (l : Nat) (z : Str) : Prop := z ≠ "@" ∧ (l ≤ 2 → z ≠ "*") ∧ (l ≤ 1 → z ≠ "+" ∧ z ≠ "-") ∧ (l = 0 → z ≠ "<")
theorem St.up {l : Nat} {z : Str} (h : St l z) : St (l + 1) z := ⟨h.1, fun g => h.2.1 (by omega), fun g => h.2.2.1 (by omega), fun g => by omega⟩
theorem St.three {l : Nat} {z : Str} (h : St l z) : St 3 z := ⟨h.1, fun g => by omega, fun g => by omega, fun g => by omega⟩
theorem St.two {l : Nat} {z : Str} (h : St l z) (g : l ≤ 2) : St 2 z := ⟨h.1, fun _ => h.2.1 g, fun g => by omega, fun g => by omega⟩
theorem st_then : St 0 "then" := by unfold St; decide +kernel
theorem st_else : St 0 "else" := by unfold St; decide +kernel
theorem st_comma : St 0 "," := by unfold St; decide +kernel
theorem st_close : St 0 ")" := by unfold St; decide +kernel
theorem st_less : St 1 "<" := by unfold St; decide +kernel
theorem st_star : St 3 "*" := by unfold St; decide +kernel
theorem st_plus {w : W2} {s : Str} (h : w.pm = some s) : St 2 s := by
  cases w <;> cases h <;> (unfold St; decide +kernel)
theorem name_no {z : Str} (h : nameB z = true) : numO z.cps.toList = none := by
  unfold nameB at h
  split at h
  · cases h
  · rename_i c
    rw [Bool.and_eq_true] at h
    obtain ⟨_, h2⟩ := h
    rw [List.all_eq_true] at h2
    have lz : z.length = z.cps.toList.length := strlen z
    obtain ⟨d, r, e⟩ : ∃ d r, z.cps.toList = d :: r := by
      cases hl : z.cps.toList with
      | nil => rw [hl] at lz; exact absurd (.inl (by rw [lz]; decide)) c
      | cons d r => exact ⟨d, r, rfl⟩
    have hd : d ∈ letS.cps.toList := of_decide_eq_true (h2 d (by rw [e]; exact List.mem_cons_self ..))
    have dl : 97 ≤ d ∧ d ≤ 122 := letters_ok d hd
    have f1 : figL z.cps.toList = z.cps.toList := by
      unfold figL
      rw [e, if_neg]
      show ¬ some d = some 45
      intro q
      have := Option.some.inj q
      omega
    have nf : z.cps.toList.all isFig = false := by
      rw [Bool.eq_false_iff]
      intro q
      have := isFig_iff.mp (List.all_eq_true.mp q d (by rw [e]; exact List.mem_cons_self ..))
      omega
    unfold numO
    rw [f1]
    split
    · rfl
    · first | rfl | rw [if_pos nf]
theorem name_ne {z y : Str} (h : nameB z = true) (m : nameB y = false) : z ≠ y := fun e => by rw [e, m] at h; cases h
theorem num_ne {z y : Str} {i : Int} (h : numW z i) (m : numO y.cps.toList = none) : z ≠ y := fun e => by
  have := h.1
  rw [e, m] at this
  cases this
theorem nm_if : nameB "if" = false := by decide +kernel
theorem nm_open : nameB "(" = false := by decide +kernel
theorem nm_most : nameB "most" = false := by decide +kernel
theorem nm_least : nameB "least" = false := by decide +kernel
theorem no_if : numO ("if" : Str).cps.toList = none := by decide +kernel
theorem no_open : numO ("(" : Str).cps.toList = none := by decide +kernel
theorem no_most : numO ("most" : Str).cps.toList = none := by decide +kernel
theorem no_least : numO ("least" : Str).cps.toList = none := by decide +kernel
/-- no sum begins with if -/
theorem Rd.head {l : Nat} {t : Tr} {w : List Str} {h : Nat} (r : Rd l t w h) : 1 ≤ l → ∃ z u, w = z :: u ∧ z ≠ "if" := by
  induction r with
  | up _ _ ih => intro _; exact ih (by omega)
  | par _ _ => intro _; exact ⟨_, _, rfl, by decide +kernel⟩
  | num g => intro _; exact ⟨_, _, rfl, num_ne g no_if⟩
  | nam g => intro _; exact ⟨_, _, rfl, name_ne g.1 nm_if⟩
  | ago g _ => intro _; exact ⟨_, _, rfl, name_ne g.1 nm_if⟩
  | @two w a b u v h g _ _ _ _ =>
    intro _
    refine ⟨_, _, rfl, ?_⟩
    cases w <;> first | exact absurd g (by decide) | decide +kernel
  | times g _ _ => intro _; exact ⟨_, _, rfl, num_ne g no_if⟩
  | sum _ _ _ ih _ =>
    intro _
    obtain ⟨z, u, rfl, n⟩ := ih (Nat.le_refl 1)
    exact ⟨z, _, rfl, n⟩
  | less _ _ _ _ => intro g; omega
  | pick _ _ _ _ _ _ => intro g; omega
/-- a sum's chain: its first link and those behind it -/
inductive Chn (h : Nat) : Tr → List Str → Tr → Prop
  | nil {t : Tr} : Chn h t [] t
  | snoc {t0 a b : Tr} {w : W2} {s : Str} {u v : List Str} : Chn h t0 u a → w.pm = some s → Rd 2 b v h → Chn h t0 (u ++ s :: v) (.o2 w a b)
theorem Rd.chain {t : Tr} {w : List Str} {h : Nat} (r : Rd 1 t w (h + 1)) : ∃ t0 u v, w = u ++ v ∧ Rd 2 t0 u h ∧ Chn h t0 v t := by
  generalize eh : h + 1 = h1 at r
  generalize el : (1 : Nat) = l at r
  induction r with
  | up _ g _ =>
    subst el
    obtain rfl := Nat.succ.inj eh
    exact ⟨_, _, [], (List.append_nil _).symm, g, .nil⟩
  | sum p a b ih _ =>
    obtain rfl := Nat.succ.inj eh
    obtain ⟨t0, u, v, rfl, g, c⟩ := ih rfl rfl
    exact ⟨t0, u, _, List.append_assoc .., g, .snoc c p b⟩
  | _ => omega
/-- a chain from its first link on -/
inductive ChF (h : Nat) : Tr → List Str → Tr → Prop
  | nil {t : Tr} : ChF h t [] t
  | cons {a b t : Tr} {w : W2} {s : Str} {v u : List Str} : w.pm = some s → Rd 2 b v h → ChF h (.o2 w a b) u t → ChF h a (s :: (v ++ u)) t
theorem ChF.snoc {h : Nat} {t0 a b : Tr} {u v : List Str} {w : W2} {s : Str} (c : ChF h t0 u a) (p : w.pm = some s) (r : Rd 2 b v h) : ChF h t0 (u ++ s :: v) (.o2 w a b) := by
  induction c with
  | @nil a1 =>
    have := ChF.cons (a := a1) (u := []) p r (.nil (t := .o2 w a1 b))
    rwa [List.append_nil] at this
  | cons p1 r1 _ ih =>
    rw [List.cons_append, List.append_assoc]
    exact .cons p1 r1 ih
theorem Chn.front {h : Nat} {t0 t : Tr} {u : List Str} (c : Chn h t0 u t) : ChF h t0 u t := by
  induction c with
  | nil => exact .nil
  | snoc _ p r ih => exact ih.snoc p r
/-! ### where a reader stands -/
def WOk (ws : List Str) : Prop := ∀ z ∈ ws, z.length ≤ 100
theorem hd_drop {ws : List Str} {k : Nat} {z : Str} {r : List Str} (h : ws.drop k = z :: r) : hdW ws k = z ∧ ws.drop (k + 1) = r := by
  have e : ws[k]? = some z := by
    have := congrArg (fun l : List Str => l[0]?) h
    simpa using this
  refine ⟨hdW_at e, ?_⟩
  rw [← List.drop_drop, h]; rfl
theorem hd_rest {ws : List Str} {k : Nat} {r : List Str} (h : ws.drop k = r) : hdW ws k = r.headD "" := by
  cases r with
  | nil =>
    unfold hdW
    rw [List.getElem?_eq_none (by have := congrArg List.length h; rw [List.length_drop, List.length_nil] at this; omega)]; rfl
  | cons z r => rw [(hd_drop h).1]; rfl
theorem drop_app {ws : List Str} {k : Nat} {w r : List Str} (h : ws.drop k = w ++ r) : ws.drop (k + w.length) = r := by
  rw [← List.drop_drop, h, List.drop_left' rfl]
theorem WOk.hd {ws : List Str} (h : WOk ws) (k : Nat) : (hdW ws k).length ≤ 100 := by
  unfold hdW
  cases e : ws[k]? with
  | none => decide
  | some z => exact h z (List.mem_of_getElem? e)
/-! ### texts of drawn formulas -/
/-- the words of a row between the first and the last -/
def RwOk (u : List Str) : Mid → Prop
  | .inl p => ∃ ys, u = ("was" : Str) :: p.1 :: (":" : Str) :: ys ∧ namW p.1 ∧ All2 numW ys p.2
  | .inr p => ∃ v, u = p.1 :: ("=" : Str) :: v ∧ namW p.1 ∧ Rd 0 p.2 v 120
structure TxOk (a : Str) (rs : List Str) (ins outs : List Str) (mid : List (List Str)) (ms : List Mid) : Prop where
  la : a.length ≤ 1000000
  sp : Txt.split a "\n" = rs
  sr : All2 (fun r ws => Txt.split r " " = ws ∧ r.length ≤ 1000000) rs ((("in" : Str) :: ins) :: (mid ++ [("out" : Str) :: outs]))
  mi : All2 RwOk mid ms
  mw : ∀ u ∈ mid, u.length ≤ 40 ∧ WOk u
  hi : ∀ z ∈ ins, namW z
  ho : ∀ z ∈ outs, namW z
  li : ins.length ≤ 39
  lo : outs.length ≤ 39
  lm : mid.length ≤ 100
theorem nm_was : nameB "was" = false := by decide +kernel
theorem fn_no {P : Program} {w : World} {K : PySem.W.Frag} {mg : Str → Option Value} {base : Heap} {j : Nat} {f : Addr} {fd : FuncData} {ps : List Str} {sp : Sp} (no : ∀ vs H Q E, ¬ sp vs H Q E) : FnOk P w K mg base CX0 j f fd ps sp := fn_noX no
/-! ### data of known size -/
structure Neat (d : PyData) (dp wt : Nat) : Prop where
  lay : d.canLay0 = true
  dep : d.depth ≤ dp
  wei : d.weight ≤ wt
  sho : d.intsShort 13 = true
  say : d.showable = true
  nod : d.hasDict = false
structure NeatAll (ds : List PyData) (dp wt : Nat) : Prop where
  lay : PyData.canLayAll0 ds = true
  dep : PyData.depthAll ds ≤ dp
  wei : PyData.weightAll ds ≤ wt
  sho : PyData.intsShortAll 13 ds = true
  say : PyData.showableAll ds = true
  nod : PyData.hasDictAll ds = false
theorem Neat.non {dp : Nat} : Neat .none dp 0 := ⟨rfl, Nat.zero_le _, Nat.le_refl _, by simp [PyData.intsShort], by simp [PyData.showable], by simp [PyData.hasDict]⟩
theorem Neat.bool {b : Bool} {dp : Nat} : Neat (.bool b) dp 0 := ⟨rfl, Nat.zero_le _, Nat.le_refl _, by simp [PyData.intsShort], by simp [PyData.showable], by simp [PyData.hasDict]⟩
theorem Neat.int {i : Int} {dp : Nat} (h : i.natAbs < 10 ^ 12) : Neat (.int i) dp 41 := by
  have l : i.natAbs.log2 < 40 := by
    by_cases z : i.natAbs = 0
    · rw [z]; decide
    · exact (Nat.log2_lt z).mpr (Nat.lt_trans h (by decide))
  refine ⟨rfl, Nat.zero_le _, ?_, ?_, ?_, by simp [PyData.hasDict]⟩
  · simp only [PyData.weight]
    split <;> omega
  · simp only [PyData.intsShort, decide_eq_true_eq]
    exact PyData.shown_int_le h
  · simp only [PyData.showable, decide_eq_true_eq]
    omega
theorem Neat.str {x : Str} {n dp : Nat} (h : PyData.canLay0 (.str x) = true) (hn : x.cps.size ≤ n) : Neat (.str x) dp n := ⟨h, Nat.zero_le _, hn, by simp [PyData.intsShort], by simp [PyData.showable], by simp [PyData.hasDict]⟩
theorem NeatAll.nil {dp : Nat} : NeatAll [] dp 0 := ⟨rfl, Nat.zero_le _, Nat.le_refl _, by simp [PyData.intsShortAll], by simp [PyData.showableAll], by simp [PyData.hasDictAll]⟩
theorem NeatAll.cons {d : PyData} {ds : List PyData} {dp a b : Nat} (h : Neat d dp a) (t : NeatAll ds dp b) : NeatAll (d :: ds) dp (a + 1 + b) := by
  refine ⟨?_, ?_, ?_, ?_, ?_, ?_⟩
  · simp only [PyData.canLayAll0, h.lay, t.lay, Bool.and_self]
  · simp only [PyData.depthAll]
    exact Nat.max_le.mpr ⟨h.dep, t.dep⟩
  · simp only [PyData.weightAll]
    have := h.wei
    have := t.wei
    omega
  · simp only [PyData.intsShortAll, h.sho, t.sho, Bool.and_self]
  · simp only [PyData.showableAll, h.say, t.say, Bool.and_self]
  · simp only [PyData.hasDictAll, h.nod, t.nod, Bool.or_self]
theorem Neat.mono {d : PyData} {a b c e : Nat} (h : Neat d a b) (x : a ≤ c) (y : b ≤ e) : Neat d c e := ⟨h.lay, Nat.le_trans h.dep x, Nat.le_trans h.wei y, h.sho, h.say, h.nod⟩
theorem NeatAll.mono {d : List PyData} {a b c e : Nat} (h : NeatAll d a b) (x : a ≤ c) (y : b ≤ e) : NeatAll d c e := ⟨h.lay, Nat.le_trans h.dep x, Nat.le_trans h.wei y, h.sho, h.say, h.nod⟩
theorem Neat.tup {ds : List PyData} {dp n : Nat} (h : NeatAll ds dp n) : Neat (.tuple ds) (dp + 1) n := by
  refine ⟨?_, ?_, ?_, ?_, ?_, ?_⟩
  · simp only [PyData.canLay0, h.lay]
  · simp only [PyData.depth]
    have := h.dep
    omega
  · simp only [PyData.weight]
    exact h.wei
  · simp only [PyData.intsShort, h.sho]
  · simp only [PyData.showable, h.say]
  · simp only [PyData.hasDict, h.nod]
theorem Neat.lst {ds : List PyData} {dp n : Nat} (h : NeatAll ds dp n) : Neat (.list ds) (dp + 1) n := by
  refine ⟨?_, ?_, ?_, ?_, ?_, ?_⟩
  · simp only [PyData.canLay0, h.lay]
  · simp only [PyData.depth]
    have := h.dep
    omega
  · simp only [PyData.weight]
    exact h.wei
  · simp only [PyData.intsShort, h.sho]
  · simp only [PyData.showable, h.say]
  · simp only [PyData.hasDict, h.nod]
theorem NeatAll.map {α : Type} {f : α → PyData} {dp n : Nat} : ∀ {l : List α}, (∀ x ∈ l, Neat (f x) dp n) → NeatAll (l.map f) dp (l.length * (n + 1))
  | [], _ => by rw [List.length_nil, Nat.zero_mul]; exact .nil
  | x :: l, h => by
    have t : NeatAll (l.map f) dp (l.length * (n + 1)) := NeatAll.map fun y hy => h y (List.mem_cons_of_mem _ hy)
    have := NeatAll.cons (h x (List.mem_cons_self ..)) t
    refine NeatAll.mono this (Nat.le_refl _) ?_
    rw [List.length_cons, Nat.add_mul]
    omega
theorem Neat.shaped {d : PyData} {dp n : Nat} (h : Neat d dp n) (k : dp ≤ 60) : SeqAt.shaped d = true := by
  unfold SeqAt.shaped
  rw [h.lay, Bool.true_and]
  exact decide_eq_true (by have := h.dep; omega)
theorem Neat.fits {d : PyData} {dp n : Nat} (h : Neat d dp n) (k : dp ≤ 60) (m : n ≤ 1000000) : d.shown.length ≤ sizeLine := by
  refine PyData.shown_fits_of_layable0 (B := 13) (by decide) (by decide) ?_ h.sho
  have a : d.canLay0 = true := h.lay
  have b : decide (d.depth ≤ 64) = true := decide_eq_true (by have := h.dep; omega)
  have c : decide (d.weight ≤ 2 ^ 20) = true := decide_eq_true (by have := h.wei; omega)
  unfold PyData.layable0
  rw [a, b, c]
  rfl
theorem dp_ints {K : PySem.W.Frag} {H : Hp} : ∀ ns : List Int, DpAll K H (ns.map V.int) (ns.map PyData.int)
  | [] => .nil
  | n :: ns => .cons (.int n) (dp_ints ns)
theorem dp_nats {K : PySem.W.Frag} {H : Hp} : ∀ ns : List Nat, DpAll K H (ns.map nV) (ns.map fun n => PyData.int ((n : Nat) : Int))
  | [] => .nil
  | n :: ns => .cons (.int _) (dp_nats ns)
theorem eqv_nil {ds : List PyData} : PyData.eqvAll ds [] = ds.isEmpty := by cases ds <;> rfl
def ZA : Str := "zyxwvutsrqponmlkjihgfedcba"
def zaS (j : Nat) : Str := ⟨#[122 - j]⟩
theorem za_at : ∀ j < 26, (cps ZA)[j]? = some (122 - j) := by decide +kernel
theorem zaS_inj {i j : Nat} (hi : i < 26) (hj : j < 26) (h : zaS i = zaS j) : i = j := by
  have : cps (zaS i) = cps (zaS j) := by rw [h]
  have : [122 - i] = [122 - j] := this
  have := (List.cons.inj this).1
  omega
theorem zaS_wd {j : Nat} (h : j < 26) : Wd 6 (zaS j) := ⟨Nat.le_refl 1, (by show 1 ≤ 6; decide), fun c hc => by
  obtain rfl : c = 122 - j := List.mem_singleton.mp hc
  omega⟩
theorem za_few {s : Nat} {forb : List Str} (hs : s < 26) (h : ∀ j, j < s → zaS j ∈ forb) : s ≤ forb.length := by
  have := few_in (l := (List.range s).map zaS) (m := forb) ?_ ?_
  · rwa [List.length_map, List.length_range] at this
  · rw [List.nodup_iff_pairwise_ne, List.pairwise_map]
    exact List.Pairwise.imp_of_mem (fun {a b} ha hb n e => n (zaS_inj (by have := List.mem_range.mp ha; omega) (by have := List.mem_range.mp hb; omega) e)) (List.nodup_iff_pairwise_ne.mp List.nodup_range)
  · intro x hx
    obtain ⟨j, hj, rfl⟩ := List.mem_map.mp hx
    exact h j (List.mem_range.mp hj)
theorem cut6 {z : Str} (h : z.length ≤ 6) : cutS z none (some 6) = z := by
  refine str_inj ?_
  unfold cutS
  show (List.take _ (List.drop _ (cps z))) = cps z
  rw [show (6 : Int) = ((6 : Nat) : Int) from rfl, HT.sIx_nat, HT.sIx_none, List.drop_zero, Nat.sub_zero, Nat.min_eq_right h, List.take_of_length_le (by rw [← strlen]; exact Nat.le_refl _)]
theorem Wd.cat {a b : Nat} {x y : Str} (h : Wd a x) (g : Wd b y) : Wd (a + b) (x ++ y) := by
  have e : (x ++ y).length = x.length + y.length := Array.size_append ..
  refine ⟨by rw [e]; have := h.lo; omega, by rw [e]; exact Nat.add_le_add h.hi g.hi, fun c hc => ?_⟩
  have hc : c ∈ (x.cps ++ y.cps).toList := hc
  rw [Array.toList_append] at hc
  rcases List.mem_append.mp hc with z | z
  · exact h.ltr c z
  · exact g.ltr c z
theorem mul_one (z : Str) : Txt.mul z 1 = z := rfl
theorem mulOk_one (z : Str) : MulOk z 1 := ⟨by decide, fun _ h => by simp at h, fun _ h => by simp at h⟩
theorem flat_strs (l : List Str) : (l.map V.str).all flatV = true := List.all_eq_true.mpr fun x hx => by
  obtain ⟨y, _, rfl⟩ := List.mem_map.mp hx
  rfl
theorem or_in {K : PySem.W.Frag} {nm : Str} {ns : List Str} {p : Addr} {σ : L2.St} {H : Hp} {Q : Bool → Hp → Prop} (h5 : σ[5]? = some (some (.str nm))) (h2 : σ[2]? = some (some (.ref p))) (hp : H p = some (.lst (ns.map V.str))) (yes : ∀ Hx, Same H Hx → nm ∈ ns ++ takL → Q true Hx) (no : ∀ Hx, Same H Hx → nm ∉ ns ++ takL → Q false Hx) :
    tOr (tTest (tOp (rIn K false) (tVar 5) (tVar 2))) (tTest (tOp (rIn K false) (tVar 5) (tCall (sp_law_taken K) [] E0 tNil))) σ H Q := by
  refine ⟨_, h5, _, h2, p, _, rfl, .inl (SqL.of hp), rfl, flat_strs ns, _, rfl, if_in (zs := ns) (fun e => ?_) (fun e => ?_)⟩
  · exact yes H (Same.refl _) (List.mem_append.mpr (.inl e))
  · refine ⟨_, h5, rfl, fun p2 H1 np hp1 s1 => ⟨p2, _, rfl, .inl (SqL.of hp1), rfl, flat_strs takL, _, rfl, ?_⟩⟩
    cases c : inV (.str nm) (takL.map V.str) with
    | true => exact yes H1 s1 (List.mem_append.mpr (.inr (inV_strs.mp c)))
    | false => exact no H1 s1 fun z => (List.mem_append.mp z).elim e fun z => by rw [inV_strs.mpr z] at c; cases c
section
variable {P : Program} {w : World} {K : PySem.W.Frag} {mg : Str → Option Value} {base : Heap}
def sp_law_names (K : PySem.W.Frag) : Sp := fun vs H Q _ => ∃ (f c : Addr) (m : Nat), vs = [.ref f, nV m] ∧ 1 ≤ m ∧ m ≤ 9 ∧ Flow H f c ∧ ∀ (p : Addr) (ns : List Str) (H' : Hp), H p = none → H' p = some (.lst (ns.map V.str)) → ns.length = m → ns.Nodup → (∀ z ∈ ns, Wd 6 z ∧ z ∉ takL) → Flow H' f c → But f H H' → Q (.ref p) H'
theorem ok_law_names {f : Addr} {fd : FuncData} (F : Fun K "_law_names" "_law_names" s_law_names f fd) {C : Addr} (T : Top w K mg C) : FnOk P w K mg base CX0 3 f fd ["_law_flow_here", "_law_many"] (sp_law_names K) := by
  obtain ⟨f_law_word, fd_law_word, F_law_word, b_law_word, m_law_word⟩ := T.d_law_word
  have G_law_word := ok_law_word (P := P) (w := w) (base := base) F_law_word T
  obtain ⟨f_law_pick, fd_law_pick, F_law_pick, b_law_pick, m_law_pick⟩ := T.d_law_pick
  have G_law_pick := ok_law_pick (P := P) (w := w) (base := base) F_law_pick T
  obtain ⟨f_law_taken, fd_law_taken, F_law_taken, b_law_taken, m_law_taken⟩ := T.d_law_taken
  have G_law_taken := ok_law_taken (P := P) (w := w) (base := base) F_law_taken T
  refine F.ok sc_law_names (fun vs H Q E h => ?_) (fun cdv A outer s H vs Q E hr h => ?_)
  · obtain ⟨f, c, m, rfl, _⟩ := h
    rfl
  obtain ⟨f, c, mm, rfl, mm1, mm9, hF, q⟩ := h
  refine ⟨_, (pss_cons (ps_set (i := 2) sc_law_names.nd rfl (Or.inl rfl) (pe_lst pa_nil))
      (pss_cons (ps_set (i := 3) sc_law_names.nd rfl (Or.inl rfl) (pe_call G_law_word (hr.mono (by decide)) (by rfl) m_law_word F_law_word.kp b_law_word .nil pass0 (pa_cons (pv 0) (pa_cons pe_int pa_nil))))
      (pss_cons (ps_for PassesOwn.never rfl (pi_range1 (by rfl) T.m_range (pa_cons (pv 1) pa_nil)) (pg_name (i := 4) sc_law_names.nd rfl (Or.inl rfl))
        (pss_cons (ps_set (i := 5) sc_law_names.nd rfl (Or.inl rfl) (pe_ix (ix_listK K rfl) (pe_lst (pa_cons (pe_call G_law_word (hr.mono (by decide)) (by rfl) m_law_word F_law_word.kp b_law_word .nil pass0 (pa_cons (pv 0) (pa_cons pe_int pa_nil))) (pa_cons (pe_slice sl_str (pe_op op_add_str (pv 3) (pe_call G_law_word (hr.mono (by decide)) (by rfl) m_law_word F_law_word.kp b_law_word .nil pass0 (pa_cons (pv 0) (pa_cons pe_int pa_nil)))) po_none (po_some pe_int)) (pa_cons (pv 3) pa_nil)))) (pe_call G_law_pick (hr.mono (by decide)) (by rfl) m_law_pick F_law_pick.kp b_law_pick .nil pass0 (pa_cons (pv 0) (pa_cons pe_int pa_nil))) (fun _ _ => rfl)))
      (pss_cons (ps_set (i := 6) sc_law_names.nd rfl (Or.inl rfl) pe_int)
      (pss_cons (ps_while PassesOwn.never (PW.pt (pw_or (pt_cmpR (op_in_seqK K rfl) (pv 5) (pv 2) (by with_unfolding_all rfl)) (pw_or1 (pt_cmpR (op_in_seqK K rfl) (pv 5) (pe_call0 G_law_taken (hr.mono (by decide)) (by rfl) m_law_taken F_law_taken.kp b_law_taken .nil pass0) (by with_unfolding_all rfl)))))
        (pss_cons (ps_set (i := 5) sc_law_names.nd rfl (Or.inl rfl) (pe_op op_rep_str (pe_ix ix_str pe_str (pe_op op_mod (pv 6) pe_int) (fun _ _ => rfl)) (pe_op op_add pe_int (pe_op op_fdiv (pv 6) pe_int))))
      (pss_one (ps_set (i := 6) sc_law_names.nd rfl (Or.inl rfl) (pe_op op_add (pv 6) pe_int)))))
      (pss_one (ps_expr (pe_bmK K rfl PySem.F.plainAttrs_list PySem.F.slot_list_append PySem.F.type_list_append mt_append (pv 2) (pa_cons (pv 5) pa_nil))))))))
      (pss_one (ps_ret (pv 2)))))), ?_⟩
  refine ⟨(by show 0 ≤ sizeLine; decide), fun p np => ?_⟩
  have pf : p ≠ f := hF.ne np
  have pc : p ≠ c := hF.nec np
  have F0 := hF.new (o := .lst []) np
  have B0 : But f H (upd H p (.lst [])) := But.refl.new np
  have hp0 : (upd H p (.lst [])) p = some (.lst []) := upd_same
  generalize upd H p (.lst []) = H0 at F0 B0 hp0 ⊢
  refine ⟨_, rfl, f, c, 4, rfl, by decide, by decide, F0, fun stem H1 ws F1 B1 => ?_⟩
  have hp1 := B1 _ _ hp0 pf
  have nstem : Wd 6 stem := ⟨ws.lo, Nat.le_trans ws.hi (by decide), ws.ltr⟩
  refine ⟨_, rfl, _, rfl, by omega, by omega, for_range (lo := 0) (n := ((mm : Nat) : Int).toNat) (fun i σ H5 => ∃ (ns : List Str) (v4 v5 v6 : Option V), σ = [some (.ref f), some (nV mm), some (.ref p), some (.str stem), v4, v5, v6] ∧ H5 p = some (.lst (ns.map V.str)) ∧ ns.length = i ∧ ns.Nodup ∧ (∀ z ∈ ns, Wd 6 z ∧ z ∉ takL) ∧ Flow H5 f c ∧ But f H H5) ⟨[], none, none, none, rfl, hp1, rfl, List.nodup_nil, (fun _ z => nomatch z), F1, B0.trans B1⟩ ?_ ?_⟩
  · rintro i σ H5 hi ⟨ns, v4, v5, v6, rfl, hp5, ln, nd, gd, F5, B5⟩
    refine ⟨_, rfl, f, c, 6, rfl, by decide, by decide, F5, fun w1 H6 g1 F6 B6 => ?_⟩
    refine ⟨_, rfl, _, rfl, f, c, 2, rfl, by decide, by decide, F6, fun w2 H7 g2 F7 B7 => ?_⟩
    have ls : stem.length + w2.length ≤ 6 := by
      have := ws.hi
      have := g2.hi
      omega
    refine ⟨_, _, rfl, rfl, little (by omega), ?_⟩
    refine ⟨_, rfl, _, rfl, little (by rw [show (stem ++ w2).length = stem.length + w2.length from Array.size_append ..]; omega), ?_⟩
    refine ⟨_, rfl, (by show 3 ≤ sizeLine; decide), fun l nl => ?_⟩
    have mlf : l ≠ f := F7.ne nl
    have mlp : p ≠ l := fun z => by
      rw [← z] at nl
      rw [B7 _ _ (B6 _ _ hp5 pf) pf] at nl
      cases nl
    have F8 := F7.new (o := .lst [V.str w1, V.str (cutS (stem ++ w2) none (some 6)), V.str stem]) nl
    have B8 := ((B5.trans B6).trans B7).new (o := .lst [V.str w1, V.str (cutS (stem ++ w2) none (some 6)), V.str stem]) nl
    have hl8 : (upd H7 l (.lst [V.str w1, V.str (cutS (stem ++ w2) none (some 6)), V.str stem])) l = some (.lst [V.str w1, V.str (cutS (stem ++ w2) none (some 6)), V.str stem]) := upd_same
    have hp8 : (upd H7 l (.lst [V.str w1, V.str (cutS (stem ++ w2) none (some 6)), V.str stem])) p = some (.lst (ns.map V.str)) := by
      rw [upd_ne mlp]
      exact B7 _ _ (B6 _ _ hp5 pf) pf
    generalize upd H7 l (.lst [V.str w1, V.str (cutS (stem ++ w2) none (some 6)), V.str stem]) = H8 at F8 B8 hl8 hp8 ⊢
    refine ⟨_, rfl, f, c, 3, rfl, by decide, by decide +kernel, F8, fun v H9 v0 v1 F9 B9 => ?_⟩
    have hl9 := B9 _ _ hl8 mlf
    have hp9 := B9 _ _ hp8 pf
    have B9 := B8.trans B9
    obtain ⟨nm, en, gnm⟩ : ∃ nm, atI [V.str w1, V.str (cutS (stem ++ w2) none (some 6)), V.str stem] v = some (.str nm) ∧ Wd 6 nm := by
      have : v = 0 ∨ v = 1 ∨ v = 2 := by omega
      rcases this with rfl | rfl | rfl
      · exact ⟨w1, atI_nat (j := 0) rfl, g1⟩
      · exact ⟨_, atI_nat (j := 1) rfl, by
          rw [cut6 (by rw [show (stem ++ w2).length = stem.length + w2.length from Array.size_append ..]; exact ls)]
          exact ws.cat g2⟩
      · exact ⟨stem, atI_nat (j := 2) rfl, nstem⟩
    refine ⟨l, _, v, _, rfl, rfl, SqL.of hl9, en, ?_⟩
    let W : Nat → L2.St → Hp → Prop := fun m σ H10 => ∃ (nm : Str) (sp : Nat), σ = [some (.ref f), some (nV mm), some (.ref p), some (.str stem), some (.int (0 + (i : Int))), some (.str nm), some (nV sp)] ∧ Wd 6 nm ∧ (∀ j, j + 1 < sp → zaS j ∈ ns ++ takL) ∧ (∀ j, sp = j + 1 → nm = zaS j) ∧ sp ≤ 18 ∧ m = 20 - sp ∧ Same H9 H10
    refine ⟨W, ⟨_, nm, 0, rfl, gnm, (fun j z => absurd z (by omega)), (fun j z => absurd z (by omega)), by decide, rfl, Same.refl _⟩, ?_⟩
    rintro m σ H10 ⟨nm, sp, rfl, gn, f1, f2, l18, rfl, s10⟩
    have lnf : (ns ++ takL).length ≤ 16 := by
      rw [List.length_append, show takL.length = 8 from rfl]
      omega
    refine or_in rfl rfl (s10 _ _ hp9) (fun H11 s11 e => ?_) (fun H11 s11 e => ?_)
    · have sx := s10.trans s11
      have all : ∀ j, j < sp → zaS j ∈ ns ++ takL := fun j hj => by
        by_cases z : j + 1 = sp
        · rw [← f2 j z.symm]; exact e
        · exact f1 j (by omega)
      have l16 : sp ≤ 16 := Nat.le_trans (za_few (by omega) all) lnf
      refine if_bl (fun _ => ?_) (fun z => nomatch z)
      refine ⟨fun σ' H' => ∃ m', m' < 20 - sp ∧ W m' σ' H', fun _ _ z => z, ?_⟩
      have e1 : (nV sp, V.int 26) = (V.int (sp : Int), V.int 26) := rfl
      have m26 : ((sp : Int) % 26) = ((sp : Nat) : Int) := by omega
      have d26 : ((sp : Int) / 26) = 0 := by omega
      refine ⟨_, rfl, _, _, rfl, rfl, (by show (0 : Int) < 26; decide), _, _, 122 - sp, rfl, rfl, by decide, ?_, _, rfl, _, _, rfl, rfl, ⟨by decide, by decide⟩, _, _, rfl, rfl, _, _, rfl, rfl, ?_, ?_⟩
      · rw [m26]
        exact atI_nat (za_at sp (by omega))
      · rw [d26]
        exact mulOk_one _
      rw [d26]
      have nx : Txt.mul ⟨#[122 - sp]⟩ (1 + 0) = zaS sp := rfl
      rw [nx]
      refine ⟨_, rfl, _, _, rfl, rfl, 20 - (sp + 1), by omega, zaS sp, sp + 1, ?_, zaS_wd (by omega), fun j hj => all j (by omega), fun j hj => by rw [show j = sp by omega], by omega, rfl, sx⟩
      show [some (V.ref f), some (nV mm), some (V.ref p), some (V.str stem), some (V.int (0 + (i : Int))), some (V.str (zaS sp)), some (V.int ((sp : Int) + 1))] = _
      rw [show ((sp : Int) + 1) = (((sp + 1 : Nat)) : Int) by omega]
    · have sx := s10.trans s11
      refine if_bl (fun z => nomatch z) (fun _ => ?_)
      have hp11 := sx _ _ hp9
      refine ⟨_, rfl, .inl ⟨rfl, _, SqL.of hp11⟩, _, rfl, p, _, _, rfl, rfl, hp11, small1000 (by rw [List.length_map]; omega), ns ++ [nm], _, _, _, rfl, ?_, ?_, ?_, fun z hz => ?_, (F9.same sx).lst pf pc, (B9.same sx).own np⟩
      · rw [upd_same, List.map_append]; rfl
      · rw [List.length_append, ln]; rfl
      · rw [List.nodup_append]
        exact ⟨nd, by simp, fun a ha b hb z => e (List.mem_append.mpr (.inl (by rw [← List.mem_singleton.mp hb, ← z]; exact ha)))⟩
      · rcases List.mem_append.mp hz with z | z
        · exact gd _ z
        · rw [List.mem_singleton.mp z]
          exact ⟨gn, fun y => e (List.mem_append.mpr (.inr y))⟩
  · rintro σ H5 ⟨ns, v4, v5, v6, rfl, hp5, ln, nd, gd, F5, B5⟩
    exact ⟨_, rfl, q p ns H5 np hp5 (by omega) nd gd F5 B5⟩
end
theorem All2.perm {α β : Type} {R : α → β → Prop} : ∀ {as as' : List α} {bs : List β}, as'.Perm as → All2 R as bs → ∃ bs' : List β, bs'.Perm bs ∧ All2 R as' bs' := by
  intro as as' bs p
  induction p generalizing bs with
  | nil => intro a; exact ⟨bs, .refl _, a⟩
  | cons x _ ih =>
    intro a
    cases a with
    | cons h t => obtain ⟨b', p', a'⟩ := ih t; exact ⟨_ :: b', p'.cons _, .cons h a'⟩
  | swap x y l =>
    intro a
    cases a with
    | cons h t => cases t with
      | cons h2 t2 => exact ⟨_ :: _ :: _, .swap .., .cons h2 (.cons h t2)⟩
  | trans _ _ ih1 ih2 =>
    intro a
    obtain ⟨b1, p1, a1⟩ := ih2 a
    obtain ⟨b2, p2, a2⟩ := ih1 a1
    exact ⟨b2, p2.trans p1, a2⟩
/-! ### trees drawn -/
def Tr.small : Tr → Prop
  | .nm _ _ => True
  | .no i => Small i
  | .tm k t => (-9 ≤ k ∧ k ≤ 9) ∧ t.small
  | .o2 _ a b => a.small ∧ b.small
  | .o3 a b c => a.small ∧ b.small ∧ c.small
structure TOk (now names : List Str) (t : Tr) : Prop where
  ln : ∀ q ∈ t.leans, (q.2 = 0 ∧ q.1 ∈ now) ∨ (1 ≤ q.2 ∧ q.2 ≤ 6 ∧ q.1 ∈ names)
  sm : t.small
theorem Flow.neS {H : Hp} {f c p : Addr} {zs : List Str} (h : Flow H f c) (e : H p = some (.lst (zs.map V.str))) : p ≠ f := fun z => by
  obtain ⟨ns, i, a, q, r, e1, _⟩ := h
  rw [z, e1] at e
  cases zs with
  | nil => cases e
  | cons y zs => cases e
theorem at_strs {zs : List Str} {v : Int} (h0 : 0 ≤ v) (h1 : v < (zs.length : Int)) : ∃ z, atI (zs.map V.str) v = some (.str z) ∧ z ∈ zs := by
  have hk : v.toNat < zs.length := by omega
  have q : atI (zs.map V.str) ((v.toNat : Nat) : Int) = some (.str zs[v.toNat]) := atI_nat (by rw [List.getElem?_map, List.getElem?_eq_getElem hk]; rfl)
  rw [show ((v.toNat : Nat) : Int) = v by omega] at q
  exact ⟨_, q, List.getElem_mem hk⟩
theorem Wd.lay {m : Nat} {z : Str} (h : Wd m z) : PyData.canLay0 (.str z) = true := by
  show PyData.strOk z = true
  unfold PyData.strOk
  rw [Array.all_eq_true_iff_forall_mem]
  intro c hc
  have := (h.ltr c (Array.mem_def.mp hc)).2
  exact decide_eq_true (by omega)
theorem Wd.size {m : Nat} {z : Str} (h : Wd m z) : z.cps.size ≤ m := h.hi
theorem dp_strs {K : PySem.W.Frag} {H : Hp} : ∀ l : List Str, DpAll K H (l.map V.str) (l.map PyData.str)
  | [] => .nil
  | n :: ns => .cons (.str n) (dp_strs ns)
theorem strs_shaped {m : Nat} {l : List Str} (h : ∀ z ∈ l, Wd m z) : SeqAt.shaped (.list (l.map PyData.str)) = true :=
  (Neat.lst (NeatAll.map (f := PyData.str) (dp := 0) (n := m) fun z hz => Neat.str (h z hz).lay (h z hz).size)).shaped (by decide)
section
variable {P : Program} {w : World} {K : PySem.W.Frag} {mg : Str → Option Value} {base : Heap}
def sp_law_leaf (K : PySem.W.Frag) : Sp := fun vs H Q _ => ∃ (f c nw na : Addr) (now names : List Str), vs = [.ref f, .ref nw, .ref na] ∧ H nw = some (.lst (now.map V.str)) ∧ H na = some (.lst (names.map V.str)) ∧ now.length ≤ 100 ∧ names.length ≤ 100 ∧ (∀ z ∈ now, Wd 6 z) ∧ (∀ z ∈ names, Wd 6 z) ∧ Flow H f c ∧ ∀ (v : V) (t : Tr) (H' : Hp), TrAt H' v t → TOk now names t → t.parts.length = 1 → Flow H' f c → But f H H' → Q v H'
theorem ok_law_leaf {f : Addr} {fd : FuncData} (F : Fun K "_law_leaf" "_law_leaf" s_law_leaf f fd) {C : Addr} (T : Top w K mg C) : FnOk P w K mg base CX0 3 f fd ["_law_flow_here", "_law_now", "_law_names_here"] (sp_law_leaf K) := by
  obtain ⟨f_law_thing, fd_law_thing, F_law_thing, b_law_thing, m_law_thing⟩ := T.d_law_thing
  have G_law_thing := ok_law_thing (P := P) (w := w) (base := base) F_law_thing T
  obtain ⟨f_law_pick, fd_law_pick, F_law_pick, b_law_pick, m_law_pick⟩ := T.d_law_pick
  have G_law_pick := ok_law_pick (P := P) (w := w) (base := base) F_law_pick T
  refine F.ok sc_law_leaf (fun vs H Q E h => ?_) (fun cdv A outer s H vs Q E hr h => ?_)
  · obtain ⟨f, c, nw, na, now, names, rfl, _⟩ := h
    rfl
  obtain ⟨f, c, nw, na, now, names, rfl, hnw, hna, ln, la, gw, ga, hF, q⟩ := h
  have nwf := hF.neS hnw
  have naf := hF.neS hna
  let R1 : TS := fun D' σ' H' => D'.rt = Q ∧ σ' = [some (.ref f), some (.ref nw), some (.ref na)] ∧ Flow H' f c ∧ But f H H'
  refine ⟨_, (pss_cons (ps_if (PW.pt (pw_and (pt_cmpR (op_neDK K rfl hr.units) (pv 1) (pe_lst pa_nil) (nomark _)) (pw_and1 (pt_cmpR op_eq (pe_call G_law_pick (hr.mono (by decide)) (by rfl) m_law_pick F_law_pick.kp b_law_pick .nil pass0 (pa_cons (pv 0) (pa_cons pe_int pa_nil))) pe_int (nomark _))))) (pss_one (ps_ret (pe_tup (pa_cons pe_str (pa_cons (pe_ix (ix_listK K rfl) (pv 1) (pe_call G_law_pick (hr.mono (by decide)) (by rfl) m_law_pick F_law_pick.kp b_law_pick .nil pass0 (pa_cons (pv 0) (pa_cons (pe_callB (call_len_seqK K rfl) (by rfl) T.m_len (by decide +kernel) (pa_cons (pv 1) pa_nil)) pa_nil))) (fun _ _ => rfl)) (pa_cons pe_int pa_nil)))))) pss_nil)
      (PSs.to (pss_cons (ps_if (PW.pt (pw_and (pt_cmpR (op_neDK K rfl hr.units) (pv 2) (pe_lst pa_nil) (nomark _)) (pw_and1 (pt_cmpR op_gt (pe_call G_law_pick (hr.mono (by decide)) (by rfl) m_law_pick F_law_pick.kp b_law_pick .nil pass0 (pa_cons (pv 0) (pa_cons pe_int pa_nil))) pe_int (nomark _))))) (pss_one (ps_ret (pe_tup (pa_cons pe_str (pa_cons (pe_ix (ix_listK K rfl) (pv 2) (pe_call G_law_pick (hr.mono (by decide)) (by rfl) m_law_pick F_law_pick.kp b_law_pick .nil pass0 (pa_cons (pv 0) (pa_cons (pe_callB (call_len_seqK K rfl) (by rfl) T.m_len (by decide +kernel) (pa_cons (pv 2) pa_nil)) pa_nil))) (fun _ _ => rfl)) (pa_cons (pe_op op_add pe_int (pe_call G_law_pick (hr.mono (by decide)) (by rfl) m_law_pick F_law_pick.kp b_law_pick .nil pass0 (pa_cons (pv 0) (pa_cons pe_int pa_nil)))) pa_nil)))))) pss_nil)
      (pss_one (ps_ret (pe_tup (pa_cons pe_str (pa_cons (pe_call G_law_thing (hr.mono (by decide)) (by rfl) m_law_thing F_law_thing.kp b_law_thing .nil pass0 (pa_cons (pv 0) pa_nil)) pa_nil)))))) R1 ?tail1)), ?_⟩
  case tail1 =>
    rintro D' σ' H1 ⟨eD, rfl, F1, B1⟩
    have hna1 := B1 _ _ hna naf
    refine ⟨_, rfl, (by show 0 ≤ sizeLine; decide), fun p1 np1 => ?_⟩
    have s2 : Same H1 (upd H1 p1 (.lst [])) := same_new np1
    have hp1 : (upd H1 p1 (.lst [])) p1 = some (.lst []) := upd_same
    have F2 := F1.new (o := .lst []) np1
    generalize upd H1 p1 (.lst []) = H2 at s2 hp1 F2 ⊢
    have B2 : But f H H2 := B1.same s2
    refine ⟨_, _, .lst (SqL.of (s2 _ _ hna1)) (dp_strs _), .lst (SqL.of hp1) .nil, strs_shaped ga, rfl, _, rfl, ?_⟩
    have number : ∀ H3, Flow H3 f c → But f H H3 → tRet (tTup (tCons (tC (V.str "number")) (tCons (tCall (sp_law_thing K) [] E0 (tCons (tVar 0) tNil)) tNil))) D' [some (.ref f), some (.ref nw), some (.ref na)] H3 := fun H3 F3 B3 => by
      refine ⟨_, rfl, f, c, rfl, F3, fun v H4 sv F4 B4 => ⟨(by show 2 ≤ sizeLine; decide), fun p2 np2 => ?_⟩⟩
      rw [eD]
      exact q (.ref p2) (.no v) _ ⟨p2, rfl, upd_same⟩ ⟨(fun q hq => by cases hq), sv⟩ rfl (F4.new np2) ((B3.trans B4).new np2)
    have ee : PyData.eqv (.list (names.map PyData.str)) (.list []) = (names.map PyData.str).isEmpty := eqv_nil
    rw [ee]
    cases hn : names with
    | nil =>
      refine if_bl (fun z => nomatch z) (fun _ => if_bl (fun z => nomatch z) fun _ => ?_)
      exact number H2 F2 B2
    | cons n1 nr =>
      refine if_bl (fun _ => ?_) (fun z => nomatch z)
      refine ⟨_, rfl, f, c, 3, rfl, by decide, by decide, F2, fun v H3 v0 v1 F3 B3 => ⟨_, _, rfl, rfl, _, rfl, if_bl (fun _ => ?_) (fun _ => number H3 F3 (B2.trans B3))⟩⟩
      have hna3 := B3 _ _ (s2 _ _ hna1) naf
      have pos : 0 < names.length := by rw [hn]; exact Nat.succ_pos _
      refine ⟨_, rfl, _, rfl, _, rfl, na, _, rfl, .inl (SqL.of hna3), f, c, ((names.length : Nat) : Int), ?_, by omega, log_small (by omega), F3, fun v2 H4 v20 v21 F4 B4 => ?_⟩
      · rw [List.length_map, List.append_nil]
      have hna4 := B4 _ _ hna3 naf
      obtain ⟨z, ez, mz⟩ := at_strs v20 v21
      refine ⟨na, _, v2, _, rfl, rfl, SqL.of hna4, ez, _, rfl, f, c, 6, rfl, by decide, by decide, F4, fun v3 H5 v30 v31 F5 B5 => ⟨_, _, rfl, rfl, (by show 3 ≤ sizeLine; decide), fun p2 np2 => ?_⟩⟩
      rw [eD]
      refine q (.ref p2) (.nm z (1 + v3).toNat) _ ⟨p2, rfl, ?_⟩ ⟨fun q hq => .inr ?_, trivial⟩ rfl (F5.new np2) ((((B2.trans B3).trans B4).trans B5).new np2)
      · rw [upd_same, show nV (1 + v3).toNat = V.int (1 + v3) from by show V.int _ = _; rw [Int.toNat_of_nonneg (by omega)]]
      · rw [List.mem_singleton.mp hq]
        exact ⟨(by show 1 ≤ (1 + v3).toNat; omega), (by show (1 + v3).toNat ≤ 6; omega), mz⟩
  refine ⟨_, rfl, (by show 0 ≤ sizeLine; decide), fun p1 np1 => ?_⟩
  have s1 : Same H (upd H p1 (.lst [])) := same_new np1
  have hp1 : (upd H p1 (.lst [])) p1 = some (.lst []) := upd_same
  have F1 := hF.new (o := .lst []) np1
  generalize upd H p1 (.lst []) = H1 at s1 hp1 F1 ⊢
  have B1 : But f H H1 := But.refl.same s1
  refine ⟨_, _, .lst (SqL.of (s1 _ _ hnw)) (dp_strs _), .lst (SqL.of hp1) .nil, strs_shaped gw, rfl, _, rfl, ?_⟩
  have ee : PyData.eqv (.list (now.map PyData.str)) (.list []) = (now.map PyData.str).isEmpty := eqv_nil
  rw [ee]
  cases hn : now with
  | nil =>
    refine if_bl (fun z => nomatch z) (fun _ => if_bl (fun z => nomatch z) fun _ => ?_)
    exact ⟨rfl, rfl, F1, B1⟩
  | cons n1 nr =>
    refine if_bl (fun _ => ?_) (fun z => nomatch z)
    refine ⟨_, rfl, f, c, 2, rfl, by decide, by decide, F1, fun v H3 v0 v1 F3 B3 => ⟨rfl, _, rfl, if_bl (fun _ => ?_) (fun _ => ⟨rfl, rfl, F3, B1.trans B3⟩)⟩⟩
    have hnw3 := B3 _ _ (s1 _ _ hnw) nwf
    have pos : 0 < now.length := by rw [hn]; exact Nat.succ_pos _
    refine ⟨_, rfl, _, rfl, _, rfl, nw, _, rfl, .inl (SqL.of hnw3), f, c, ((now.length : Nat) : Int), ?_, by omega, log_small (by omega), F3, fun v2 H4 v20 v21 F4 B4 => ?_⟩
    · rw [List.length_map, List.append_nil]
    have hnw4 := B4 _ _ hnw3 nwf
    obtain ⟨z, ez, mz⟩ := at_strs v20 v21
    refine ⟨nw, _, v2, _, rfl, rfl, SqL.of hnw4, ez, (by show 3 ≤ sizeLine; decide), fun p2 np2 => ?_⟩
    refine q (.ref p2) (.nm z 0) _ ⟨p2, rfl, upd_same⟩ ⟨fun q hq => .inl ?_, trivial⟩ rfl (F4.new np2) (((B1.trans B3).trans B4).new np2)
    rw [List.mem_singleton.mp hq]
    exact ⟨rfl, mz⟩
/-- a tree of at most so many parts; n: how deep the calls may go -/
def spT (K : PySem.W.Frag) : Nat → Sp
  | 0 => fun _ _ _ _ => False
  | n + 1 => fun vs H Q _ => ∃ (f c nw na : Addr) (now names : List Str) (r : Nat), vs = [.ref f, nV r, .ref nw, .ref na] ∧ 1 ≤ r ∧ r ≤ n + 3 ∧ r ≤ 20 ∧ H nw = some (.lst (now.map V.str)) ∧ H na = some (.lst (names.map V.str)) ∧ now.length ≤ 100 ∧ names.length ≤ 100 ∧ (∀ z ∈ now, Wd 6 z) ∧ (∀ z ∈ names, Wd 6 z) ∧ Flow H f c ∧ ∀ (v : V) (t : Tr) (H' : Hp), TrAt H' v t → TOk now names t → t.parts.length ≤ r → Flow H' f c → But f H H' → Q v H'
def wsT : List Str := ["", "", "times", "sum", "gap", "below", "most", "least", "pick", "sum"]
theorem parts_one (t : Tr) : 1 ≤ t.parts.length := by rw [t.parts_eq, List.length_append]; exact Nat.le_add_left ..
theorem tree_step {C : Addr} {f : Addr} {fd : FuncData} (T : Top w K mg C) (n : Nat) (below : ∀ (f : Addr) (fd : FuncData), Fun K "_law_tree" "_law_tree" s_law_tree f fd → FnOk P w K mg base CX0 (n + 3) f fd ["_law_flow_here", "_law_room", "_law_now", "_law_names_here"] (spT K n)) (F : Fun K "_law_tree" "_law_tree" s_law_tree f fd) :
    FnOk P w K mg base CX0 (n + 4) f fd ["_law_flow_here", "_law_room", "_law_now", "_law_names_here"] (spT K (n + 1)) := by
  obtain ⟨f_law_tree, fd_law_tree, F_law_tree, b_law_tree, m_law_tree⟩ := T.d_law_tree
  have G_law_tree := below f_law_tree fd_law_tree F_law_tree
  obtain ⟨f_law_pick, fd_law_pick, F_law_pick, b_law_pick, m_law_pick⟩ := T.d_law_pick
  have G_law_pick := ok_law_pick (P := P) (w := w) (base := base) F_law_pick T
  obtain ⟨f_law_leaf, fd_law_leaf, F_law_leaf, b_law_leaf, m_law_leaf⟩ := T.d_law_leaf
  have G_law_leaf := ok_law_leaf (P := P) (w := w) (base := base) F_law_leaf T
  obtain ⟨f_law_shuffled, fd_law_shuffled, F_law_shuffled, b_law_shuffled, m_law_shuffled⟩ := T.d_law_shuffled
  have G_law_shuffled := ok_law_shuffled (P := P) (w := w) (base := base) F_law_shuffled T
  refine F.ok sc_law_tree (fun vs H Q E h => ?_) (fun cdv A outer s H vs Q E hr h => ?_)
  · obtain ⟨f, c, nw, na, now, names, r, rfl, _⟩ := h
    rfl
  obtain ⟨f, c, nw, na, now, names, r, rfl, r1, rn, r20, hnw, hna, ln, la, gw, ga, hF, q⟩ := h
  have nwf := hF.neS hnw
  have naf := hF.neS hna
  refine ⟨_, (pss_cons (ps_set (i := 4) sc_law_tree.nd rfl (Or.inl rfl) (pe_ix (ix_listK K rfl) (pe_lst (pa_cons pe_str (pa_cons pe_str (pa_cons pe_str (pa_cons pe_str (pa_cons pe_str (pa_cons pe_str (pa_cons pe_str (pa_cons pe_str (pa_cons pe_str (pa_cons pe_str pa_nil))))))))))) (pe_call G_law_pick (hr.mono (by omega)) (by rfl) m_law_pick F_law_pick.kp b_law_pick .nil pass0 (pa_cons (pv 0) (pa_cons pe_int pa_nil))) (fun _ _ => rfl)))
      (pss_cons (ps_if (PW.pt (pw_or (pt_cmpR op_eq (pv 4) pe_str (nomark _)) (pw_or1 (pt_cmpR op_lt (pv 1) pe_int (nomark _))))) (pss_one (ps_ret (pe_call G_law_leaf (hr.mono (by omega)) (by rfl) m_law_leaf F_law_leaf.kp b_law_leaf .nil pass0 (pa_cons (pv 0) (pa_cons (pv 2) (pa_cons (pv 3) pa_nil)))))) pss_nil)
      (pss_cons (ps_if (pt_cmpR op_eq (pv 4) pe_str (nomark _)) (pss_one (ps_ret (pe_tup (pa_cons (pv 4) (pa_cons (pe_op op_sub (pe_call G_law_pick (hr.mono (by omega)) (by rfl) m_law_pick F_law_pick.kp b_law_pick .nil pass0 (pa_cons (pv 0) (pa_cons pe_int pa_nil))) pe_int) (pa_cons (pe_call G_law_tree (hr.mono (Nat.le_refl _)) (by rfl) m_law_tree F_law_tree.kp b_law_tree .nil pass0 (pa_cons (pv 0) (pa_cons (pe_op op_sub (pv 1) pe_int) (pa_cons (pv 2) (pa_cons (pv 3) pa_nil))))) pa_nil)))))) pss_nil)
      (pss_cons (ps_set (i := 5) sc_law_tree.nd rfl (Or.inl rfl) (pe_op op_add pe_int (pe_call G_law_pick (hr.mono (by omega)) (by rfl) m_law_pick F_law_pick.kp b_law_pick .nil pass0 (pa_cons (pv 0) (pa_cons (pe_op op_sub (pv 1) pe_int) pa_nil)))))
      (pss_cons (ps_if (pt_cmpR op_eq (pv 4) pe_str (nomark _)) (pss_cons (ps_set (i := 6) sc_law_tree.nd rfl (Or.inl rfl) (pe_lst (pa_cons (pe_call G_law_tree (hr.mono (Nat.le_refl _)) (by rfl) m_law_tree F_law_tree.kp b_law_tree .nil pass0 (pa_cons (pv 0) (pa_cons (pv 5) (pa_cons (pv 2) (pa_cons (pv 3) pa_nil))))) (pa_cons (pe_call G_law_leaf (hr.mono (by omega)) (by rfl) m_law_leaf F_law_leaf.kp b_law_leaf .nil pass0 (pa_cons (pv 0) (pa_cons (pv 2) (pa_cons (pv 3) pa_nil)))) pa_nil))))
      (pss_one (ps_ret (pe_op (op_catAK K rfl) (pe_tup (pa_cons (pv 4) pa_nil)) (pe_callTy (call_tuple_ofK K rfl) (by rfl) T.m_tuple (by decide +kernel) (pa_cons (pe_call G_law_shuffled (hr.mono (by omega)) (by rfl) m_law_shuffled F_law_shuffled.kp b_law_shuffled .nil pass0 (pa_cons (pv 0) (pa_cons (pe_op op_cat (pv 6) (pe_lst (pa_cons (pe_call G_law_tree (hr.mono (Nat.le_refl _)) (by rfl) m_law_tree F_law_tree.kp b_law_tree .nil pass0 (pa_cons (pv 0) (pa_cons (pe_op op_sub (pe_op op_sub (pv 1) pe_int) (pv 5)) (pa_cons (pv 2) (pa_cons (pv 3) pa_nil))))) pa_nil))) pa_nil))) pa_nil)))))) pss_nil)
      (pss_one (ps_ret (pe_tup (pa_cons (pv 4) (pa_cons (pe_call G_law_tree (hr.mono (Nat.le_refl _)) (by rfl) m_law_tree F_law_tree.kp b_law_tree .nil pass0 (pa_cons (pv 0) (pa_cons (pv 5) (pa_cons (pv 2) (pa_cons (pv 3) pa_nil))))) (pa_cons (pe_call G_law_tree (hr.mono (Nat.le_refl _)) (by rfl) m_law_tree F_law_tree.kp b_law_tree .nil pass0 (pa_cons (pv 0) (pa_cons (pe_op op_sub (pe_op op_sub (pv 1) pe_int) (pv 5)) (pa_cons (pv 2) (pa_cons (pv 3) pa_nil))))) pa_nil))))))))))), ?_⟩
  refine ⟨(by show 10 ≤ sizeLine; decide), fun l nl => ?_⟩
  have lf : l ≠ f := hF.ne nl
  generalize e1 : upd H l _ = H1
  have s1 : Same H H1 := by rw [← e1]; exact same_new nl
  have hl1 : H1 l = some (.lst (wsT.map V.str)) := by rw [← e1]; exact upd_same
  have F1 : Flow H1 f c := by rw [← e1]; exact hF.new nl
  have B1 : But f H H1 := But.refl.same s1
  clear e1
  refine ⟨_, rfl, f, c, 10, rfl, by decide, by decide, F1, fun v H2 v0 v1 F2 B2 => ?_⟩
  obtain ⟨wd, ew, mw⟩ := at_strs (zs := wsT) v0 v1
  have hl2 := B2 _ _ hl1 lf
  replace B2 := B1.trans B2
  have hnw2 := B2 _ _ hnw nwf
  have hna2 := B2 _ _ hna naf
  refine ⟨l, _, v, _, rfl, rfl, SqL.of hl2, ew, ?_⟩
  have leaf : ∀ D : Ends, D.rt = Q → tRet (tCall (sp_law_leaf K) [] E0 (tCons (tVar 0) (tCons (tVar 2) (tCons (tVar 3) tNil)))) D [some (.ref f), some (nV r), some (.ref nw), some (.ref na), some (.str wd), none, none] H2 := fun D eD => by
    refine ⟨_, rfl, _, rfl, _, rfl, f, c, nw, na, now, names, rfl, hnw2, hna2, ln, la, gw, ga, F2, fun v t H3 ht ok lp F3 B3 => ?_⟩
    rw [eD]
    exact q v t H3 ht ok (by omega) F3 (B2.trans B3)
  refine ⟨_, rfl, rfl, _, rfl, if_str (fun e => ?_) (fun e => ?_)⟩
  · exact if_bl (fun _ => leaf _ rfl) (fun z => nomatch z)
  refine ⟨_, rfl, _, _, rfl, rfl, _, rfl, if_bl (fun _ => leaf _ rfl) (fun c4 => ?_)⟩
  have c4 : ¬ ((r : Nat) : Int) < 4 := of_decide_eq_false c4
  obtain ⟨m, rfl⟩ : ∃ m, n = m + 1 := ⟨n - 1, by omega⟩
  refine ⟨_, rfl, rfl, _, rfl, if_str (fun et => ?_) (fun et => ?_)⟩
  · refine ⟨_, rfl, _, rfl, f, c, 19, rfl, by decide, by decide, F2, fun v2 H3 v20 v21 F3 B3 => ⟨_, _, rfl, rfl, _, rfl, _, rfl, _, _, rfl, rfl, _, rfl, _, rfl, f, c, nw, na, now, names, r - 1, ?_, by omega, by omega, by omega, B3 _ _ hnw2 nwf, B3 _ _ hna2 naf, ln, la, gw, ga, F3, fun v3 t H4 ht ok lp F4 B4 => ⟨(by show 3 ≤ sizeLine; decide), fun p np => ?_⟩⟩⟩
    · rw [show nV (r - 1) = V.int (((r : Nat) : Int) - 1) from congrArg V.int (by omega)]
      rfl
    · have := parts_one t
      refine q (.ref p) (.tm (v2 - 9) t) _ ⟨p, v3, rfl, ?_, ht.keep (TK.new np)⟩ ⟨ok.ln, ⟨by omega, by omega⟩, ok.sm⟩ ?_ (F4.new np) (((B2.trans B3).trans B4).new np)
      · rw [upd_same, et]
      · show (t.parts ++ [_]).length ≤ r
        rw [List.length_append]
        show _ + 1 ≤ r
        omega
  refine ⟨_, rfl, _, rfl, _, _, rfl, rfl, f, c, ((r - 3 : Nat) : Int), ?_, by omega, log_small (by omega), F2, fun v2 H3 v20 v21 F3 B3 => ⟨_, _, rfl, rfl, ?_⟩⟩
  · rw [show V.int ((r - 3 : Nat) : Int) = V.int (((r : Nat) : Int) - 3) from congrArg V.int (by omega)]
    rfl
  have hnw3 := B3 _ _ hnw2 nwf
  have hna3 := B3 _ _ hna2 naf
  replace B3 := B2.trans B3
  obtain ⟨o, eo, o1, o2⟩ : ∃ o : Nat, 1 + v2 = ((o : Nat) : Int) ∧ 1 ≤ o ∧ o + 3 ≤ r := ⟨(1 + v2).toNat, by omega, by omega, by omega⟩
  have ev : V.int (1 + v2) = nV o := congrArg V.int eo
  have ea : [V.ref f, V.int (1 + v2), V.ref nw, V.ref na] = [V.ref f, nV o, V.ref nw, V.ref na] := by rw [ev]
  refine ⟨_, rfl, rfl, _, rfl, if_str (fun ep => ?_) (fun ep => ?_)⟩
  · refine ⟨_, rfl, _, rfl, _, rfl, _, rfl, f, c, nw, na, now, names, o, ea, by omega, by omega, by omega, hnw3, hna3, ln, la, gw, ga, F3, fun va ta H4 hta oka lpa F4 B4 => ?_⟩
    have hnw4 := B4 _ _ hnw3 nwf
    have hna4 := B4 _ _ hna3 naf
    refine ⟨_, rfl, _, rfl, _, rfl, f, c, nw, na, now, names, rfl, hnw4, hna4, ln, la, gw, ga, F4, fun vb tb H5 htb okb lpb F5 B5 => ?_⟩
    refine ⟨(by show 2 ≤ sizeLine; decide), fun pl npl => ?_⟩
    have plf : pl ≠ f := F5.ne npl
    have s6 : Same H5 (upd H5 pl (.lst [va, vb])) := same_new npl
    have hpl : (upd H5 pl (.lst [va, vb])) pl = some (.lst [va, vb]) := upd_same
    have F6 := F5.new (o := .lst [va, vb]) npl
    replace hta := (hta.keep (TK.but F4 B5)).keep (TK.same s6)
    replace htb := htb.keep (TK.same s6)
    have B6 := ((B3.trans B4).trans B5).same s6
    generalize upd H5 pl (.lst [va, vb]) = H6 at s6 hpl F6 hta htb B6 ⊢
    have eb : [V.ref f, V.int (((r : Nat) : Int) - 2 - (1 + v2)), V.ref nw, V.ref na] = [V.ref f, nV (r - 2 - o), V.ref nw, V.ref na] := by
      rw [show nV (r - 2 - o) = V.int (((r : Nat) : Int) - 2 - (1 + v2)) from congrArg V.int (by omega)]
    refine ⟨_, rfl, (by show 1 ≤ sizeLine; decide), fun pt npt => ?_⟩
    have st : Same H6 (upd H6 pt (.tup [.str wd])) := same_new npt
    have hpt : (upd H6 pt (.tup [.str wd])) pt = some (.tup [.str wd]) := upd_same
    have ptf : pt ≠ f := F6.ne npt
    replace F6 := F6.new (o := .tup [.str wd]) npt
    replace hta := hta.keep (TK.same st)
    replace htb := htb.keep (TK.same st)
    replace hpl := st _ _ hpl
    replace B6 := B6.same st
    generalize upd H6 pt (.tup [.str wd]) = H6 at st hpt hpl F6 hta htb B6 ⊢
    refine ⟨_, rfl, _, rfl, _, rfl, _, rfl, _, _, rfl, rfl, _, rfl, _, _, rfl, rfl, _, rfl, _, rfl, f, c, nw, na, now, names, r - 2 - o, eb, by omega, by omega, by omega, B6 _ _ hnw nwf, B6 _ _ hna naf, ln, la, gw, ga, F6, fun vc tc H7 htc okc lpc F7 B7 => ?_⟩
    have hpl7 := B7 _ _ hpl plf
    refine ⟨(by show 1 ≤ sizeLine; decide), fun p8 np8 => ?_⟩
    have hp8 : (upd H7 p8 (.lst [vc])) p8 = some (.lst [vc]) := upd_same
    have s8 : Same H7 (upd H7 p8 (.lst [vc])) := same_new np8
    have F8 := F7.new (o := .lst [vc]) np8
    replace hta := (hta.keep (TK.but F6 B7)).keep (TK.same s8)
    replace htb := (htb.keep (TK.but F6 B7)).keep (TK.same s8)
    replace htc := htc.keep (TK.same s8)
    have B8 := (B6.trans B7).same s8
    generalize upd H7 p8 (.lst [vc]) = H8 at s8 hp8 F8 hta htb htc B8 ⊢
    refine ⟨pl, p8, _, _, rfl, rfl, s8 _ _ hpl7, hp8, (by show 3 ≤ sizeLine; decide), fun p9 np9 => ?_⟩
    have p9f : p9 ≠ f := F8.ne np9
    have hp9 : (upd H8 p9 (.lst ([va, vb] ++ [vc]))) p9 = some (.lst [va, vb, vc]) := upd_same
    have s9 : Same H8 (upd H8 p9 (.lst ([va, vb] ++ [vc]))) := same_new np9
    have F9 := F8.new (o := .lst ([va, vb] ++ [vc])) np9
    generalize upd H8 p9 (.lst ([va, vb] ++ [vc])) = H9 at s9 hp9 F9 ⊢
    have al : All2 (TrAt H9) [va, vb, vc] [ta, tb, tc] := .cons (hta.keep (TK.same s9)) (.cons (htb.keep (TK.same s9)) (.cons (htc.keep (TK.same s9)) .nil))
    refine ⟨f, c, p9, [va, vb, vc], rfl, SqL.of hp9, p9f, (by show 3 ≤ 500; decide), F9, fun p10 ys H10 pm np10 hp10 F10 B10 => ?_⟩
    have al10 : All2 (TrAt H10) [va, vb, vc] [ta, tb, tc] := al.imp fun _ _ z => z.keep (TK.but F9 B10)
    obtain ⟨ts, pt2, al2⟩ := All2.perm pm al10
    have l3 : ts.length = 3 := pt2.length_eq
    obtain ⟨ka, kb, kc, rfl⟩ : ∃ a b c, ts = [a, b, c] := by
      match ts, l3 with
      | [a, b, c], _ => exact ⟨a, b, c, rfl⟩
    have okk : ∀ t ∈ [ka, kb, kc], TOk now names t := fun t ht => by
      rcases List.mem_cons.mp (pt2.mem_iff.mp ht) with rfl | ht
      · exact oka
      rcases List.mem_cons.mp ht with rfl | ht
      · exact okb
      rw [List.mem_singleton.mp ht]
      exact okc
    have sum : ka.parts.length + kb.parts.length + kc.parts.length = ta.parts.length + tb.parts.length + tc.parts.length := by
      have := (pt2.map fun t => t.parts.length).sum_nat
      simp only [List.map_cons, List.map_nil, List.sum_cons, List.sum_nil] at this
      omega
    refine ⟨p10, ys, rfl, .inl ⟨SqL.of hp10, fun p11 np11 => ?_⟩⟩
    have s11 : Same H10 (upd H10 p11 (.tup ys)) := same_new np11
    have hp11 : (upd H10 p11 (.tup ys)) p11 = some (.tup ys) := upd_same
    have F11 := F10.new (o := .tup ys) np11
    have B11 := ((B8.same s9).trans B10).same s11
    have al11 : All2 (TrAt (upd H10 p11 (.tup ys))) ys [ka, kb, kc] := al2.imp fun _ _ z => z.keep (TK.same s11)
    have hpt11 := s11 _ _ (B10 _ _ (s9 _ _ (s8 _ _ (B7 _ _ hpt ptf))) ptf)
    generalize upd H10 p11 (.tup ys) = H11 at s11 hp11 F11 B11 al11 hpt11 ⊢
    have ly : ys.length = 3 := pm.length_eq
    refine catA_of hpt11 hp11 (by rw [ly]; show 4 ≤ 1000; decide) fun p12 H12 h12 s12 => ?_
    have al12 := al11.imp fun _ _ z => TrAt.keep (TK.same s12) z
    obtain ⟨ya, yb, yc, rfl⟩ : ∃ a b c, ys = [a, b, c] := by
      match ys, ly with
      | [a, b, c], _ => exact ⟨a, b, c, rfl⟩
    have o1 := okk ka (by simp)
    have o2 := okk kb (by simp)
    have o3 := okk kc (by simp)
    refine q (.ref p12) (.o3 ka kb kc) _ (TrAt.mk ?_ al12) ⟨fun z hz => ?_, o1.sm, o2.sm, o3.sm⟩ ?_ (F11.same s12) (B11.same s12)
    · rw [h12, ep]; rfl
    · rcases List.mem_append.mp hz with hz | hz
      · rcases List.mem_append.mp hz with hz | hz
        · exact o1.ln z hz
        · exact o2.ln z hz
      · exact o3.ln z hz
    · show (ka.parts ++ kb.parts ++ kc.parts ++ [_]).length ≤ r
      rw [List.length_append, List.length_append, List.length_append]
      show _ + 1 ≤ r
      omega
  · obtain ⟨w2, rfl⟩ : ∃ w2 : W2, wd = w2.s := by
      unfold wsT at mw
      simp only [List.mem_cons, List.not_mem_nil, or_false] at mw
      rcases mw with h | h | h | h | h | h | h | h | h | h
      · exact absurd h e
      · exact absurd h e
      · exact absurd h et
      · exact ⟨.sum, h⟩
      · exact ⟨.gap, h⟩
      · exact ⟨.below, h⟩
      · exact ⟨.most, h⟩
      · exact ⟨.least, h⟩
      · exact absurd h ep
      · exact ⟨.sum, h⟩
    refine ⟨_, rfl, _, rfl, _, rfl, _, rfl, _, rfl, f, c, nw, na, now, names, o, ea, by omega, by omega, by omega, hnw3, hna3, ln, la, gw, ga, F3, fun va ta H4 hta oka lpa F4 B4 => ?_⟩
    have hnw4 := B4 _ _ hnw3 nwf
    have hna4 := B4 _ _ hna3 naf
    have eb : [V.ref f, V.int (((r : Nat) : Int) - 1 - (1 + v2)), V.ref nw, V.ref na] = [V.ref f, nV (r - 1 - o), V.ref nw, V.ref na] := by
      rw [show nV (r - 1 - o) = V.int (((r : Nat) : Int) - 1 - (1 + v2)) from congrArg V.int (by omega)]
    refine ⟨_, rfl, _, rfl, _, _, rfl, rfl, _, rfl, _, _, rfl, rfl, _, rfl, _, rfl, f, c, nw, na, now, names, r - 1 - o, eb, by omega, by omega, by omega, hnw4, hna4, ln, la, gw, ga, F4, fun vb tb H5 htb okb lpb F5 B5 => ⟨(by show 3 ≤ sizeLine; decide), fun p np => ?_⟩⟩
    have hta5 := (hta.keep (TK.but F4 B5)).keep (TK.new (o := .tup [.str w2.s, va, vb]) np)
    refine q (.ref p) (.o2 w2 ta tb) _ ⟨p, va, vb, rfl, upd_same, hta5, htb.keep (TK.new np)⟩ ⟨fun z hz => ?_, oka.sm, okb.sm⟩ ?_ (F5.new np) (((B3.trans B4).trans B5).new np)
    · rcases List.mem_append.mp hz with hz | hz
      · exact oka.ln z hz
      · exact okb.ln z hz
    · show (ta.parts ++ tb.parts ++ [_]).length ≤ r
      rw [List.length_append, List.length_append]
      show _ + 1 ≤ r
      omega
theorem tree_all {C : Addr} (T : Top w K mg C) : ∀ (n : Nat) (f : Addr) (fd : FuncData), Fun K "_law_tree" "_law_tree" s_law_tree f fd → FnOk P w K mg base CX0 (n + 3) f fd ["_law_flow_here", "_law_room", "_law_now", "_law_names_here"] (spT K n)
  | 0, f, fd, F => by
    refine F.ok sc_law_tree (fun vs H Q E h => h.elim) (fun cdv A outer s H vs Q E hr h => h.elim)
  | n + 1, f, fd, F => tree_step T n (tree_all T n) F
abbrev sp_law_tree (K : PySem.W.Frag) : Sp := spT K 8
theorem ok_law_tree {C : Addr} {f : Addr} {fd : FuncData} (F : Fun K "_law_tree" "_law_tree" s_law_tree f fd) (T : Top w K mg C) : FnOk P w K mg base CX0 11 f fd ["_law_flow_here", "_law_room", "_law_now", "_law_names_here"] (sp_law_tree K) := tree_all T 8 f fd F
end
/-- the word at a tree's head -/
def Tr.wd : Tr → Str
  | .nm _ _ => "name"
  | .no _ => "number"
  | .tm _ _ => "times"
  | .o2 w _ _ => w.s
  | .o3 _ _ _ => "pick"
theorem Tr.hd_wd (t : Tr) : ∃ r, t.hd = .str t.wd :: r ∧ (∀ x ∈ r, (∃ z, x = V.str z) ∨ ∃ i, x = V.int i) := by
  cases t with
  | nm n k => exact ⟨_, rfl, fun x hx => by
      rcases List.mem_cons.mp hx with rfl | hx
      · exact .inl ⟨_, rfl⟩
      · exact .inr ⟨_, List.mem_singleton.mp hx⟩⟩
  | no i => exact ⟨_, rfl, fun x hx => .inr ⟨_, List.mem_singleton.mp hx⟩⟩
  | tm k t => exact ⟨_, rfl, fun x hx => .inr ⟨_, List.mem_singleton.mp hx⟩⟩
  | o2 w a b => exact ⟨[], rfl, fun x hx => by cases hx⟩
  | o3 a b c => exact ⟨[], rfl, fun x hx => by cases hx⟩
theorem Tr.wd_nm (t : Tr) : t.isNm = decide (t.wd = "name") := by
  cases t with
  | o2 w a b => cases w <;> rfl
  | _ => rfl
/-! ### what the law sees in trees -/
def Tr.dep : Tr → Nat
  | .nm _ _ => 1
  | .no _ => 1
  | .tm _ t => t.dep + 1
  | .o2 _ a b => max a.dep b.dep + 1
  | .o3 a b c => max a.dep (max b.dep c.dep) + 1
theorem Tr.dep_parts (t : Tr) : t.dep ≤ t.parts.length := by
  induction t with
  | nm n k => exact Nat.le_refl _
  | no i => exact Nat.le_refl _
  | tm k t ih => simp only [Tr.dep, Tr.parts, List.length_append]; show _ ≤ _ + 1; omega
  | o2 w a b i1 i2 => simp only [Tr.dep, Tr.parts, List.length_append]; show _ ≤ _ + 1; omega
  | o3 a b c i1 i2 i3 => simp only [Tr.dep, Tr.parts, List.length_append]; show _ ≤ _ + 1; omega
theorem Tr.dep_kid {t u : Tr} (h : u ∈ t.kids) : u.dep + 1 ≤ t.dep := by
  cases t with
  | nm n k => cases h
  | no i => cases h
  | tm k t => rw [List.mem_singleton.mp h]; exact Nat.le_refl _
  | o2 w a b =>
    simp only [Tr.kids, List.mem_cons, List.not_mem_nil, or_false] at h
    simp only [Tr.dep]
    rcases h with rfl | rfl <;> omega
  | o3 a b c =>
    simp only [Tr.kids, List.mem_cons, List.not_mem_nil, or_false] at h
    simp only [Tr.dep]
    rcases h with rfl | rfl | rfl <;> omega
theorem Tr.leans_kids {t : Tr} (h : t.isNm = false) : t.leans = t.kids.flatMap Tr.leans := by
  cases t with
  | nm n k => cases h
  | no i => rfl
  | tm k t => simp [Tr.leans, Tr.kids]
  | o2 w a b => simp [Tr.leans, Tr.kids]
  | o3 a b c => simp [Tr.leans, Tr.kids]
def Tr.isNo : Tr → Bool
  | .no _ => true
  | _ => false
theorem Tr.wd_no (t : Tr) : t.isNo = decide (t.wd = "number") := by
  cases t with
  | o2 w a b => cases w <;> rfl
  | _ => rfl
/-! ### formulas drawn -/
abbrev stV (tf : Str → V) (ns : List Str) : List (Key × V) := ns.map fun z => (Sum.inr z, tf z)
theorem stV_val {tf : Str → V} {ns : List Str} (z : Str) : valV (stV tf ns) (Sum.inr z) = if z ∈ ns then some (tf z) else none := by
  induction ns with
  | nil => rfl
  | cons x r ih =>
    unfold valV at ih ⊢
    show Option.map _ (List.find? _ ((Sum.inr x, tf x) :: stV tf r)) = _
    rw [List.find?_cons]
    by_cases h : x = z
    · subst h
      rw [decide_eq_true rfl, if_pos (List.mem_cons_self ..)]; rfl
    · rw [decide_eq_false fun k => h (Sum.inr.inj k)]
      have : (z ∈ x :: r) ↔ z ∈ r := ⟨fun k => (List.mem_cons.mp k).resolve_left fun y => h y.symm, List.mem_cons_of_mem _⟩
      by_cases k : z ∈ r
      · rw [if_pos (this.mpr k)]
        rw [if_pos k] at ih
        exact ih
      · rw [if_neg fun y => k (this.mp y)]
        rw [if_neg k] at ih
        exact ih
theorem stV_put (tf : Str → V) {ns : List Str} {z : Str} (h : z ∉ ns) (v : V) : putK (stV tf ns) (Sum.inr z) v = stV (fun y => if y = z then v else tf y) (ns ++ [z]) := by
  rw [putK_new _ (by rw [stV_val, if_neg h])]
  unfold stV
  rw [List.map_append]
  congr 1
  · refine List.map_congr_left fun y hy => ?_
    show (_, tf y) = (_, if y = z then v else tf y)
    rw [if_neg (show ¬ y = z from fun e => h (e ▸ hy))]
  · show [_] = [(_, if z = z then v else tf z)]
    rw [if_pos rfl]
/-- what is so of formulas that the law draws -/
structure GFm (most : Nat) (F : Fm) : Prop where
  li : F.ins.length ≤ 4
  lr : F.rules.length ≤ most
  lw : F.was.length ≤ 9
  lo : F.outs.length ≤ 4
  nd : F.own.Nodup
  wd : ∀ z ∈ F.own, Wd 6 z ∧ z ∉ takL
  kn : F.kept.Nodup
  ko : ∀ z ∈ F.kept, z ∈ F.own
  th : ∀ p ∈ F.was, p.2.length ≤ 7 ∧ ∀ x ∈ p.2, Small x
  oo : ∀ z ∈ F.outs, z ∈ F.own
  tr : ∀ p ∈ F.rules, p.2.parts.length ≤ 10 ∧ p.2.small ∧ ∀ q ∈ p.2.leans, q.1 ∈ F.own ∧ q.2 ≤ 6
  rk : ∃ rk : Str → Nat, ∀ p ∈ F.rules, ∀ q ∈ p.2.leans, q.2 = 0 → rk q.1 < rk p.1
/-- the names of what comes in and of the rules, as the law draws them -/
structure Dr (most : Nat) (ins own : List Str) : Prop where
  li : ins.length ≤ 4
  lo : own.length ≤ most
  nd : (ins ++ own).Nodup
  wd : ∀ z ∈ ins ++ own, Wd 6 z ∧ z ∉ takL
theorem perm_strs {ys : List V} {own : List Str} (p : ys.Perm (own.map V.str)) : ∃ zs : List Str, ys = zs.map V.str ∧ zs.Perm own := by
  have base : ∀ l : List Str, All2 (fun v z => v = V.str z) (l.map V.str) l := by
    intro l
    induction l with
    | nil => exact .nil
    | cons x r ih => exact .cons rfl ih
  obtain ⟨zs, pz, al⟩ := All2.perm p (base own)
  refine ⟨zs, ?_, pz⟩
  clear pz p
  induction al with
  | nil => rfl
  | cons e _ ih => rw [List.map_cons, e, ih]
section
variable {P : Program} {w : World} {K : PySem.W.Frag} {mg : Str → Option Value} {base : Heap}
def sp_law_formulas (K : PySem.W.Frag) : Sp := fun vs H Q _ => ∃ (f c : Addr) (most : Nat), vs = [.ref f, nV most] ∧ most ≤ 5 ∧ Flow H f c ∧ ∀ (r : Addr) (F : Fm) (H' : Hp), FmAt H' r F → GFm most F → Flow H' f c → But f H H' → Q (.ref r) H'
theorem ok_law_formulas {f : Addr} {fd : FuncData} (F : Fun K "_law_formulas" "_law_formulas" s_law_formulas f fd) {C : Addr} (T : Top w K mg C) : FnOk P w K mg base CX0 12 f fd ["_law_flow_here", "_law_most"] (sp_law_formulas K) := by
  obtain ⟨f_law_names, fd_law_names, F_law_names, b_law_names, m_law_names⟩ := T.d_law_names
  have G_law_names := ok_law_names (P := P) (w := w) (base := base) F_law_names T
  obtain ⟨f_law_tree, fd_law_tree, F_law_tree, b_law_tree, m_law_tree⟩ := T.d_law_tree
  have G_law_tree := ok_law_tree (P := P) (w := w) (base := base) F_law_tree T
  obtain ⟨f_law_pick, fd_law_pick, F_law_pick, b_law_pick, m_law_pick⟩ := T.d_law_pick
  have G_law_pick := ok_law_pick (P := P) (w := w) (base := base) F_law_pick T
  obtain ⟨f_law_shuffled, fd_law_shuffled, F_law_shuffled, b_law_shuffled, m_law_shuffled⟩ := T.d_law_shuffled
  have G_law_shuffled := ok_law_shuffled (P := P) (w := w) (base := base) F_law_shuffled T
  obtain ⟨f_law_thing, fd_law_thing, F_law_thing, b_law_thing, m_law_thing⟩ := T.d_law_thing
  have G_law_thing := ok_law_thing (P := P) (w := w) (base := base) F_law_thing T
  refine F.ok sc_law_formulas (fun vs H Q E h => ?_) (fun cdv A outer s H vs Q E hr h => ?_)
  · obtain ⟨f, c, most, rfl, _⟩ := h
    rfl
  obtain ⟨f, c, most, rfl, m5, hF, q⟩ := h
  let sg : Addr → Addr → Addr → Addr → Option V → Option V → Option V → Option V → Option V → Option V → L2.St := fun nl il ol el v6 v7 v8 v9 v10 v11 => [some (.ref f), some (nV most), some (.ref nl), some (.ref il), some (.ref ol), some (.ref el), v6, v7, v8, v9, v10, v11]
  let Base : Addr → Addr → List Str → List Str → Hp → Prop := fun il el ins own H' => H' il = some (.lst (ins.map V.str)) ∧ H' el = some (.lst ((ins ++ own).map V.str)) ∧ Dr most ins own ∧ Flow H' f c ∧ But f H H' ∧ H il = none ∧ H el = none
  let R1 : TS := fun D' σ' H' => D'.rt = Q ∧ ∃ (nl il ol el td : Addr) (ins own : List Str), σ' = sg nl il ol el (some (.ref td)) none none none none none ∧ Base il el ins own H' ∧ H' ol = some (.lst (own.map V.str)) ∧ H' td = some (.dK []) ∧ H td = none
  let R2 : TS := fun D' σ' H' => D'.rt = Q ∧ ∃ (nl il ol el td : Addr) (ins own : List Str) (v7 v8 : Option V) (tf : Str → V) (tt : Str → Tr), σ' = sg nl il ol el (some (.ref td)) v7 v8 none none none ∧ Base il el ins own H' ∧ H' ol = some (.lst (own.map V.str)) ∧ H' td = some (.dK (stV tf own)) ∧ ∀ (j : Nat) (z : Str), own[j]? = some z → TrAt H' (tf z) (tt z) ∧ TOk (ins ++ own.take j) (ins ++ own) (tt z) ∧ (tt z).parts.length ≤ 10
  let R3 : TS := fun D' σ' H' => D'.rt = Q ∧ ∃ (nl il ol el rl : Addr) (ins own : List Str) (v6 v7 v8 : Option V) (rv : List V) (rules : List (Str × Tr)), σ' = sg nl il ol el v6 v7 v8 (some (.ref rl)) none none ∧ Base il el ins own H' ∧ H' rl = some (.lst rv) ∧ All2 (RlAt H') rv rules ∧ (rules.map (·.1)).Perm own ∧ ∀ p ∈ rules, ∃ j : Nat, own[j]? = some p.1 ∧ TOk (ins ++ own.take j) (ins ++ own) p.2 ∧ p.2.parts.length ≤ 10
  let R4 : TS := fun D' σ' H' => D'.rt = Q ∧ ∃ (nl il ol el rl wl : Addr) (ins own : List Str) (v6 v7 v8 : Option V) (rv wv : List V) (rules : List (Str × Tr)) (was : List (Str × List Int)), σ' = sg nl il ol el v6 v7 v8 (some (.ref rl)) (some (.ref wl)) none ∧ Base il el ins own H' ∧ H' rl = some (.lst rv) ∧ All2 (RlAt H') rv rules ∧ (rules.map (·.1)).Perm own ∧ (∀ p ∈ rules, ∃ j : Nat, own[j]? = some p.1 ∧ TOk (ins ++ own.take j) (ins ++ own) p.2 ∧ p.2.parts.length ≤ 10) ∧
    H' wl = some (.lst wv) ∧ All2 (WaAt H') wv was ∧ (was.map (·.1)).Sublist (ins ++ own) ∧ (∀ p ∈ was, p.2.length ≤ 7 ∧ ∀ x ∈ p.2, Small x)
  refine ⟨_, (pss_cons (ps_set (i := 2) sc_law_formulas.nd rfl (Or.inl rfl) (pe_call G_law_names (hr.mono (by decide)) (by rfl) m_law_names F_law_names.kp b_law_names .nil pass0 (pa_cons (pv 0) (pa_cons pe_int pa_nil))))
      (pss_cons (ps_set (i := 3) sc_law_formulas.nd rfl (Or.inl rfl) (pe_slice (sl_listK K rfl) (pv 2) po_none (po_some (pe_call G_law_pick (hr.mono (by decide)) (by rfl) m_law_pick F_law_pick.kp b_law_pick .nil pass0 (pa_cons (pv 0) (pa_cons pe_int pa_nil))))))
      (pss_cons (ps_set (i := 4) sc_law_formulas.nd rfl (Or.inl rfl) (pe_slice (sl_listK K rfl) (pv 2) (po_some pe_int) (po_some (pe_op op_add pe_int (pe_call G_law_pick (hr.mono (by decide)) (by rfl) m_law_pick F_law_pick.kp b_law_pick .nil pass0 (pa_cons (pv 0) (pa_cons (pe_op op_add (pv 1) pe_int) pa_nil)))))))
      (pss_cons (ps_set (i := 5) sc_law_formulas.nd rfl (Or.inr rfl) (pe_op op_cat (pv 3) (pv 4)))
      (pss_cons (ps_set (i := 6) sc_law_formulas.nd rfl (Or.inr rfl) pe_dnewK)
      (PSs.to (pss_cons (ps_for PassesOwn.never rfl (pi_enumK K rfl (by rfl) T.m_enumerate (pa_cons (pv 4) pa_nil)) (pg_tupK K rfl rfl (pgs_cons (pg_name (i := 7) sc_law_formulas.nd rfl (Or.inl rfl)) (pgs_cons (pg_name (i := 8) sc_law_formulas.nd rfl (Or.inl rfl)) pgs_nil)))
        (pss_one (ps_dput (hu_of hr) (pv 6) (pv 8) (pe_call G_law_tree (hr.mono (by decide)) (by rfl) m_law_tree F_law_tree.kp b_law_tree .nil pass0 (pa_cons (pv 0) (pa_cons (pe_op op_add pe_int (pe_call G_law_pick (hr.mono (by decide)) (by rfl) m_law_pick F_law_pick.kp b_law_pick .nil pass0 (pa_cons (pv 0) (pa_cons pe_int pa_nil)))) (pa_cons (pe_op op_cat (pv 3) (pe_slice (sl_listK K rfl) (pv 4) po_none (po_some (pv 7)))) (pa_cons (pv 5) pa_nil))))) (by rfl))))
      (PSs.to (pss_cons (ps_setLc (i := 9) (own := [("_law_name", 8)]) (g := gName 8) (tt := tYes) (by rfl) sc_law_formulas.nd rfl rfl (sw_true rfl rfl rfl (by decide +kernel)) (pi_listK K rfl (pe_call G_law_shuffled (hr.mono (by decide)) (by rfl) m_law_shuffled F_law_shuffled.kp b_law_shuffled .nil pass0 (pa_cons (pv 0) (pa_cons (pv 4) pa_nil)))) (blkOk_by (own := [("_law_name", 8)]) (N := N_law_formulas) (sc := defScope s_law_formulas) (by decide +kernel)) (fun _ _ _ _ _ => (pg_name (i := 8) sc_law_formulas.nd rfl (Or.inl rfl))) (fun _ _ _ _ _ => pts_nil) (fun _ _ _ _ _ => (pe_tup (pa_cons (pv 8) (pa_cons (pe_dget (hu_of hr) (pv 6) (pv 8) (fun _ _ => rfl)) pa_nil)))))
      (PSs.to (pss_cons (ps_set (i := 10) sc_law_formulas.nd rfl (Or.inl rfl) (pe_lst pa_nil))
      (pss_cons (ps_for PassesOwn.never rfl (pi_listK K rfl (pv 5)) (pg_name (i := 8) sc_law_formulas.nd rfl (Or.inl rfl))
        (pss_one (ps_if (pt_cmpR op_eq (pe_call G_law_pick (hr.mono (by decide)) (by rfl) m_law_pick F_law_pick.kp b_law_pick .nil pass0 (pa_cons (pv 0) (pa_cons pe_int pa_nil))) pe_int (nomark _)) (pss_one (ps_expr (pe_bmK K rfl PySem.F.plainAttrs_list PySem.F.slot_list_append PySem.F.type_list_append mt_append (pv 10) (pa_cons (pe_tup (pa_cons (pv 8) (pa_cons (pe_callTy (call_tuple_ofK K rfl) (by rfl) T.m_tuple (by decide +kernel) (pa_cons (pe_lc (own := [("_law_k", 7)]) (g := gName 7) (tt := tYes) (by rfl) sc_law_formulas.nd (pi_range1 (by rfl) T.m_range (pa_cons (pe_call G_law_pick (hr.mono (by decide)) (by rfl) m_law_pick F_law_pick.kp b_law_pick .nil pass0 (pa_cons (pv 0) (pa_cons pe_int pa_nil))) pa_nil)) (blkOk_by (own := [("_law_k", 7)]) (N := N_law_formulas) (sc := defScope s_law_formulas) (by decide +kernel)) (fun _ _ _ _ _ => (pg_name (i := 7) sc_law_formulas.nd rfl (Or.inl rfl))) (fun _ _ _ _ _ => pts_nil) (fun _ _ _ _ _ => (pe_call G_law_thing (hr.mono (by decide)) (by rfl) m_law_thing F_law_thing.kp b_law_thing .nil pass0 (pa_cons (pv 0) pa_nil)))) pa_nil)) pa_nil))) pa_nil)))) pss_nil)))
      (PSs.to (pss_cons (ps_setLc (i := 11) (own := [("_law_k", 7)]) (g := gName 7) (by rfl) sc_law_formulas.nd rfl rfl (sw_true rfl rfl rfl (by decide +kernel)) (pi_range1 (by rfl) T.m_range (pa_cons (pe_call G_law_pick (hr.mono (by decide)) (by rfl) m_law_pick F_law_pick.kp b_law_pick .nil pass0 (pa_cons (pv 0) (pa_cons pe_int pa_nil))) pa_nil)) (blkOk_by (own := [("_law_k", 7)]) (N := N_law_formulas) (sc := defScope s_law_formulas) (by decide +kernel)) (fun _ _ _ _ _ => (pg_name (i := 7) sc_law_formulas.nd rfl (Or.inl rfl))) (fun _ _ _ _ _ => pts_one (pt_cmpR (op_neDK K rfl hr.units) (pv 5) (pe_lst pa_nil) (nomark _))) (fun _ _ _ _ _ => (pe_ix (ix_listK K rfl) (pv 5) (pe_call G_law_pick (hr.mono (by decide)) (by rfl) m_law_pick F_law_pick.kp b_law_pick .nil pass0 (pa_cons (pv 0) (pa_cons (pe_callB (call_len_seqK K rfl) (by rfl) T.m_len (by decide +kernel) (pa_cons (pv 5) pa_nil)) pa_nil))) (fun _ _ => rfl))))
      (pss_one (ps_ret (pe_tup (pa_cons (pe_callTy (call_tuple_ofK K rfl) (by rfl) T.m_tuple (by decide +kernel) (pa_cons (pv 3) pa_nil)) (pa_cons (pe_callTy (call_tuple_ofK K rfl) (by rfl) T.m_tuple (by decide +kernel) (pa_cons (pe_call G_law_shuffled (hr.mono (by decide)) (by rfl) m_law_shuffled F_law_shuffled.kp b_law_shuffled .nil pass0 (pa_cons (pv 0) (pa_cons (pv 10) pa_nil))) pa_nil)) (pa_cons (pe_callTy (call_tuple_ofK K rfl) (by rfl) T.m_tuple (by decide +kernel) (pa_cons (pv 9) pa_nil)) (pa_cons (pe_callTy (call_tuple_ofK K rfl) (by rfl) T.m_tuple (by decide +kernel) (pa_cons (pv 11) pa_nil)) pa_nil)))))))) R4 ?tail4))) R3 ?tail3)) R2 ?tail2)) R1 ?tail1)))))), ?_⟩
  case tail4 =>
    rintro D' σ' H1 ⟨eD, nl, il, ol, el, rl, wl, ins, own, v6, v7, v8, rv, wv, rules, was, rfl, ⟨hil, hel, dr, F1, B1, nil0, nel0⟩, hrl, alr, pmr, ru, hwl, alw, sub, wth⟩
    have elf := F1.neS hel
    have ilf := F1.neS hil
    have lins := dr.li
    have lown := dr.lo
    have lrules : rules.length = own.length := by
      have := pmr.length_eq
      rwa [List.length_map] at this
    have notf : ∀ {p : Addr} {xs : List V}, H1 p = some (.lst xs) → (∀ x ∈ xs, ∃ (a : Addr) (ys : List V), x = .ref a ∧ H1 a = some (.tup ys)) → p ≠ f := fun {p xs} e all z => by
      obtain ⟨ns, i, a, q, r, e1, e2, _⟩ := F1
      rw [z, e1] at e
      obtain rfl := HO.lst.inj (Option.some.inj e)
      obtain ⟨b, ys, eb, e3⟩ := all _ (List.mem_cons_self ..)
      cases eb
      rw [e2] at e3
      cases e3
    have rlf : rl ≠ f := notf hrl fun x hx => by
      obtain ⟨j, ej⟩ := List.getElem?_of_mem hx
      obtain ⟨p, _, t, y, rfl, e, _⟩ := alr.getL ej
      exact ⟨t, _, rfl, e⟩
    have wlf : wl ≠ f := notf hwl fun x hx => by
      obtain ⟨j, ej⟩ := List.getElem?_of_mem hx
      obtain ⟨p, _, t, y, rfl, e, _⟩ := alw.getL ej
      exact ⟨t, _, rfl, e⟩
    refine ⟨_, rfl, f, c, 5, rfl, by decide, by decide, F1, fun u H2 u0 u1 F2 B2 => ⟨_, rfl, by omega, by omega, fun D nD => ?_⟩⟩
    have Df : D ≠ f := F2.ne nD
    have Dc : D ≠ c := F2.nec nD
    have hel2 := B2 _ _ hel elf
    refine lc_range (lo := 0) (n := u.toNat) (fun k H9 => ∃ os : List Str, H9 D = some (.lst (os.map V.str)) ∧ os.length ≤ k ∧ (∀ x ∈ os, x ∈ ins ++ own) ∧ Flow H9 f c ∧ But f H2 H9) ⟨[], upd_same, Nat.le_refl _, (fun _ y => by cases y), F2.new nD, But.refl.new nD⟩ ?_ ?_
    · rintro k H9 hk ⟨os, hD, lo, oin, F9, B9⟩
      have hel9 := B9 _ _ hel2 elf
      refine ⟨rfl, ?_⟩
      refine ⟨_, rfl, (by show 0 ≤ sizeLine; decide), fun p1 np1 => ?_⟩
      have s10 : Same H9 (upd H9 p1 (.lst [])) := same_new np1
      have hp1 : (upd H9 p1 (.lst [])) p1 = some (.lst []) := upd_same
      have F10 := F9.new (o := .lst []) np1
      have hD10 := s10 _ _ hD
      have hel10 := s10 _ _ hel9
      generalize upd H9 p1 (.lst []) = H10 at s10 hp1 F10 hD10 hel10 ⊢
      have B10 := B9.same s10
      refine ⟨_, _, .lst (SqL.of hel10) (dp_strs _), .lst (SqL.of hp1) .nil, strs_shaped (m := 6) (fun z hz => (dr.wd z hz).1), rfl, _, rfl, ?_⟩
      have ee : PyData.eqv (.list ((ins ++ own).map PyData.str)) (.list []) = ((ins ++ own).map PyData.str).isEmpty := eqv_nil
      rw [ee]
      by_cases emp : ins ++ own = []
      · have en : (!((ins ++ own).map PyData.str).isEmpty) = false := by rw [emp]; rfl
        rw [en]
        refine if_bl (fun z => nomatch z) (fun _ => ?_)
        exact ⟨os, hD10, by omega, oin, F10, B10⟩
      · have pos : 0 < (ins ++ own).length := List.length_pos_iff.mpr emp
        have ne : (!((ins ++ own).map PyData.str).isEmpty) = true := by
          cases hl : ins ++ own with
          | nil => exact absurd hl emp
          | cons a b => rfl
        rw [ne]
        refine if_bl (fun _ => ?_) (fun z => nomatch z)
        refine ⟨_, rfl, _, rfl, _, rfl, el, _, rfl, .inl (SqL.of hel10), f, c, (((ins ++ own).length : Nat) : Int), ?_, by omega, log_small (by rw [List.length_append]; omega), F10, fun v2 H11 v20 v21 F11 B11 => ?_⟩
        · rw [List.length_map, List.append_nil]
        have hel11 := B11 _ _ hel10 elf
        obtain ⟨z, ez, mz⟩ := at_strs v20 v21
        refine ⟨el, _, v2, _, rfl, rfl, SqL.of hel11, ez, _, B11 _ _ hD10 Df, by rw [List.length_map]; exact small1000 (by omega), os ++ [z], by rw [upd_same, List.map_append]; rfl, by rw [List.length_append]; show _ + 1 ≤ _; omega, fun y hy => ?_, F11.lst Df Dc, (B10.trans B11).own nD⟩
        rcases List.mem_append.mp hy with h | h
        · exact oin y h
        · rw [List.mem_singleton.mp h]; exact mz
    · rintro H3 ⟨os, hD, lo, oin, F3, B3⟩
      have B13 := B2.trans B3
      have hil3 := B13 _ _ hil ilf
      refine ⟨_, rfl, il, _, rfl, .inl ⟨SqL.of hil3, fun a1 na1 => ?_⟩⟩
      have s4 : Same H3 (upd H3 a1 (.tup (ins.map V.str))) := same_new na1
      have ha1 : (upd H3 a1 (.tup (ins.map V.str))) a1 = some (.tup (ins.map V.str)) := upd_same
      have F4 := F3.new (o := .tup (ins.map V.str)) na1
      have B14 := B13.same s4
      have a1f : a1 ≠ f := F3.ne na1
      have hD4 := s4 _ _ hD
      generalize upd H3 a1 (.tup (ins.map V.str)) = H4 at s4 ha1 F4 B14 hD4 ⊢
      have lw := alw.length
      have lw2 := sub.length_le
      rw [List.length_map, List.length_append] at lw2
      refine ⟨_, rfl, _, rfl, f, c, wl, wv, rfl, SqL.of (B14 _ _ hwl wlf), wlf, by omega, F4, fun p ys H5 pm np hp F5 B5 => ?_⟩
      have alw5 : All2 (WaAt H5) wv was := alw.imp fun _ _ y => (y.keep (TK.but F1 B14)).keep (TK.but F4 B5)
      obtain ⟨was2, pw, alw6⟩ := All2.perm pm alw5
      have B15 := B14.trans B5
      refine ⟨p, ys, rfl, .inl ⟨SqL.of hp, fun a2 na2 => ?_⟩⟩
      have s6 : Same H5 (upd H5 a2 (.tup ys)) := same_new na2
      have ha2 : (upd H5 a2 (.tup ys)) a2 = some (.tup ys) := upd_same
      have F6 := F5.new (o := .tup ys) na2
      have B16 := B15.same s6
      have hrl6 := B16 _ _ hrl rlf
      have hD6 := s6 _ _ (B5 _ _ hD4 Df)
      have ha16 := s6 _ _ (B5 _ _ ha1 a1f)
      generalize upd H5 a2 (.tup ys) = H6 at s6 ha2 F6 B16 hrl6 hD6 ha16 ⊢
      refine ⟨_, rfl, rl, rv, rfl, .inl ⟨SqL.of hrl6, fun a3 na3 => ?_⟩⟩
      have s7 : Same H6 (upd H6 a3 (.tup rv)) := same_new na3
      have ha3 : (upd H6 a3 (.tup rv)) a3 = some (.tup rv) := upd_same
      have hD7 := s7 _ _ hD6
      generalize upd H6 a3 (.tup rv) = H7 at s7 ha3 hD7 ⊢
      refine ⟨_, rfl, D, _, rfl, .inl ⟨SqL.of hD7, fun a4 na4 => ⟨(by show 4 ≤ sizeLine; decide), fun r nr => ?_⟩⟩⟩
      have s8 : Same H7 (upd H7 a4 (.tup (os.map V.str))) := same_new na4
      have ha4 : (upd H7 a4 (.tup (os.map V.str))) a4 = some (.tup (os.map V.str)) := upd_same
      generalize upd H7 a4 (.tup (os.map V.str)) = H8 at s8 ha4 nr ⊢
      have s9 : Same H8 (upd H8 r (.tup [.ref a1, .ref a2, .ref a3, .ref a4])) := same_new nr
      have s69 := s7.trans (s8.trans s9)
      rw [eD]
      have ow : (ins ++ rules.map (·.1)).Perm (ins ++ own) := List.Perm.append_left ins pmr
      have mo : ∀ z, z ∈ ins ++ rules.map (·.1) ↔ z ∈ ins ++ own := fun z => ow.mem_iff
      refine q r ⟨ins, was2, rules, os⟩ _ ⟨a1, a2, a3, a4, ys, rv, upd_same, s69 _ _ ha16, s69 _ _ ha2, alw6.imp fun _ _ y => (y.keep (TK.same s6)).keep (TK.same s69), s9 _ _ (s8 _ _ ha3), alr.imp fun _ _ y => (y.keep (TK.but F1 B16)).keep (TK.same s69), s9 _ _ ha4⟩ ?_ (F6.same s69) ((B1.trans B16).same s69)
      have u5 : u.toNat ≤ 4 := by omega
      have m5' := m5
      have pk : (was2.map (·.1)).Perm (was.map (·.1)) := pw.map _
      refine ⟨dr.li, by show rules.length ≤ most; omega, by show was2.length ≤ 9; rw [pw.length_eq]; have := List.length_map (as := was) (·.1); omega, by show os.length ≤ 4; omega, ow.nodup_iff.mpr dr.nd, fun z hz => dr.wd z ((mo z).mp hz), pk.nodup_iff.mpr (List.Nodup.sublist sub dr.nd), fun z hz => (mo z).mpr (sub.subset (pk.mem_iff.mp hz)), fun p hp => wth p (pw.mem_iff.mp hp), fun z hz => (mo z).mpr (oin z hz), fun p hp => ?_, ?_⟩
      · obtain ⟨j, ej, tok, lp⟩ := ru p hp
        refine ⟨lp, tok.sm, fun q hq => ?_⟩
        rcases tok.ln q hq with ⟨e0, m⟩ | ⟨e0, e6, m⟩
        · refine ⟨(mo _).mpr ?_, by omega⟩
          rcases List.mem_append.mp m with m | m
          · exact List.mem_append.mpr (.inl m)
          · exact List.mem_append.mpr (.inr (List.mem_of_mem_take m))
        · exact ⟨(mo _).mpr m, e6⟩
      · have ndo : own.Nodup := (List.nodup_append.mp dr.nd).2.1
        have key : ∃ rk : Str → Nat, (∀ (j : Nat) (z : Str), own[j]? = some z → rk z = j + 1) ∧ ∀ z, z ∉ own → rk z = 0 := by
          classical
          refine ⟨fun z => if h : ∃ j, own[j]? = some z then Classical.choose h + 1 else 0, fun j z e => ?_, fun z hz => dif_neg fun ⟨j, e⟩ => hz (List.mem_of_getElem? e)⟩
          have h : ∃ j, own[j]? = some z := ⟨j, e⟩
          show (if h : ∃ j, own[j]? = some z then Classical.choose h + 1 else 0) = j + 1
          rw [dif_pos h, nodup_get ndo (Classical.choose_spec h) e]
        obtain ⟨rk, k1, k2⟩ := key
        refine ⟨rk, fun p hp q hq q0 => ?_⟩
        obtain ⟨j, ej, tok, lp⟩ := ru p hp
        rw [k1 j _ ej]
        rcases tok.ln q hq with ⟨_, m⟩ | ⟨e0, _, _⟩
        · rcases List.mem_append.mp m with m | m
          · have : q.1 ∉ own := fun y => (List.nodup_append.mp dr.nd).2.2 _ m _ y rfl
            rw [k2 _ this]
            omega
          · obtain ⟨i, hi, ei⟩ := List.mem_take_iff_getElem.mp m
            have := k1 i q.1 (List.getElem?_eq_some_iff.mpr ⟨by omega, ei⟩)
            omega
        · omega
  case tail3 =>
    rintro D' σ' H1 ⟨eD, nl, il, ol, el, rl, ins, own, v6, v7, v8, rv, rules, rfl, ⟨hil, hel, dr, F1, B1, nil0, nel0⟩, hrl, alr, pmr, ru⟩
    have elf := F1.neS hel
    have ilf := F1.neS hil
    have rlf : rl ≠ f := fun z => by
      obtain ⟨_, _, _, _, _, e1, _⟩ := F1
      rw [z, e1] at hrl
      obtain rfl := HO.lst.inj (Option.some.inj hrl)
      cases alr with
      | cons a b => cases b with
        | cons a2 b =>
          obtain ⟨_, _, e, _⟩ := a2
          cases e
    have lins := dr.li
    have lown := dr.lo
    refine ⟨(by show 0 ≤ sizeLine; decide), fun wl nwl => ?_⟩
    have wf : wl ≠ f := F1.ne nwl
    have wc : wl ≠ c := F1.nec nwl
    have nw0 : H wl = none := But.none B1 nwl wf
    have F2 := F1.new (o := .lst []) nwl
    have B2 := B1.new (o := .lst []) nwl
    have hwl2 : (upd H1 wl (.lst [])) wl = some (.lst []) := upd_same
    have hil2 := same_new (o := .lst []) nwl _ _ hil
    have hel2 := same_new (o := .lst []) nwl _ _ hel
    have hrl2 := same_new (o := .lst []) nwl _ _ hrl
    have nil2 : il ≠ wl := ne_of_none hil nwl
    have nel2 : el ≠ wl := ne_of_none hel nwl
    have nrl2 : rl ≠ wl := ne_of_none hrl nwl
    replace alr := alr.imp fun _ _ z => z.keep (TK.new (o := .lst []) nwl)
    generalize upd H1 wl (.lst []) = H2 at F2 B2 hwl2 hil2 hel2 hrl2 alr ⊢
    refine ⟨_, rfl, el, rfl, ⟨_, SqL.of hel2⟩, for_list (K := K) (a := el) (xs := (ins ++ own).map V.str) (fun i σ H5 => ∃ (v7 v8 : Option V) (wv : List V) (was : List (Str × List Int)), σ = sg nl il ol el v6 v7 v8 (some (.ref rl)) (some (.ref wl)) none ∧ Base il el ins own H5 ∧ H5 rl = some (.lst rv) ∧ All2 (RlAt H5) rv rules ∧ H5 wl = some (.lst wv) ∧ All2 (WaAt H5) wv was ∧ (was.map (·.1)).Sublist ((ins ++ own).take i) ∧ (∀ p ∈ was, p.2.length ≤ 7 ∧ ∀ x ∈ p.2, Small x)) ⟨v7, v8, [], [], rfl, ⟨hil2, hel2, dr, F2, B2, nil0, nel0⟩, hrl2, alr, hwl2, .nil, List.nil_sublist _, fun _ z => by cases z⟩ (fun i σ H5 _ ⟨_, _, _, _, _, b, _⟩ => SqL.of b.2.1) ?_ ?_⟩
    · rintro i v σ H5 hx ⟨v7, v8, wv, was, rfl, ⟨hil5, hel5, _, F5, B5, _, _⟩, hrl5, alr5, hwl5, alw5, sub, wth⟩
      rw [List.getElem?_map] at hx
      cases ez : (ins ++ own)[i]? with
      | none => rw [ez] at hx; cases hx
      | some z =>
      rw [ez] at hx
      obtain rfl : V.str z = v := Option.some.inj hx
      have tk : (ins ++ own).take (i + 1) = (ins ++ own).take i ++ [z] := by rw [List.take_add_one, ez]; rfl
      refine ⟨_, rfl, f, c, 2, rfl, by decide, by decide, F5, fun v H6 v0 v1 F6 B6 => ⟨rfl, _, rfl, if_bl (fun _ => ?_) (fun _ => ?_)⟩⟩
      · have hwl6 := B6 _ _ hwl5 wf
        refine ⟨_, rfl, .inl ⟨rfl, _, SqL.of hwl6⟩, _, rfl, _, rfl, f, c, 8, rfl, by decide, by decide, F6, fun u H7 u0 u1 F7 B7 => ⟨_, rfl, by omega, by omega, fun D nD => ?_⟩⟩
        have Df : D ≠ f := F7.ne nD
        have Dc : D ≠ c := F7.nec nD
        have hwl7 := B7 _ _ hwl6 wf
        have Dw : D ≠ wl := fun y => by rw [y, hwl7] at nD; cases nD
        refine lc_range (lo := 0) (n := u.toNat) (fun k H9 => ∃ ts : List Int, H9 D = some (.lst (ts.map V.int)) ∧ ts.length = k ∧ (∀ x ∈ ts, Small x) ∧ Flow H9 f c ∧ But f H7 H9) ⟨[], upd_same, rfl, (fun _ y => by cases y), F7.new nD, But.refl.new nD⟩ ?_ ?_
        · rintro k H9 hk ⟨ts, hD, lt, sm, F9, B9⟩
          refine ⟨rfl, yes_in ⟨_, rfl, f, c, rfl, F9, fun x H10 sx F10 B10 => ⟨ts.map V.int, B10 _ _ hD Df, by rw [List.length_map]; exact small1000 (by omega), ts ++ [x], by rw [upd_same, List.map_append]; rfl, by rw [List.length_append, lt]; rfl, fun y hy => ?_, F10.lst Df Dc, (B9.trans B10).own nD⟩⟩⟩
          rcases List.mem_append.mp hy with h | h
          · exact sm y h
          · rw [List.mem_singleton.mp h]; exact sx
        · rintro H9 ⟨ts, hD, lt, sm, F9, B9⟩
          refine ⟨D, _, rfl, .inl ⟨SqL.of hD, fun pt npt => ⟨(by show 2 ≤ sizeLine; decide), fun pu npu => ?_⟩⟩⟩
          have s10 : Same H9 (upd (upd H9 pt (.tup (ts.map V.int))) pu (.tup [V.str z, V.ref pt])) := (same_new npt).trans (same_new npu)
          have h1 : (upd (upd H9 pt (.tup (ts.map V.int))) pu (.tup [V.str z, V.ref pt])) pt = some (.tup (ts.map V.int)) := same_new npu _ _ upd_same
          have h2 : (upd (upd H9 pt (.tup (ts.map V.int))) pu (.tup [V.str z, V.ref pt])) pu = some (.tup [V.str z, V.ref pt]) := upd_same
          generalize upd (upd H9 pt (.tup (ts.map V.int))) pu (.tup [V.str z, V.ref pt]) = H10 at s10 h1 h2 ⊢
          have B510 : But f H5 H10 := ((B6.trans B7).trans B9).same s10
          have hwl10 := B510 _ _ hwl5 wf
          have k10 : TK H5 (upd H10 wl (.lst (wv ++ [.ref pu]))) := (TK.but F5 B510).trans (TK.lst hwl10)
          have lw := alw5.length
          have lw2 := sub.length_le
          rw [List.length_map, List.length_take, List.length_append] at lw2
          refine ⟨wl, _, _, rfl, rfl, hwl10, small1000 (by omega), _, _, wv ++ [.ref pu], was ++ [(z, ts)], rfl, ⟨by rw [upd_ne nil2]; exact B510 _ _ hil5 ilf, by rw [upd_ne nel2]; exact B510 _ _ hel5 elf, dr, (F9.same s10).lst wf wc, (B5.trans B510).own nw0, nil0, nel0⟩, by rw [upd_ne nrl2]; exact B510 _ _ hrl5 rlf, alr5.imp fun _ _ y => y.keep k10, upd_same, ?_, ?_, ?_⟩
          · refine (alw5.imp fun _ _ y => y.keep k10).snoc ⟨pu, pt, rfl, TK.lst hwl10 _ _ h2, TK.lst hwl10 _ _ h1⟩
          · rw [tk, List.map_append]
            exact sub.append (List.Sublist.refl _)
          · intro p hp
            rcases List.mem_append.mp hp with y | y
            · exact wth p y
            · rw [List.mem_singleton.mp y]
              exact ⟨by show ts.length ≤ 7; omega, sm⟩
      · refine ⟨_, _, wv, was, rfl, ⟨B6 _ _ hil5 ilf, B6 _ _ hel5 elf, dr, F6, B5.trans B6, nil0, nel0⟩, B6 _ _ hrl5 rlf, alr5.imp fun _ _ y => y.keep (TK.but F5 B6), B6 _ _ hwl5 wf, alw5.imp fun _ _ y => y.keep (TK.but F5 B6), ?_, wth⟩
        rw [tk]
        exact sub.trans (List.sublist_append_left _ _)
    · rintro σ H5 ⟨v7, v8, wv, was, rfl, b5, hrl5, alr5, hwl5, alw5, sub, wth⟩
      rw [List.length_map, List.take_of_length_le (Nat.le_refl _)] at sub
      exact ⟨eD, nl, il, ol, el, rl, wl, ins, own, v6, v7, v8, rv, wv, rules, was, rfl, b5, hrl5, alr5, pmr, ru, hwl5, alw5, sub, wth⟩
  case tail2 =>
    rintro D' σ' H1 ⟨eD, nl, il, ol, el, td, ins, own, v7, v8, tf, tt, rfl, ⟨hil, hel, dr, F1, B1, nil0, nel0⟩, hol, htd, hT⟩
    have olf := F1.neS hol
    have elf := F1.neS hel
    have ilf := F1.neS hil
    have tdf : td ≠ f := fun z => by
      obtain ⟨_, _, _, _, _, e1, _⟩ := F1
      rw [z, e1] at htd
      cases htd
    have ndo : own.Nodup := (List.nodup_append.mp dr.nd).2.1
    have lo5 : own.length ≤ 5 := Nat.le_trans dr.lo m5
    refine ⟨_, rfl, _, rfl, f, c, ol, _, rfl, SqL.of hol, olf, by rw [List.length_map]; omega, F1, fun p1 ys H2 pm np1 hp1 F2 B2 => ?_⟩
    obtain ⟨zs, rfl, pz⟩ := perm_strs pm
    refine ⟨p1, rfl, ⟨_, SqL.of hp1⟩, fun D nD => ?_⟩
    have Df : D ≠ f := F2.ne nD
    have Dc : D ≠ c := F2.nec nD
    have pf : p1 ≠ f := F2.neS hp1
    have htd2 := B2 _ _ htd tdf
    refine lc_list (K := K) (a := p1) (xs := zs.map V.str) (fun i H9 => ∃ (rv : List V) (rules : List (Str × Tr)), H9 D = some (.lst rv) ∧ All2 (RlAt H9) rv rules ∧ rules.map (·.1) = zs.take i ∧ (∀ p ∈ rules, ∃ j : Nat, own[j]? = some p.1 ∧ TOk (ins ++ own.take j) (ins ++ own) p.2 ∧ p.2.parts.length ≤ 10) ∧ Same H2 H9) ⟨[], [], upd_same, .nil, rfl, (fun _ z => by cases z), same_new nD⟩ (fun i H9 _ ⟨_, _, _, _, _, _, s9⟩ => SqL.of (s9 _ _ hp1)) ?_ ?_
    · rintro i v H9 hx ⟨rv, rules, hD, al, em, ru, s9⟩
      rw [List.getElem?_map] at hx
      cases ez : zs[i]? with
      | none => rw [ez] at hx; cases hx
      | some z =>
      rw [ez] at hx
      obtain rfl : V.str z = v := Option.some.inj hx
      obtain ⟨j, ej⟩ := List.getElem?_of_mem (pz.mem_iff.mp (List.mem_of_getElem? ez))
      obtain ⟨g1, g2, g3⟩ := hT j z ej
      have gt := DGet.k (k := Sum.inr z) (s9 _ _ htd2)
      rw [stV_val, if_pos (List.mem_of_getElem? ej)] at gt
      refine ⟨rfl, yes_in ⟨_, rfl, _, rfl, _, rfl, td, _, rfl, gt, (by show 2 ≤ sizeLine; decide), fun pt npt => ?_⟩⟩
      have s10 : Same H9 (upd H9 pt (.tup [V.str z, tf z])) := same_new npt
      have nDp : D ≠ pt := fun y => by rw [← y, hD] at npt; cases npt
      have hpt : (upd H9 pt (.tup [V.str z, tf z])) pt = some (.tup [V.str z, tf z]) := upd_same
      have hD10 := s10 _ _ hD
      generalize upd H9 pt (.tup [V.str z, tf z]) = H10 at s10 hpt hD10 ⊢
      have kd : TK H10 (upd H10 D (.lst (rv ++ [.ref pt]))) := TK.lst hD10
      have lr := al.length
      have lr2 : rules.length ≤ own.length := by
        have := congrArg List.length em
        rw [List.length_map, List.length_take] at this
        have := pz.length_eq
        omega
      refine ⟨rv, hD10, small1000 (by omega), rv ++ [.ref pt], rules ++ [(z, tt z)], upd_same, ?_, ?_, ?_, Same.own (s9.trans s10) nD⟩
      · refine ((al.imp fun _ _ y => y.keep ((TK.same s10).trans kd))).snoc ⟨pt, tf z, rfl, kd _ _ hpt, ?_⟩
        exact ((((g1.keep (TK.but F1 B2)).keep (TK.same s9)).keep (TK.same s10)).keep kd)
      · rw [List.map_append, em, List.take_add_one, ez]; rfl
      · intro p hp
        rcases List.mem_append.mp hp with y | y
        · exact ru p y
        · rw [List.mem_singleton.mp y]
          exact ⟨j, ej, g2, g3⟩
    · rintro H9 ⟨rv, rules, hD, al, em, ru, s9⟩
      rw [List.length_map, List.take_of_length_le (Nat.le_refl _)] at em
      refine ⟨eD, nl, il, ol, el, D, ins, own, _, v7, v8, rv, rules, rfl, ⟨s9 _ _ (B2 _ _ hil ilf), s9 _ _ (B2 _ _ hel elf), dr, F2.same s9, (B1.trans B2).same s9, nil0, nel0⟩, hD, al, by rw [em]; exact pz, ru⟩
  case tail1 =>
    rintro D' σ' H1 ⟨eD, nl, il, ol, el, td, ins, own, rfl, ⟨hil, hel, dr, F1, B1, nil0, nel0⟩, hol, htd, ntd⟩
    have olf := F1.neS hol
    have elf := F1.neS hel
    have ilf := F1.neS hil
    have tdf : td ≠ f := fun z => by
      obtain ⟨_, _, _, _, _, e1, _⟩ := F1
      rw [z, e1] at htd
      cases htd
    have ndo : own.Nodup := (List.nodup_append.mp dr.nd).2.1
    refine ⟨_, rfl, ol, _, rfl, SqL.of hol, for_it (n := own.length) (fun i σ H5 => ∃ (v7 v8 : Option V) (tf : Str → V) (tt : Str → Tr), σ = sg nl il ol el (some (.ref td)) v7 v8 none none none ∧ Base il el ins own H5 ∧ H5 ol = some (.lst (own.map V.str)) ∧ H5 td = some (.dK (stV tf (own.take i))) ∧ ∀ (j : Nat) (z : Str), j < i → own[j]? = some z → TrAt H5 (tf z) (tt z) ∧ TOk (ins ++ own.take j) (ins ++ own) (tt z) ∧ (tt z).parts.length ≤ 10) ⟨none, none, fun _ => .non, fun _ => .no 0, rfl, ⟨hil, hel, dr, F1, B1, nil0, nel0⟩, hol, htd, fun j z hj => absurd hj (Nat.not_lt_zero _)⟩ ?_ ?_ ?_ ?_⟩
    · rintro i σ H5 hi ⟨_, _, _, _, rfl, _, h, _⟩
      exact ⟨_, _, SqL.of h, by rw [List.getElem?_map, List.getElem?_eq_getElem hi]; rfl⟩
    · rintro σ H5 ⟨_, _, _, _, rfl, _, h, _⟩
      exact ⟨_, SqL.of h, by rw [List.length_map]; exact Nat.le_refl _⟩
    · rintro i x σ H5 H6 hi ⟨v7, v8, tf, tt, rfl, ⟨hil5, hel5, _, F5, B5, _, _⟩, hol5, htd5, hT⟩ ⟨t, y, rfl, nt, rfl, fy⟩
      have eri : own[i]? = some own[i] := List.getElem?_eq_getElem hi
      obtain ⟨nm, hnm⟩ : ∃ r, r = own[i] := ⟨_, rfl⟩
      rw [← hnm] at eri
      obtain rfl : y = V.str nm := by
        have := fy _ (SqL.of hol5)
        rw [List.getElem?_map, eri] at this
        exact (Option.some.inj this).symm
      have s6 : Same H5 (upd H5 t (.tup [V.int ((i : Nat) : Int), V.str nm])) := same_new nt
      have ht6 : (upd H5 t (.tup [V.int ((i : Nat) : Int), V.str nm])) t = some (.tup [V.int ((i : Nat) : Int), V.str nm]) := upd_same
      have F6 := F5.same s6
      have B6 := B5.same s6
      have hil6 := s6 _ _ hil5
      have hel6 := s6 _ _ hel5
      have hol6 := s6 _ _ hol5
      have htd6 := s6 _ _ htd5
      replace hT : ∀ (j : Nat) (z : Str), j < i → own[j]? = some z → TrAt (upd H5 t (.tup [V.int ((i : Nat) : Int), V.str nm])) (tf z) (tt z) ∧ TOk (ins ++ own.take j) (ins ++ own) (tt z) ∧ (tt z).parts.length ≤ 10 := fun j z hj ez => by
        obtain ⟨g1, g2⟩ := hT j z hj ez
        exact ⟨g1.keep (TK.same s6), g2⟩
      generalize upd H5 t (.tup [V.int ((i : Nat) : Int), V.str nm]) = H6 at ht6 F6 B6 hil6 hel6 hol6 htd6 hT ⊢
      refine ⟨t, _, rfl, SqT.of ht6, rfl, _, _, rfl, _, _, rfl, rfl, ?_⟩
      refine ⟨_, rfl, _, rfl, f, c, 10, rfl, by decide, by decide, F6, fun v H7 v0 v1 F7 B7 => ⟨_, _, rfl, rfl, _, rfl, _, rfl, ?_⟩⟩
      dsimp only [tNoPart]
      refine ⟨_, rfl, _, rfl, ol, _, rfl, SqL.of (B7 _ _ hol6 olf), fun sl nsl => ?_⟩
      have hil7 := B7 _ _ hil6 ilf
      have hel7 := B7 _ _ hel6 elf
      have hol7 := B7 _ _ hol6 olf
      have htd7 := B7 _ _ htd6 tdf
      generalize e8 : upd H7 sl _ = H8
      have s8 : Same H7 H8 := by rw [← e8]; exact same_new nsl
      have hsl : H8 sl = some (.lst ((own.take i).map V.str)) := by rw [← e8, upd_same, cut_take, List.map_take]
      clear e8
      have lo5 : own.length ≤ 5 := Nat.le_trans dr.lo m5
      refine ⟨il, sl, _, _, rfl, rfl, s8 _ _ hil7, hsl, by rw [List.length_map, List.length_map, List.length_take]; have := dr.li; exact little (by omega), fun nw nnw => ?_⟩
      generalize e9 : upd H8 nw _ = H9
      have s9 : Same H8 H9 := by rw [← e9]; exact same_new nnw
      have hnw : H9 nw = some (.lst ((ins ++ own.take i).map V.str)) := by rw [← e9, upd_same, List.map_append]
      clear e9
      have s79 := s8.trans s9
      obtain ⟨r, er, r1, r10⟩ : ∃ r : Nat, 1 + v = ((r : Nat) : Int) ∧ 1 ≤ r ∧ r ≤ 10 := ⟨(1 + v).toNat, by omega, by omega, by omega⟩
      have ea : [V.ref f, V.int (1 + v), V.ref nw, V.ref el] = [V.ref f, nV r, V.ref nw, V.ref el] := by rw [er]
      have subs : ∀ z ∈ ins ++ own.take i, z ∈ ins ++ own := fun z hz => (List.mem_append.mp hz).elim (fun y => List.mem_append.mpr (.inl y)) fun y => List.mem_append.mpr (.inr (List.mem_of_mem_take y))
      have lins := dr.li
      refine ⟨_, rfl, f, c, nw, el, ins ++ own.take i, ins ++ own, r, ea, r1, by omega, by omega, hnw, s79 _ _ hel7, by rw [List.length_append, List.length_take]; omega, by rw [List.length_append]; omega, fun z hz => (dr.wd z (subs z hz)).1, fun z hz => (dr.wd z hz).1, F7.same s79, fun tv tr H10 htr tok lp F10 B10 => ?_⟩
      have htd10 := B10 _ _ (s79 _ _ htd7) tdf
      have nin : nm ∉ own.take i := fun z => by
        obtain ⟨j, hj, ej⟩ := List.mem_take_iff_getElem.mp z
        have := nodup_get ndo eri (List.getElem?_eq_some_iff.mpr ⟨by omega, ej⟩)
        omega
      have tk : own.take (i + 1) = own.take i ++ [nm] := by rw [List.take_add_one, eri]; rfl
      refine ⟨_, rfl, _, rfl, td, _, rfl, DPut.k (k := Sum.inr nm) htd10 ?_, ?_⟩
      · unfold stV
        rw [List.length_map, List.length_take]
        exact small1000 (by omega)
      rw [stV_put tf nin]
      have kd : TK H10 (upd H10 td (.dK (stV (fun y => if y = nm then tv else tf y) (own.take i ++ [nm])))) := fun b xs e => by rw [upd_ne (ne_of e htd10 (fun z => nomatch z))]; exact e
      have ned : ∀ {b : Addr} {xs : List V}, H10 b = some (.lst xs) → (upd H10 td (.dK (stV (fun y => if y = nm then tv else tf y) (own.take i ++ [nm])))) b = some (.lst xs) := fun {b xs} e => by rw [upd_ne (ne_of e htd10 (fun z => nomatch z))]; exact e
      have F11 : Flow (upd H10 td (.dK (stV (fun y => if y = nm then tv else tf y) (own.take i ++ [nm])))) f c := by
        obtain ⟨ns, i, p, q, r, e1, e2, e3⟩ := F10
        exact ⟨ns, i, p, q, r, ned e1, ned e2, e3⟩
      have B11 : But f H (upd H10 td (.dK (stV (fun y => if y = nm then tv else tf y) (own.take i ++ [nm])))) := (((B6.trans B7).same s79).trans B10).own ntd
      refine ⟨_, _, _, fun y => if y = nm then tr else tt y, rfl, ⟨ned (B10 _ _ (s79 _ _ hil7) ilf), ned (B10 _ _ (s79 _ _ hel7) elf), dr, F11, B11, nil0, nel0⟩, ned (B10 _ _ (s79 _ _ hol7) olf), by rw [tk]; exact upd_same, fun j z hj ez => ?_⟩
      by_cases hji : j = i
      · subst hji
        rw [eri] at ez
        obtain rfl := Option.some.inj ez
        show TrAt _ (if nm = nm then tv else tf nm) (if nm = nm then tr else tt nm) ∧ TOk _ _ (if nm = nm then tr else tt nm) ∧ (if nm = nm then tr else tt nm).parts.length ≤ 10
        rw [if_pos rfl, if_pos rfl]
        exact ⟨htr.keep kd, tok, by omega⟩
      · have zn : z ≠ nm := fun e => hji (nodup_get ndo (by rw [← e]; exact ez) eri)
        show TrAt _ (if z = nm then tv else tf z) (if z = nm then tr else tt z) ∧ TOk _ _ (if z = nm then tr else tt z) ∧ (if z = nm then tr else tt z).parts.length ≤ 10
        rw [if_neg zn, if_neg zn]
        obtain ⟨g1, g2⟩ := hT j z (by omega) ez
        exact ⟨(((g1.keep (TK.but F6 B7)).keep (TK.same s79)).keep (TK.but (F7.same s79) B10)).keep kd, g2⟩
    · rintro σ H5 ⟨v7, v8, tf, tt, rfl, b5, hol5, htd5, hT⟩
      rw [List.take_of_length_le (Nat.le_refl _)] at htd5
      exact ⟨eD, nl, il, ol, el, td, ins, own, v7, v8, tf, tt, rfl, b5, hol5, htd5, fun j z e => hT j z (List.getElem?_eq_some_iff.mp e).1 e⟩
  refine ⟨_, rfl, f, c, 9, rfl, by decide, by decide, hF, fun nl ns H1 n1 h1 l9 nd wd F1 B1 => ?_⟩
  have nlf := F1.neS h1
  refine ⟨_, rfl, ?_⟩
  dsimp only [tNoPart]
  refine ⟨_, rfl, f, c, 5, rfl, by decide, by decide, F1, fun v H2 v0 v5 F2 B2 => ⟨v, rfl, nl, _, rfl, SqL.of (B2 _ _ h1 nlf), fun il nil2 => ?_⟩⟩
  obtain ⟨a, rfl⟩ : ∃ a : Nat, v = ((a : Nat) : Int) := ⟨v.toNat, by omega⟩
  generalize e3 : upd H2 il _ = H3
  have hil : H3 il = some (.lst ((ns.take a).map V.str)) := by rw [← e3, upd_same, cut_take, List.map_take]
  have F3 : Flow H3 f c := by rw [← e3]; exact F2.new nil2
  have B3 : But f H H3 := by rw [← e3]; exact (B1.trans B2).new nil2
  have hnl3 : H3 nl = some (.lst (ns.map V.str)) := by rw [← e3]; exact same_new nil2 _ _ (B2 _ _ h1 nlf)
  have ilf := F3.neS hil
  have nil0 : H il = none := But.none (B1.trans B2) nil2 ilf
  clear e3
  have em : [V.ref f, V.int (((most : Nat) : Int) + 1)] = [V.ref f, nV (most + 1)] := by
    rw [show nV (most + 1) = V.int (((most : Nat) : Int) + 1) from congrArg V.int (by omega)]
  refine ⟨_, rfl, _, rfl, _, rfl, _, rfl, _, _, rfl, rfl, f, c, ((most + 1 : Nat) : Int), em, by omega, log_small (by omega), F3, fun v2 H4 v20 v21 F4 B4 => ⟨_, _, rfl, rfl, _, rfl, nl, _, rfl, SqL.of (B4 _ _ hnl3 nlf), fun ol nol => ?_⟩⟩
  obtain ⟨b, eb⟩ : ∃ b : Nat, 4 + v2 = ((4 + b : Nat) : Int) := ⟨v2.toNat, by omega⟩
  generalize e5 : upd H4 ol _ = H5
  have hol : H5 ol = some (.lst (((ns.drop 4).take b).map V.str)) := by
    rw [← e5, upd_same, eb]
    congr 2
    unfold cutV
    rw [show (4 : Int) = ((4 : Nat) : Int) from rfl, HT.sIx_nat, HT.sIx_nat, List.length_map, l9, ← List.map_drop, ← List.map_take]
    congr 1
    rw [show min 4 9 = 4 from rfl]
    rcases Nat.le_total b 5 with h | h
    · rw [Nat.min_eq_left (by omega), show 4 + b - 4 = b by omega]
    · rw [Nat.min_eq_right (by omega), show 9 - 4 = 5 from rfl, List.take_of_length_le (by rw [List.length_drop]; omega), List.take_of_length_le (by rw [List.length_drop]; omega)]
  have F5 : Flow H5 f c := by rw [← e5]; exact F4.new nol
  have B5 : But f H H5 := by rw [← e5]; exact (B3.trans B4).new nol
  have hil5 : H5 il = some (.lst ((ns.take a).map V.str)) := by rw [← e5]; exact same_new nol _ _ (B4 _ _ hil ilf)
  have olf := F5.neS hol
  clear e5
  obtain ⟨ins, hins⟩ : ∃ l, l = ns.take a := ⟨_, rfl⟩
  obtain ⟨own, hown⟩ : ∃ l, l = (ns.drop 4).take b := ⟨_, rfl⟩
  rw [← hins] at hil5
  rw [← hown] at hol
  have li : ins.length ≤ 4 := by rw [hins, List.length_take]; omega
  have lo : own.length ≤ most := by rw [hown, List.length_take]; omega
  have dr : Dr most ins own := by
    have e : (ins ++ own).Sublist ns := by
      rw [hins, hown]
      have h1 : (ns.take a).Sublist (ns.take 4) := by
        rw [show ns.take a = (ns.take 4).take a by rw [List.take_take, Nat.min_eq_left (by omega)]]
        exact List.take_sublist ..
      have h2 : ((ns.drop 4).take b).Sublist (ns.drop 4) := List.take_sublist ..
      have h3 := h1.append h2
      rwa [List.take_append_drop] at h3
    exact ⟨li, lo, List.Nodup.sublist e nd, fun z hz => wd z (e.subset hz)⟩
  refine ⟨_, rfl, _, rfl, il, ol, _, _, rfl, rfl, hil5, hol, by rw [List.length_map, List.length_map]; exact little (by omega), fun el nel => ?_⟩
  generalize e6 : upd H5 el _ = H6
  have hel : H6 el = some (.lst ((ins ++ own).map V.str)) := by rw [← e6, upd_same, List.map_append]
  have s6 : Same H5 H6 := by rw [← e6]; exact same_new nel
  clear e6
  have F6 := F5.same s6
  have B6 := B5.same s6
  have elf := F6.neS hel
  have nel0 : H el = none := But.none B5 nel elf
  intro td ntd
  have tdf : td ≠ f := F6.ne ntd
  refine ⟨rfl, nl, il, ol, el, td, ins, own, rfl, ⟨same_new ntd _ _ (s6 _ _ hil5), same_new ntd _ _ hel, dr, F6.new ntd, B6.new ntd, nil0, nel0⟩, same_new ntd _ _ (s6 _ _ hol), upd_same, But.none B6 ntd tdf⟩
end
/-! ### trees written -/
theorem Rd.mono {l : Nat} {t : Tr} {u : List Str} {h : Nat} (r : Rd l t u h) : ∀ {h' : Nat}, h ≤ h' → Rd l t u h' := by
  induction r with
  | up g _ ih => intro h' e; obtain ⟨m, rfl⟩ : ∃ m, h' = m + 1 := ⟨h' - 1, by omega⟩; exact .up g (ih (by omega))
  | par _ ih => intro h' e; obtain ⟨m, rfl⟩ : ∃ m, h' = m + 2 := ⟨h' - 2, by omega⟩; exact .par (ih (by omega))
  | num g => intro _ _; exact .num g
  | nam g => intro _ _; exact .nam g
  | ago g y => intro _ _; exact .ago g y
  | two g _ _ i1 i2 => intro h' e; obtain ⟨m, rfl⟩ : ∃ m, h' = m + 2 := ⟨h' - 2, by omega⟩; exact .two g (i1 (by omega)) (i2 (by omega))
  | times g _ ih => intro h' e; obtain ⟨m, rfl⟩ : ∃ m, h' = m + 1 := ⟨h' - 1, by omega⟩; exact .times g (ih (by omega))
  | sum p _ _ i1 i2 => intro h' e; obtain ⟨m, rfl⟩ : ∃ m, h' = m + 1 := ⟨h' - 1, by omega⟩; exact .sum p (i1 (by omega)) (i2 (by omega))
  | less _ _ i1 i2 => intro h' e; obtain ⟨m, rfl⟩ : ∃ m, h' = m + 1 := ⟨h' - 1, by omega⟩; exact .less (i1 (by omega)) (i2 (by omega))
  | pick _ _ _ i1 i2 i3 => intro h' e; obtain ⟨m, rfl⟩ : ∃ m, h' = m + 2 := ⟨h' - 2, by omega⟩; exact .pick (i1 (by omega)) (i2 (by omega)) (i3 (by omega))
theorem Rd.lift {t : Tr} {u : List Str} {h : Nat} : ∀ (d l : Nat), l + d ≤ 3 → Rd (l + d) t u h → Rd l t u (h + d)
  | 0, _, _, r => r
  | d + 1, l, e, r => .up (by omega) (Rd.lift d (l + 1) (by omega) (by rw [show l + 1 + d = l + (d + 1) by omega]; exact r))
/-- the level at which a tree stands bare -/
def Tr.own : Tr → Nat
  | .o3 _ _ _ => 0
  | .o2 .below _ _ => 0
  | .o2 .sum _ _ => 1
  | .o2 .gap _ _ => 1
  | .tm _ _ => 2
  | _ => 3
theorem Tr.own_le (t : Tr) : t.own ≤ 3 := by
  cases t with
  | o2 w a b => cases w <;> simp [Tr.own]
  | _ => simp [Tr.own]
abbrev kvL : List (Key × V) := [(Sum.inr "pick", .int 0), (Sum.inr "below", .int 0), (Sum.inr "sum", .int 1), (Sum.inr "gap", .int 1), (Sum.inr "times", .int 2)]
theorem own_val (t : Tr) : (valV (mergeK [] kvL) (Sum.inr t.wd)).getD (.int 3) = nV t.own := by
  cases t with
  | o2 w a b => cases w <;> rfl
  | _ => rfl
structure OkT (t : Tr) : Prop where
  sm : t.small
  nm : ∀ q ∈ t.leans, namW q.1 ∧ q.2 ≤ 1000
structure WrOk (l : Nat) (t : Tr) (u : List Str) (h len : Nat) : Prop where
  rd : Rd l t u h
  ln : u.length ≤ len
  wk : ∀ z ∈ u, z.length ≤ 100
theorem cat_strs {H : Hp} {p1 p2 : Addr} {xs ys : List Str} {Q : VK} (h1 : H p1 = some (.lst (xs.map V.str))) (h2 : H p2 = some (.lst (ys.map V.str))) (l : xs.length + ys.length ≤ 1000) (q : ∀ (p : Addr) (H' : Hp), H p = none → H' p = some (.lst ((xs ++ ys).map V.str)) → Same H H' → Q (.ref p) H') :
    rCat (V.ref p1) (V.ref p2) H Q :=
  ⟨p1, p2, _, _, rfl, rfl, h1, h2, by rw [List.length_map, List.length_map]; exact little l, fun p np => q p _ np (by rw [upd_same, List.map_append]) (same_new np)⟩
section
variable {P : Program} {w : World} {K : PySem.W.Frag} {mg : Str → Option Value} {base : Heap}
def spWr (n : Nat) : Sp := fun vs H Q _ => ∃ (f c : Addr) (v : V) (t : Tr) (l : Nat), vs = [.ref f, v, nV l] ∧ l ≤ 3 ∧ TrAt H v t ∧ t.dep ≤ n ∧ OkT t ∧ t.parts.length ≤ 20 ∧ Flow H f c ∧
  ∀ (p : Addr) (u : List Str) (H' : Hp), H' p = some (.lst (u.map V.str)) → WrOk l t u (10 * n) (6 * t.parts.length) → Flow H' f c → But f H H' → Q (.ref p) H'
def spBa (n : Nat) : Sp := fun vs H Q _ => ∃ (f c : Addr) (v : V) (t : Tr), vs = [.ref f, v] ∧ TrAt H v t ∧ t.dep ≤ n ∧ OkT t ∧ t.parts.length ≤ 20 ∧ Flow H f c ∧
  ∀ (p : Addr) (u : List Str) (H' : Hp), H' p = some (.lst (u.map V.str)) → WrOk t.own t u (10 * n - 8) (6 * t.parts.length - 2) → Flow H' f c → But f H H' → Q (.ref p) H'
abbrev FnR2 (P : Program) (w : World) (K : PySem.W.Frag) (mg : Str → Option Value) (base : Heap) (x : Str) (st : Stmt) (j : Nat) (ps : List Str) (sp : Sp) : Prop := ∀ (f : Addr) (fd : FuncData), Fun K x x st f fd → FnOk P w K mg base CX0 j f fd ps sp
theorem Tr.dep_pos (t : Tr) : 1 ≤ t.dep := by cases t <;> simp [Tr.dep]
theorem written_step {C : Addr} {f : Addr} {fd : FuncData} (T : Top w K mg C) (n : Nat) (GB : FnR2 P w K mg base "_law_bare" s_law_bare (2 * n + 3) ["_law_flow_here", "_law_tree_here"] (spBa n)) (F : Fun K "_law_written" "_law_written" s_law_written f fd) :
    FnOk P w K mg base CX0 (2 * n + 4) f fd ["_law_flow_here", "_law_tree_here", "_law_level"] (spWr n) := by
  obtain ⟨f_law_bare, fd_law_bare, F_law_bare, b_law_bare, m_law_bare⟩ := T.d_law_bare
  have G_law_bare := GB f_law_bare fd_law_bare F_law_bare
  obtain ⟨f_law_pick, fd_law_pick, F_law_pick, b_law_pick, m_law_pick⟩ := T.d_law_pick
  have G_law_pick := ok_law_pick (P := P) (w := w) (base := base) F_law_pick T
  refine F.ok sc_law_written (fun vs H Q E h => ?_) (fun cdv A outer s H vs Q E hr h => ?_)
  · obtain ⟨f, c, v, t, l, rfl, _⟩ := h
    rfl
  obtain ⟨f, c, v, t, l, rfl, l3, ht, hd, ok, lp, F0, q⟩ := h
  have dp := t.dep_pos
  have o3 := t.own_le
  obtain ⟨a, ks, rfl, ha, ak⟩ := ht.op
  obtain ⟨r, er, sort⟩ := t.hd_wd
  have ha0 := ha
  rw [er, List.cons_append] at ha
  refine ⟨_, (pss_cons (ps_set (i := 3) sc_law_written.nd rfl (Or.inl rfl) (pe_dget2 (hu_of hr) (pe_disp (pps_cons pe_str pe_int (pps_cons pe_str pe_int (pps_cons pe_str pe_int (pps_cons pe_str pe_int (pps_cons pe_str pe_int pps_nil))))) (by rfl) (by rfl) (fun z => by cases z) (by decide)) (pe_ix (ix_tupK K rfl) (pv 1) pe_int (fun _ _ => rfl)) pe_int ⟨by rfl, by rfl, by rfl, by rfl⟩))
      (pss_cons (ps_if (PW.pt (pw_or (pt_cmpR op_lt (pv 3) (pv 2) (nomark _)) (pw_or1 (pt_cmpR op_eq (pe_call G_law_pick (hr.mono (by omega)) (by rfl) m_law_pick F_law_pick.kp b_law_pick .nil pass0 (pa_cons (pv 0) (pa_cons pe_int pa_nil))) pe_int (nomark _))))) (pss_one (ps_ret (pe_op op_cat (pe_op op_cat (pe_lst (pa_cons pe_str pa_nil)) (pe_call G_law_bare (hr.mono (by omega)) (by rfl) m_law_bare F_law_bare.kp b_law_bare .nil pass0 (pa_cons (pv 0) (pa_cons (pv 1) pa_nil)))) (pe_lst (pa_cons pe_str pa_nil))))) pss_nil)
      (pss_one (ps_ret (pe_call G_law_bare (hr.mono (by omega)) (by rfl) m_law_bare F_law_bare.kp b_law_bare .nil pass0 (pa_cons (pv 0) (pa_cons (pv 1) pa_nil))))))), ?_⟩
  refine fun d nd => ⟨upd_same, kvL, rfl, (by show 5 ≤ 15; decide), ?_⟩
  have s1 : Same H (upd (upd H d (.dK [])) d (.dK (mergeK [] kvL))) := by rw [upd_upd]; exact same_new nd
  have hd1 : (upd (upd H d (.dK [])) d (.dK (mergeK [] kvL))) d = some (.dK (mergeK [] kvL)) := upd_same
  generalize upd (upd H d (.dK [])) d (.dK (mergeK [] kvL)) = H1 at s1 hd1 ⊢
  have F1 := F0.same s1
  have B1 : But f H H1 := But.of s1
  have pp : 1 ≤ t.parts.length := Nat.le_trans dp t.dep_parts
  refine ⟨d, rfl, .inl ⟨_, .inl hd1⟩, _, rfl, a, _, _, _, rfl, rfl, SqT.of (s1 _ _ ha), atI_nat (j := 0) rfl, _, DGet.k (k := Sum.inr t.wd) hd1, ?_⟩
  rw [own_val]
  have brk : ∀ (D : Ends) (Hx : Hp), D.rt = Q → Flow Hx f c → But f H Hx → tRet (tOp rCat (tOp rCat (tLst (tCons (tC (V.str "(")) tNil)) (tCall (spBa n) [] E0 (tCons (tVar 0) (tCons (tVar 1) tNil)))) (tLst (tCons (tC (V.str ")")) tNil))) D [some (.ref f), some (.ref a), some (nV l), some (nV t.own)] Hx := fun D Hx eD Fx Bx => by
    refine ⟨(by show 1 ≤ sizeLine; decide), fun p1 np1 => ?_⟩
    have s2 : Same Hx (upd Hx p1 (.lst [V.str "("])) := same_new np1
    have hp1 : (upd Hx p1 (.lst [V.str "("])) p1 = some (.lst (([("(" : Str)] : List Str).map V.str)) := upd_same
    generalize upd Hx p1 (.lst [V.str "("]) = H2 at s2 hp1 ⊢
    have F2 := Fx.same s2
    have B2 := Bx.same s2
    refine ⟨_, rfl, _, rfl, f, c, .ref a, t, rfl, ht.keep (TK.but F0 B2), hd, ok, lp, F2, fun p2 u H3 hp2 wo F3 B3 => ?_⟩
    have hp13 := B3 _ _ hp1 (F2.neS hp1)
    have lu := wo.ln
    refine cat_strs hp13 hp2 (by show 1 + u.length ≤ 1000; omega) fun p3 H4 np3 hp3 s4 => ?_
    refine ⟨(by show 1 ≤ sizeLine; decide), fun p4 np4 => ?_⟩
    have s5 : Same H4 (upd H4 p4 (.lst [V.str ")"])) := same_new np4
    have hp4 : (upd H4 p4 (.lst [V.str ")"])) p4 = some (.lst (([(")" : Str)] : List Str).map V.str)) := upd_same
    generalize upd H4 p4 (.lst [V.str ")"]) = H5 at s5 hp4 ⊢
    refine cat_strs (s5 _ _ hp3) hp4 (by simp only [List.length_append, List.length_cons, List.length_nil]; omega) fun p5 H6 np5 hp5 s6 => ?_
    rw [eD]
    have s36 := s4.trans (s5.trans s6)
    refine q p5 _ H6 hp5 ⟨?_, ?_, fun z hz => ?_⟩ (F3.same s36) ((B2.trans B3).same s36)
    · have r0 := Rd.lift t.own 0 (by omega) (by rw [Nat.zero_add]; exact wo.rd)
      have r3 := Rd.par r0
      have rl := Rd.lift (3 - l) l (by omega) (by rw [show l + (3 - l) = 3 by omega]; exact r3)
      exact rl.mono (by omega)
    · simp only [List.length_append, List.length_cons, List.length_nil]
      omega
    · simp only [List.mem_append, List.mem_cons, List.not_mem_nil, or_false] at hz
      rcases hz with (rfl | hz) | rfl
      · decide
      · exact wo.wk z hz
      · decide
  refine ⟨_, rfl, _, rfl, _, _, rfl, rfl, _, rfl, if_bl (fun _ => brk _ H1 rfl F1 B1) (fun c1 => ?_)⟩
  have c1 : ¬ t.own < l := fun z => of_decide_eq_false c1 (by omega)
  refine ⟨_, rfl, f, c, 9, rfl, by decide, by decide, F1, fun x H2 x0 x1 F2 B2 => ⟨rfl, _, rfl, if_bl (fun _ => brk _ H2 rfl F2 (B1.trans B2)) (fun _ => ?_)⟩⟩
  refine ⟨_, rfl, _, rfl, f, c, .ref a, t, rfl, (ht.keep (TK.same s1)).keep (TK.but F1 B2), hd, ok, lp, F2, fun p2 u H3 hp2 wo F3 B3 => ?_⟩
  refine q p2 u H3 hp2 ⟨?_, Nat.le_trans wo.ln (by omega), wo.wk⟩ F3 ((B1.trans B2).trans B3)
  exact (Rd.lift (t.own - l) l (by omega) (by rw [show l + (t.own - l) = t.own by omega]; exact wo.rd)).mono (by omega)
theorem numW_str {i : Int} (h : i.natAbs ≤ 1000000) : numW (toString i : String) i := by
  have dl : ∀ m : Nat, m ≤ 1000000 → (digN m).length ≤ 9 := fun m hm => by unfold digN; rw [List.length_map]; exact toDig_len 8 m (by omega)
  rcases Int.eq_nat_or_neg i with ⟨m, rfl | rfl⟩
  · have hm : m ≤ 1000000 := by omega
    refine ⟨?_, ?_⟩
    · rw [str_pos]; exact num_pos (by omega)
    · rw [strlen, str_pos]; have := dl m hm; omega
  · have hm : m ≤ 1000000 := by omega
    by_cases z : m = 0
    · subst z
      refine ⟨?_, ?_⟩
      · show numO (Str.ofString (toString ((0 : Nat) : Int))).cps.toList = _
        rw [str_pos]; exact num_pos (by omega)
      · show (Str.ofString (toString ((0 : Nat) : Int))).length ≤ 100
        rw [strlen, str_pos]; have := dl 0 (by omega); omega
    · refine ⟨?_, ?_⟩
      · rw [str_neg (by omega)]; exact num_neg (by omega) (by omega)
      · rw [strlen, str_neg (by omega), List.length_cons]; have := dl m hm; omega
theorem log_str {i : Int} (h : i.natAbs ≤ 1000000) : i.natAbs.log2 < 1920 := by
  by_cases z : i.natAbs = 0
  · rw [z]; decide
  · exact (Nat.log2_lt z).mpr (Nat.lt_of_lt_of_le (show i.natAbs < 2 ^ 60 by omega) (Nat.pow_le_pow_right (by decide) (by decide)))
end
/-! ### trees written bare -/
section
variable {P : Program} {w : World} {K : PySem.W.Frag} {mg : Str → Option Value} {base : Heap}
theorem bare_step {C : Addr} {f : Addr} {fd : FuncData} (T : Top w K mg C) (n : Nat) (GW : FnR2 P w K mg base "_law_written" s_law_written (2 * n + 4) ["_law_flow_here", "_law_tree_here", "_law_level"] (spWr n)) (F : Fun K "_law_bare" "_law_bare" s_law_bare f fd) :
    FnOk P w K mg base CX0 (2 * n + 5) f fd ["_law_flow_here", "_law_tree_here"] (spBa (n + 1)) := by
  obtain ⟨f_law_written, fd_law_written, F_law_written, b_law_written, m_law_written⟩ := T.d_law_written
  have G_law_written := GW f_law_written fd_law_written F_law_written
  refine F.ok sc_law_bare (fun vs H Q E h => ?_) (fun cdv A outer s H vs Q E hr h => ?_)
  · obtain ⟨f, c, v, t, rfl, _⟩ := h
    rfl
  obtain ⟨f, c, v, t, rfl, ht, hd, ok, lp, F0, q⟩ := h
  refine ⟨_, (pss_cons (ps_if (pt_cmpR op_eq (pe_ix (ix_tupK K rfl) (pv 1) pe_int (fun _ _ => rfl)) pe_str (nomark _)) (pss_one (ps_ret (pe_lst (pa_cons (pe_callTy call_str_int (by rfl) T.m_str (by decide +kernel) (pa_cons (pe_ix (ix_tupK K rfl) (pv 1) pe_int (fun _ _ => rfl)) pa_nil)) pa_nil)))) pss_nil)
      (pss_cons (ps_if (pt_cmpR op_eq (pe_ix (ix_tupK K rfl) (pv 1) pe_int (fun _ _ => rfl)) pe_str (nomark _)) (pss_one (ps_ret (pe_slice (sl_listK K rfl) (pe_lst (pa_cons (pe_ix (ix_tupK K rfl) (pv 1) pe_int (fun _ _ => rfl)) (pa_cons pe_str (pa_cons (pe_callTy call_str_int (by rfl) T.m_str (by decide +kernel) (pa_cons (pe_ix (ix_tupK K rfl) (pv 1) pe_int (fun _ _ => rfl)) pa_nil)) pa_nil)))) po_none (po_some (pe_op op_add pe_int (pe_op op_mul pe_int (pe_callTy call_int1 (by rfl) T.m_int (by decide +kernel) (pa_cons (pe_cmpR op_gt (pe_ix (ix_tupK K rfl) (pv 1) pe_int (fun _ _ => rfl)) pe_int (nomark _)) pa_nil)))))))) pss_nil)
      (pss_cons (ps_if (pt_cmpR op_eq (pe_ix (ix_tupK K rfl) (pv 1) pe_int (fun _ _ => rfl)) pe_str (nomark _)) (pss_one (ps_ret (pe_op op_cat (pe_lst (pa_cons (pe_callTy call_str_int (by rfl) T.m_str (by decide +kernel) (pa_cons (pe_ix (ix_tupK K rfl) (pv 1) pe_int (fun _ _ => rfl)) pa_nil)) (pa_cons pe_str pa_nil))) (pe_call G_law_written (hr.mono (by omega)) (by rfl) m_law_written F_law_written.kp b_law_written .nil pass0 (pa_cons (pv 0) (pa_cons (pe_ix (ix_tupK K rfl) (pv 1) pe_int (fun _ _ => rfl)) (pa_cons pe_int pa_nil))))))) pss_nil)
      (pss_cons (ps_if (pt_cmpR (op_in_seqK K rfl) (pe_ix (ix_tupK K rfl) (pv 1) pe_int (fun _ _ => rfl)) (pe_tup (pa_cons pe_str (pa_cons pe_str pa_nil))) (by with_unfolding_all rfl)) (pss_cons (ps_set (i := 2) sc_law_bare.nd rfl (Or.inl rfl) (pe_op op_cat (pe_op op_cat (pe_lst (pa_cons (pe_ix (ix_tupK K rfl) (pv 1) pe_int (fun _ _ => rfl)) (pa_cons pe_str pa_nil))) (pe_call G_law_written (hr.mono (by omega)) (by rfl) m_law_written F_law_written.kp b_law_written .nil pass0 (pa_cons (pv 0) (pa_cons (pe_ix (ix_tupK K rfl) (pv 1) pe_int (fun _ _ => rfl)) (pa_cons pe_int pa_nil))))) (pe_lst (pa_cons pe_str pa_nil))))
      (pss_one (ps_ret (pe_op op_cat (pe_op op_cat (pv 2) (pe_call G_law_written (hr.mono (by omega)) (by rfl) m_law_written F_law_written.kp b_law_written .nil pass0 (pa_cons (pv 0) (pa_cons (pe_ix (ix_tupK K rfl) (pv 1) pe_int (fun _ _ => rfl)) (pa_cons pe_int pa_nil))))) (pe_lst (pa_cons pe_str pa_nil)))))) pss_nil)
      (pss_cons (ps_if (pt_cmpR op_eq (pe_ix (ix_tupK K rfl) (pv 1) pe_int (fun _ _ => rfl)) pe_str (nomark _)) (pss_cons (ps_set (i := 2) sc_law_bare.nd rfl (Or.inl rfl) (pe_op op_cat (pe_op op_cat (pe_op op_cat (pe_lst (pa_cons pe_str pa_nil)) (pe_call G_law_written (hr.mono (by omega)) (by rfl) m_law_written F_law_written.kp b_law_written .nil pass0 (pa_cons (pv 0) (pa_cons (pe_ix (ix_tupK K rfl) (pv 1) pe_int (fun _ _ => rfl)) (pa_cons pe_int pa_nil))))) (pe_lst (pa_cons pe_str pa_nil))) (pe_call G_law_written (hr.mono (by omega)) (by rfl) m_law_written F_law_written.kp b_law_written .nil pass0 (pa_cons (pv 0) (pa_cons (pe_ix (ix_tupK K rfl) (pv 1) pe_int (fun _ _ => rfl)) (pa_cons pe_int pa_nil))))))
      (pss_one (ps_ret (pe_op op_cat (pe_op op_cat (pv 2) (pe_lst (pa_cons pe_str pa_nil))) (pe_call G_law_written (hr.mono (by omega)) (by rfl) m_law_written F_law_written.kp b_law_written .nil pass0 (pa_cons (pv 0) (pa_cons (pe_ix (ix_tupK K rfl) (pv 1) pe_int (fun _ _ => rfl)) (pa_cons pe_int pa_nil)))))))) pss_nil)
      (pss_cons (ps_if (pt_cmpR op_eq (pe_ix (ix_tupK K rfl) (pv 1) pe_int (fun _ _ => rfl)) pe_str (nomark _)) (pss_one (ps_ret (pe_op op_cat (pe_op op_cat (pe_call G_law_written (hr.mono (by omega)) (by rfl) m_law_written F_law_written.kp b_law_written .nil pass0 (pa_cons (pv 0) (pa_cons (pe_ix (ix_tupK K rfl) (pv 1) pe_int (fun _ _ => rfl)) (pa_cons pe_int pa_nil)))) (pe_lst (pa_cons pe_str pa_nil))) (pe_call G_law_written (hr.mono (by omega)) (by rfl) m_law_written F_law_written.kp b_law_written .nil pass0 (pa_cons (pv 0) (pa_cons (pe_ix (ix_tupK K rfl) (pv 1) pe_int (fun _ _ => rfl)) (pa_cons pe_int pa_nil))))))) pss_nil)
      (pss_cons (ps_set (i := 3) sc_law_bare.nd rfl (Or.inl rfl) (pe_ix (ix_listK K rfl) (pe_lst (pa_cons pe_str (pa_cons pe_str pa_nil))) (pe_callTy call_int1 (by rfl) T.m_int (by decide +kernel) (pa_cons (pe_cmpR op_eq (pe_ix (ix_tupK K rfl) (pv 1) pe_int (fun _ _ => rfl)) pe_str (nomark _)) pa_nil)) (fun _ _ => rfl)))
      (pss_one (ps_ret (pe_op op_cat (pe_op op_cat (pe_call G_law_written (hr.mono (by omega)) (by rfl) m_law_written F_law_written.kp b_law_written .nil pass0 (pa_cons (pv 0) (pa_cons (pe_ix (ix_tupK K rfl) (pv 1) pe_int (fun _ _ => rfl)) (pa_cons pe_int pa_nil)))) (pe_lst (pa_cons (pv 3) pa_nil))) (pe_call G_law_written (hr.mono (by omega)) (by rfl) m_law_written F_law_written.kp b_law_written .nil pass0 (pa_cons (pv 0) (pa_cons (pe_ix (ix_tupK K rfl) (pv 1) pe_int (fun _ _ => rfl)) (pa_cons pe_int pa_nil)))))))))))))), ?_⟩
  cases t with
  | no i =>
    obtain ⟨a, rfl, ha⟩ := ht
    have sm : i.natAbs ≤ 1000000 := by have := ok.sm; unfold Tr.small Small at this; omega
    refine ⟨_, rfl, a, _, _, _, rfl, rfl, SqT.of ha, atI_nat (j := 0) rfl, rfl, _, rfl, if_strE (fun _ => ?_) (fun e => absurd rfl e)⟩
    refine ⟨_, rfl, a, _, _, _, rfl, rfl, SqT.of ha, atI_nat (j := 1) rfl, i, rfl, log_str sm, (by show 1 ≤ sizeLine; decide), fun p np => ?_⟩
    have g := numW_str sm
    exact q p [_] _ upd_same ⟨.num g, (by show 1 ≤ 6 * 1 - 2; decide), fun z hz => by rw [List.mem_singleton.mp hz]; exact g.2⟩ (F0.new np) (But.refl.new np)
  | nm nn k =>
    obtain ⟨a, rfl, ha⟩ := ht
    obtain ⟨hn, hk⟩ := ok.nm (nn, k) (List.mem_singleton.mpr rfl)
    have hk : k ≤ 1000 := hk
    have sm : ((k : Nat) : Int).natAbs ≤ 1000000 := by omega
    have g := numW_str sm
    refine ⟨_, rfl, a, _, _, _, rfl, rfl, SqT.of ha, atI_nat (j := 0) rfl, rfl, _, rfl, if_strE (fun e => absurd e (by decide +kernel)) (fun _ => ?_)⟩
    refine ⟨_, rfl, a, _, _, _, rfl, rfl, SqT.of ha, atI_nat (j := 0) rfl, rfl, _, rfl, if_strE (fun _ => ?_) (fun e => absurd rfl e)⟩
    refine ⟨_, rfl, a, _, _, _, rfl, rfl, SqT.of ha, atI_nat (j := 1) rfl, _, rfl, a, _, _, _, rfl, rfl, SqT.of ha, atI_nat (j := 2) rfl, _, rfl, log_str sm, (by show 3 ≤ sizeLine; decide), fun p np => ?_⟩
    have s1 : Same H (upd H p (.lst [V.str nn, V.str "@", V.str (toString ((k : Nat) : Int) : String)])) := same_new np
    have hp : (upd H p (.lst [V.str nn, V.str "@", V.str (toString ((k : Nat) : Int) : String)])) p = some (.lst ([nn, "@", (toString ((k : Nat) : Int) : String)].map V.str)) := upd_same
    generalize upd H p (.lst [V.str nn, V.str "@", V.str (toString ((k : Nat) : Int) : String)]) = H1 at s1 hp ⊢
    dsimp only [tNoPart]
    refine ⟨_, rfl, a, _, _, _, rfl, rfl, SqT.of (s1 _ _ ha), atI_nat (j := 2) rfl, _, _, rfl, rfl, .inr ⟨_, rfl, _, _, rfl, rfl, .inl ⟨by decide, by decide⟩, _, _, rfl, rfl, _, rfl, p, _, rfl, SqL.of hp, fun p2 np2 => ?_⟩⟩
    have F2 := (F0.same s1)
    cases k with
    | zero =>
      refine q p2 [nn] _ ?_ ⟨.nam hn, (by show 1 ≤ 6 * 1 - 2; decide), fun z hz => by rw [List.mem_singleton.mp hz]; exact hn.2⟩ (F2.new np2) ((But.of s1).new np2)
      rw [upd_same]
      rfl
    | succ k =>
      refine q p2 [nn, "@", _] _ ?_ ⟨.ago hn g, (by show 3 ≤ 6 * 1 - 2; decide), fun z hz => ?_⟩ (F2.new np2) ((But.of s1).new np2)
      · have e : decide ((0 : Int) < ((k + 1 : Nat) : Int)) = true := decide_eq_true (by omega)
        rw [upd_same, e]
        rfl
      · simp only [List.mem_cons, List.not_mem_nil, or_false] at hz
        rcases hz with rfl | rfl | rfl
        · exact hn.2
        · decide
        · exact g.2
  | tm k t1 =>
    obtain ⟨a, x, rfl, ha, ht1⟩ := ht
    have sk : k.natAbs ≤ 1000000 := by have := ok.sm; unfold Tr.small at this; omega
    have g := numW_str sk
    have ok1 : OkT t1 := ⟨ok.sm.2, fun q hq => ok.nm q hq⟩
    have hd : t1.dep + 1 ≤ n + 1 := hd
    have lp1 : t1.parts.length + 1 ≤ 20 := by have := lp; simpa [Tr.parts] using this
    refine ⟨_, rfl, a, _, _, _, rfl, rfl, SqT.of ha, atI_nat (j := 0) rfl, rfl, _, rfl, if_strE (fun e => absurd e (by decide +kernel)) (fun _ => ?_)⟩
    refine ⟨_, rfl, a, _, _, _, rfl, rfl, SqT.of ha, atI_nat (j := 0) rfl, rfl, _, rfl, if_strE (fun e => absurd e (by decide +kernel)) (fun _ => ?_)⟩
    refine ⟨_, rfl, a, _, _, _, rfl, rfl, SqT.of ha, atI_nat (j := 0) rfl, rfl, _, rfl, if_strE (fun _ => ?_) (fun e => absurd rfl e)⟩
    refine ⟨_, rfl, a, _, _, _, rfl, rfl, SqT.of ha, atI_nat (j := 1) rfl, k, rfl, log_str sk, (by show 2 ≤ sizeLine; decide), fun p np => ?_⟩
    have s1 : Same H (upd H p (.lst [V.str (toString k : String), V.str "*"])) := same_new np
    have hp : (upd H p (.lst [V.str (toString k : String), V.str "*"])) p = some (.lst (([(toString k : String), "*"] : List Str).map V.str)) := upd_same
    generalize upd H p (.lst [V.str (toString k : String), V.str "*"]) = H1 at s1 hp ⊢
    have F1 := F0.same s1
    refine ⟨_, rfl, _, rfl, a, _, _, _, rfl, rfl, SqT.of (s1 _ _ ha), atI_nat (j := 2) rfl, f, c, x, t1, 3, rfl, by decide, ht1.keep (TK.same s1), by omega, ok1, by omega, F1, fun p2 u H2 hp2 wo F2 B2 => ?_⟩
    have lu := wo.ln
    refine cat_strs (B2 _ _ hp (F1.neS hp)) hp2 (by show 2 + u.length ≤ 1000; omega) fun p3 H3 np3 hp3 s3 => ?_
    refine q p3 _ H3 hp3 ⟨(Rd.times g wo.rd).mono (by omega), ?_, fun z hz => ?_⟩ (F2.same s3) (((But.of s1).trans B2).same s3)
    · rw [List.length_append]
      show 2 + u.length ≤ 6 * (Tr.tm k t1).parts.length - 2
      have : (Tr.tm k t1).parts.length = t1.parts.length + 1 := by simp [Tr.parts]
      omega
    · simp only [List.cons_append, List.nil_append, List.mem_cons] at hz
      rcases hz with rfl | rfl | hz
      · exact g.2
      · decide
      · exact wo.wk z hz
  | o2 wd t1 t2 =>
    obtain ⟨a, x, y, rfl, ha, ht1, ht2⟩ := ht
    have okt1 : OkT t1 := ⟨ok.sm.1, fun q hq => ok.nm q (List.mem_append.mpr (.inl hq))⟩
    have okt2 : OkT t2 := ⟨ok.sm.2, fun q hq => ok.nm q (List.mem_append.mpr (.inr hq))⟩
    have hd : max t1.dep t2.dep + 1 ≤ n + 1 := hd
    have ep : ∀ wd, (Tr.o2 wd t1 t2).parts.length = t1.parts.length + t2.parts.length + 1 := fun wd => by simp [Tr.parts]; omega
    rw [ep] at lp
    cases wd with
    | sum =>
      refine ⟨_, rfl, a, _, _, _, rfl, rfl, SqT.of ha, atI_nat (j := 0) rfl, rfl, _, rfl, if_strE (fun e => absurd e (by decide +kernel)) (fun _ => ?_)⟩
      refine ⟨_, rfl, a, _, _, _, rfl, rfl, SqT.of ha, atI_nat (j := 0) rfl, rfl, _, rfl, if_strE (fun e => absurd e (by decide +kernel)) (fun _ => ?_)⟩
      refine ⟨_, rfl, a, _, _, _, rfl, rfl, SqT.of ha, atI_nat (j := 0) rfl, rfl, _, rfl, if_strE (fun e => absurd e (by decide +kernel)) (fun _ => ?_)⟩
      refine ⟨_, rfl, a, _, _, _, rfl, rfl, SqT.of ha, atI_nat (j := 0) rfl, (by show 2 ≤ sizeLine; decide), fun tp ntp => ⟨tp, _, rfl, .inr (SqT.of upd_same), rfl, rfl, _, rfl, ?_⟩⟩
      have s0 : Same H (upd H tp (.tup [.str "most", .str "least"])) := same_new ntp
      generalize upd H tp (.tup [.str "most", .str "least"]) = H0 at s0 ⊢
      have F00 := F0.same s0
      have B0 : But f H H0 := But.of s0
      refine if_in (zs := ["most", "least"]) (fun c => absurd c (by decide +kernel)) (fun _ => ?_)
      refine ⟨_, rfl, a, _, _, _, rfl, rfl, SqT.of (s0 _ _ ha), atI_nat (j := 0) rfl, rfl, _, rfl, if_strE (fun e => absurd e (by decide +kernel)) (fun _ => ?_)⟩
      refine ⟨_, rfl, a, _, _, _, rfl, rfl, SqT.of (s0 _ _ ha), atI_nat (j := 0) rfl, rfl, _, rfl, if_strE (fun e => absurd e (by decide +kernel)) (fun _ => ?_)⟩
      refine ⟨(by show 2 ≤ sizeLine; decide), fun ps nps => ?_⟩
      have sS : Same H0 (upd H0 ps (.lst [V.str "+", V.str "-"])) := same_new nps
      have hps : (upd H0 ps (.lst [V.str "+", V.str "-"])) ps = some (.lst [V.str "+", V.str "-"]) := upd_same
      generalize upd H0 ps (.lst [V.str "+", V.str "-"]) = H00 at sS hps ⊢
      refine ⟨_, rfl, a, _, _, _, rfl, rfl, SqT.of (sS _ _ (s0 _ _ ha)), atI_nat (j := 0) rfl, rfl, .inr ⟨_, rfl, ps, _, _, V.str "+", rfl, rfl, SqL.of hps, by decide +kernel, ?_⟩⟩
      have F00 := F00.same sS
      have B0 := B0.same sS
      refine ⟨_, rfl, _, rfl, a, _, _, _, rfl, rfl, SqT.of (TK.but F0 B0 _ _ ha), atI_nat (j := 1) rfl, f, c, x, t1, 1, rfl, by decide, ht1.keep (TK.but F0 B0), by omega, okt1, by omega, F00, fun p2 u H2 hp2 w1 F2 bH2 => ?_⟩
      have B2 := B0.trans bH2
      have lu := w1.ln
      refine ⟨_, rfl, (by show 1 ≤ sizeLine; decide), fun p3 np3 => ?_⟩
      have sH3 : Same H2 (upd H2 p3 (.lst [V.str "+"])) := same_new np3
      have hp3 : (upd H2 p3 (.lst [V.str "+"])) p3 = some (.lst (([("+" : Str)] : List Str).map V.str)) := upd_same
      generalize upd H2 p3 (.lst [V.str "+"]) = H3 at sH3 hp3 ⊢
      have F3 := F2.same sH3
      have B3 := B2.same sH3
      refine cat_strs (sH3 _ _ hp2) hp3 (by simp only [List.length_append, List.length_cons, List.length_nil]; omega) fun p4 H4 np4 hp4 sH4 => ?_
      have F4 := F3.same sH4
      have B4 := B3.same sH4
      refine ⟨_, rfl, _, rfl, a, _, _, _, rfl, rfl, SqT.of (TK.but F0 B4 _ _ ha), atI_nat (j := 2) rfl, f, c, y, t2, 2, rfl, by decide, ht2.keep (TK.but F0 B4), by omega, okt2, by omega, F4, fun p5 v H5 hp5 w2 F5 bH5 => ?_⟩
      have B5 := B4.trans bH5
      have lv := w2.ln
      refine cat_strs (bH5 _ _ hp4 (F4.neS hp4)) hp5 (by simp only [List.length_append, List.length_cons, List.length_nil]; omega) fun p6 H6 np6 hp6 sH6 => ?_
      have F6 := F5.same sH6
      have B6 := B5.same sH6
      refine q p6 _ H6 hp6 ⟨?_, ?_, fun zz hz => ?_⟩ F6 B6
      · have g := Rd.sum (w := .sum) (s := "+") rfl (w1.rd.mono (Nat.le_succ _)) w2.rd
        have e : (u ++ [("+" : Str)]) ++ v = u ++ ("+" : Str) :: v := by simp
        rw [e]
        exact g.mono (by omega)
      · rw [ep]
        simp only [List.length_append, List.length_cons, List.length_nil]
        omega
      · simp only [List.mem_append, List.mem_cons, List.not_mem_nil, or_false] at hz
        rcases hz with (hz | rfl) | hz
        · exact w1.wk _ hz
        · decide
        · exact w2.wk _ hz
    | gap =>
      refine ⟨_, rfl, a, _, _, _, rfl, rfl, SqT.of ha, atI_nat (j := 0) rfl, rfl, _, rfl, if_strE (fun e => absurd e (by decide +kernel)) (fun _ => ?_)⟩
      refine ⟨_, rfl, a, _, _, _, rfl, rfl, SqT.of ha, atI_nat (j := 0) rfl, rfl, _, rfl, if_strE (fun e => absurd e (by decide +kernel)) (fun _ => ?_)⟩
      refine ⟨_, rfl, a, _, _, _, rfl, rfl, SqT.of ha, atI_nat (j := 0) rfl, rfl, _, rfl, if_strE (fun e => absurd e (by decide +kernel)) (fun _ => ?_)⟩
      refine ⟨_, rfl, a, _, _, _, rfl, rfl, SqT.of ha, atI_nat (j := 0) rfl, (by show 2 ≤ sizeLine; decide), fun tp ntp => ⟨tp, _, rfl, .inr (SqT.of upd_same), rfl, rfl, _, rfl, ?_⟩⟩
      have s0 : Same H (upd H tp (.tup [.str "most", .str "least"])) := same_new ntp
      generalize upd H tp (.tup [.str "most", .str "least"]) = H0 at s0 ⊢
      have F00 := F0.same s0
      have B0 : But f H H0 := But.of s0
      refine if_in (zs := ["most", "least"]) (fun c => absurd c (by decide +kernel)) (fun _ => ?_)
      refine ⟨_, rfl, a, _, _, _, rfl, rfl, SqT.of (s0 _ _ ha), atI_nat (j := 0) rfl, rfl, _, rfl, if_strE (fun e => absurd e (by decide +kernel)) (fun _ => ?_)⟩
      refine ⟨_, rfl, a, _, _, _, rfl, rfl, SqT.of (s0 _ _ ha), atI_nat (j := 0) rfl, rfl, _, rfl, if_strE (fun e => absurd e (by decide +kernel)) (fun _ => ?_)⟩
      refine ⟨(by show 2 ≤ sizeLine; decide), fun ps nps => ?_⟩
      have sS : Same H0 (upd H0 ps (.lst [V.str "+", V.str "-"])) := same_new nps
      have hps : (upd H0 ps (.lst [V.str "+", V.str "-"])) ps = some (.lst [V.str "+", V.str "-"]) := upd_same
      generalize upd H0 ps (.lst [V.str "+", V.str "-"]) = H00 at sS hps ⊢
      refine ⟨_, rfl, a, _, _, _, rfl, rfl, SqT.of (sS _ _ (s0 _ _ ha)), atI_nat (j := 0) rfl, rfl, .inr ⟨_, rfl, ps, _, _, V.str "-", rfl, rfl, SqL.of hps, by decide +kernel, ?_⟩⟩
      have F00 := F00.same sS
      have B0 := B0.same sS
      refine ⟨_, rfl, _, rfl, a, _, _, _, rfl, rfl, SqT.of (TK.but F0 B0 _ _ ha), atI_nat (j := 1) rfl, f, c, x, t1, 1, rfl, by decide, ht1.keep (TK.but F0 B0), by omega, okt1, by omega, F00, fun p2 u H2 hp2 w1 F2 bH2 => ?_⟩
      have B2 := B0.trans bH2
      have lu := w1.ln
      refine ⟨_, rfl, (by show 1 ≤ sizeLine; decide), fun p3 np3 => ?_⟩
      have sH3 : Same H2 (upd H2 p3 (.lst [V.str "-"])) := same_new np3
      have hp3 : (upd H2 p3 (.lst [V.str "-"])) p3 = some (.lst (([("-" : Str)] : List Str).map V.str)) := upd_same
      generalize upd H2 p3 (.lst [V.str "-"]) = H3 at sH3 hp3 ⊢
      have F3 := F2.same sH3
      have B3 := B2.same sH3
      refine cat_strs (sH3 _ _ hp2) hp3 (by simp only [List.length_append, List.length_cons, List.length_nil]; omega) fun p4 H4 np4 hp4 sH4 => ?_
      have F4 := F3.same sH4
      have B4 := B3.same sH4
      refine ⟨_, rfl, _, rfl, a, _, _, _, rfl, rfl, SqT.of (TK.but F0 B4 _ _ ha), atI_nat (j := 2) rfl, f, c, y, t2, 2, rfl, by decide, ht2.keep (TK.but F0 B4), by omega, okt2, by omega, F4, fun p5 v H5 hp5 w2 F5 bH5 => ?_⟩
      have B5 := B4.trans bH5
      have lv := w2.ln
      refine cat_strs (bH5 _ _ hp4 (F4.neS hp4)) hp5 (by simp only [List.length_append, List.length_cons, List.length_nil]; omega) fun p6 H6 np6 hp6 sH6 => ?_
      have F6 := F5.same sH6
      have B6 := B5.same sH6
      refine q p6 _ H6 hp6 ⟨?_, ?_, fun zz hz => ?_⟩ F6 B6
      · have g := Rd.sum (w := .gap) (s := "-") rfl (w1.rd.mono (Nat.le_succ _)) w2.rd
        have e : (u ++ [("-" : Str)]) ++ v = u ++ ("-" : Str) :: v := by simp
        rw [e]
        exact g.mono (by omega)
      · rw [ep]
        simp only [List.length_append, List.length_cons, List.length_nil]
        omega
      · simp only [List.mem_append, List.mem_cons, List.not_mem_nil, or_false] at hz
        rcases hz with (hz | rfl) | hz
        · exact w1.wk _ hz
        · decide
        · exact w2.wk _ hz
    | below =>
      refine ⟨_, rfl, a, _, _, _, rfl, rfl, SqT.of ha, atI_nat (j := 0) rfl, rfl, _, rfl, if_strE (fun e => absurd e (by decide +kernel)) (fun _ => ?_)⟩
      refine ⟨_, rfl, a, _, _, _, rfl, rfl, SqT.of ha, atI_nat (j := 0) rfl, rfl, _, rfl, if_strE (fun e => absurd e (by decide +kernel)) (fun _ => ?_)⟩
      refine ⟨_, rfl, a, _, _, _, rfl, rfl, SqT.of ha, atI_nat (j := 0) rfl, rfl, _, rfl, if_strE (fun e => absurd e (by decide +kernel)) (fun _ => ?_)⟩
      refine ⟨_, rfl, a, _, _, _, rfl, rfl, SqT.of ha, atI_nat (j := 0) rfl, (by show 2 ≤ sizeLine; decide), fun tp ntp => ⟨tp, _, rfl, .inr (SqT.of upd_same), rfl, rfl, _, rfl, ?_⟩⟩
      have s0 : Same H (upd H tp (.tup [.str "most", .str "least"])) := same_new ntp
      generalize upd H tp (.tup [.str "most", .str "least"]) = H0 at s0 ⊢
      have F00 := F0.same s0
      have B0 : But f H H0 := But.of s0
      refine if_in (zs := ["most", "least"]) (fun c => absurd c (by decide +kernel)) (fun _ => ?_)
      refine ⟨_, rfl, a, _, _, _, rfl, rfl, SqT.of (s0 _ _ ha), atI_nat (j := 0) rfl, rfl, _, rfl, if_strE (fun e => absurd e (by decide +kernel)) (fun _ => ?_)⟩
      refine ⟨_, rfl, a, _, _, _, rfl, rfl, SqT.of (s0 _ _ ha), atI_nat (j := 0) rfl, rfl, _, rfl, if_strE (fun _ => ?_) (fun e => absurd rfl e)⟩
      refine ⟨_, rfl, _, rfl, a, _, _, _, rfl, rfl, SqT.of (TK.but F0 B0 _ _ ha), atI_nat (j := 1) rfl, f, c, x, t1, 1, rfl, by decide, ht1.keep (TK.but F0 B0), by omega, okt1, by omega, F00, fun p2 u H2 hp2 w1 F2 bH2 => ?_⟩
      have B2 := B0.trans bH2
      have lu := w1.ln
      refine ⟨(by show 1 ≤ sizeLine; decide), fun p3 np3 => ?_⟩
      have sH3 : Same H2 (upd H2 p3 (.lst [V.str "<"])) := same_new np3
      have hp3 : (upd H2 p3 (.lst [V.str "<"])) p3 = some (.lst (([("<" : Str)] : List Str).map V.str)) := upd_same
      generalize upd H2 p3 (.lst [V.str "<"]) = H3 at sH3 hp3 ⊢
      have F3 := F2.same sH3
      have B3 := B2.same sH3
      refine cat_strs (sH3 _ _ hp2) hp3 (by simp only [List.length_append, List.length_cons, List.length_nil]; omega) fun p4 H4 np4 hp4 sH4 => ?_
      have F4 := F3.same sH4
      have B4 := B3.same sH4
      refine ⟨_, rfl, _, rfl, a, _, _, _, rfl, rfl, SqT.of (TK.but F0 B4 _ _ ha), atI_nat (j := 2) rfl, f, c, y, t2, 1, rfl, by decide, ht2.keep (TK.but F0 B4), by omega, okt2, by omega, F4, fun p5 v H5 hp5 w2 F5 bH5 => ?_⟩
      have B5 := B4.trans bH5
      have lv := w2.ln
      refine cat_strs (bH5 _ _ hp4 (F4.neS hp4)) hp5 (by simp only [List.length_append, List.length_cons, List.length_nil]; omega) fun p6 H6 np6 hp6 sH6 => ?_
      have F6 := F5.same sH6
      have B6 := B5.same sH6
      refine q p6 _ H6 hp6 ⟨?_, ?_, fun zz hz => ?_⟩ F6 B6
      · have g := Rd.less w1.rd w2.rd
        have e : (u ++ [("<" : Str)]) ++ v = u ++ ("<" : Str) :: v := by simp
        rw [e]
        exact g.mono (by omega)
      · rw [ep]
        simp only [List.length_append, List.length_cons, List.length_nil]
        omega
      · simp only [List.mem_append, List.mem_cons, List.not_mem_nil, or_false] at hz
        rcases hz with (hz | rfl) | hz
        · exact w1.wk _ hz
        · decide
        · exact w2.wk _ hz
    | most =>
      refine ⟨_, rfl, a, _, _, _, rfl, rfl, SqT.of ha, atI_nat (j := 0) rfl, rfl, _, rfl, if_strE (fun e => absurd e (by decide +kernel)) (fun _ => ?_)⟩
      refine ⟨_, rfl, a, _, _, _, rfl, rfl, SqT.of ha, atI_nat (j := 0) rfl, rfl, _, rfl, if_strE (fun e => absurd e (by decide +kernel)) (fun _ => ?_)⟩
      refine ⟨_, rfl, a, _, _, _, rfl, rfl, SqT.of ha, atI_nat (j := 0) rfl, rfl, _, rfl, if_strE (fun e => absurd e (by decide +kernel)) (fun _ => ?_)⟩
      refine ⟨_, rfl, a, _, _, _, rfl, rfl, SqT.of ha, atI_nat (j := 0) rfl, (by show 2 ≤ sizeLine; decide), fun tp ntp => ⟨tp, _, rfl, .inr (SqT.of upd_same), rfl, rfl, _, rfl, ?_⟩⟩
      have s0 : Same H (upd H tp (.tup [.str "most", .str "least"])) := same_new ntp
      generalize upd H tp (.tup [.str "most", .str "least"]) = H0 at s0 ⊢
      have F00 := F0.same s0
      have B0 : But f H H0 := But.of s0
      refine if_in (zs := ["most", "least"]) (fun _ => ?_) (fun c => absurd (by decide +kernel) c)
      refine ⟨_, rfl, a, _, _, _, rfl, rfl, SqT.of (s0 _ _ ha), atI_nat (j := 0) rfl, (by show 2 ≤ sizeLine; decide), fun p1 np1 => ?_⟩
      have sH1 : Same H0 (upd H0 p1 (.lst [V.str (W2.most).s, V.str "("])) := same_new np1
      have hp1 : (upd H0 p1 (.lst [V.str (W2.most).s, V.str "("])) p1 = some (.lst (([(W2.most).s, "("] : List Str).map V.str)) := upd_same
      generalize upd H0 p1 (.lst [V.str (W2.most).s, V.str "("]) = H1 at sH1 hp1 ⊢
      have F1 := F00.same sH1
      have B1 := B0.same sH1
      refine ⟨_, rfl, _, rfl, a, _, _, _, rfl, rfl, SqT.of (TK.but F0 B1 _ _ ha), atI_nat (j := 1) rfl, f, c, x, t1, 0, rfl, by decide, ht1.keep (TK.but F0 B1), by omega, okt1, by omega, F1, fun p2 u H2 hp2 w1 F2 bH2 => ?_⟩
      have B2 := B1.trans bH2
      have lu := w1.ln
      refine cat_strs (bH2 _ _ hp1 (F1.neS hp1)) hp2 (by simp only [List.length_append, List.length_cons, List.length_nil]; omega) fun p3 H3 np3 hp3 sH3 => ?_
      have F3 := F2.same sH3
      have B3 := B2.same sH3
      refine ⟨(by show 1 ≤ sizeLine; decide), fun p4 np4 => ?_⟩
      have sH4 : Same H3 (upd H3 p4 (.lst [V.str ","])) := same_new np4
      have hp4 : (upd H3 p4 (.lst [V.str ","])) p4 = some (.lst (([("," : Str)] : List Str).map V.str)) := upd_same
      generalize upd H3 p4 (.lst [V.str ","]) = H4 at sH4 hp4 ⊢
      have F4 := F3.same sH4
      have B4 := B3.same sH4
      refine cat_strs (sH4 _ _ hp3) hp4 (by simp only [List.length_append, List.length_cons, List.length_nil]; omega) fun p5 H5 np5 hp5 sH5 => ?_
      have F5 := F4.same sH5
      have B5 := B4.same sH5
      refine ⟨_, rfl, ?_⟩
      refine ⟨_, rfl, _, rfl, a, _, _, _, rfl, rfl, SqT.of (TK.but F0 B5 _ _ ha), atI_nat (j := 2) rfl, f, c, y, t2, 0, rfl, by decide, ht2.keep (TK.but F0 B5), by omega, okt2, by omega, F5, fun p6 v H6 hp6 w2 F6 bH6 => ?_⟩
      have B6 := B5.trans bH6
      have lv := w2.ln
      refine cat_strs (bH6 _ _ hp5 (F5.neS hp5)) hp6 (by simp only [List.length_append, List.length_cons, List.length_nil]; omega) fun p7 H7 np7 hp7 sH7 => ?_
      have F7 := F6.same sH7
      have B7 := B6.same sH7
      refine ⟨(by show 1 ≤ sizeLine; decide), fun p8 np8 => ?_⟩
      have sH8 : Same H7 (upd H7 p8 (.lst [V.str ")"])) := same_new np8
      have hp8 : (upd H7 p8 (.lst [V.str ")"])) p8 = some (.lst (([(")" : Str)] : List Str).map V.str)) := upd_same
      generalize upd H7 p8 (.lst [V.str ")"]) = H8 at sH8 hp8 ⊢
      have F8 := F7.same sH8
      have B8 := B7.same sH8
      refine cat_strs (sH8 _ _ hp7) hp8 (by simp only [List.length_append, List.length_cons, List.length_nil]; omega) fun p9 H9 np9 hp9 sH9 => ?_
      have F9 := F8.same sH9
      have B9 := B8.same sH9
      refine q p9 _ H9 hp9 ⟨?_, ?_, fun zz hz => ?_⟩ F9 B9
      · have g := Rd.two (w := .most) rfl w1.rd w2.rd
        have e : ((([(W2.most).s, "("] ++ u) ++ [("," : Str)]) ++ v) ++ [(")" : Str)] = (W2.most).s :: ("(" : Str) :: (u ++ ("," : Str) :: (v ++ [(")" : Str)])) := by simp [W2.s]
        rw [e]
        exact g.mono (by omega)
      · rw [ep]
        simp only [List.length_append, List.length_cons, List.length_nil]
        omega
      · simp only [List.mem_append, List.mem_cons, List.not_mem_nil, or_false] at hz
        rcases hz with ((((rfl | rfl) | hz) | rfl) | hz) | rfl
        · decide
        · decide
        · exact w1.wk _ hz
        · decide
        · exact w2.wk _ hz
        · decide
    | least =>
      refine ⟨_, rfl, a, _, _, _, rfl, rfl, SqT.of ha, atI_nat (j := 0) rfl, rfl, _, rfl, if_strE (fun e => absurd e (by decide +kernel)) (fun _ => ?_)⟩
      refine ⟨_, rfl, a, _, _, _, rfl, rfl, SqT.of ha, atI_nat (j := 0) rfl, rfl, _, rfl, if_strE (fun e => absurd e (by decide +kernel)) (fun _ => ?_)⟩
      refine ⟨_, rfl, a, _, _, _, rfl, rfl, SqT.of ha, atI_nat (j := 0) rfl, rfl, _, rfl, if_strE (fun e => absurd e (by decide +kernel)) (fun _ => ?_)⟩
      refine ⟨_, rfl, a, _, _, _, rfl, rfl, SqT.of ha, atI_nat (j := 0) rfl, (by show 2 ≤ sizeLine; decide), fun tp ntp => ⟨tp, _, rfl, .inr (SqT.of upd_same), rfl, rfl, _, rfl, ?_⟩⟩
      have s0 : Same H (upd H tp (.tup [.str "most", .str "least"])) := same_new ntp
      generalize upd H tp (.tup [.str "most", .str "least"]) = H0 at s0 ⊢
      have F00 := F0.same s0
      have B0 : But f H H0 := But.of s0
      refine if_in (zs := ["most", "least"]) (fun _ => ?_) (fun c => absurd (by decide +kernel) c)
      refine ⟨_, rfl, a, _, _, _, rfl, rfl, SqT.of (s0 _ _ ha), atI_nat (j := 0) rfl, (by show 2 ≤ sizeLine; decide), fun p1 np1 => ?_⟩
      have sH1 : Same H0 (upd H0 p1 (.lst [V.str (W2.least).s, V.str "("])) := same_new np1
      have hp1 : (upd H0 p1 (.lst [V.str (W2.least).s, V.str "("])) p1 = some (.lst (([(W2.least).s, "("] : List Str).map V.str)) := upd_same
      generalize upd H0 p1 (.lst [V.str (W2.least).s, V.str "("]) = H1 at sH1 hp1 ⊢
      have F1 := F00.same sH1
      have B1 := B0.same sH1
      refine ⟨_, rfl, _, rfl, a, _, _, _, rfl, rfl, SqT.of (TK.but F0 B1 _ _ ha), atI_nat (j := 1) rfl, f, c, x, t1, 0, rfl, by decide, ht1.keep (TK.but F0 B1), by omega, okt1, by omega, F1, fun p2 u H2 hp2 w1 F2 bH2 => ?_⟩
      have B2 := B1.trans bH2
      have lu := w1.ln
      refine cat_strs (bH2 _ _ hp1 (F1.neS hp1)) hp2 (by simp only [List.length_append, List.length_cons, List.length_nil]; omega) fun p3 H3 np3 hp3 sH3 => ?_
      have F3 := F2.same sH3
      have B3 := B2.same sH3
      refine ⟨(by show 1 ≤ sizeLine; decide), fun p4 np4 => ?_⟩
      have sH4 : Same H3 (upd H3 p4 (.lst [V.str ","])) := same_new np4
      have hp4 : (upd H3 p4 (.lst [V.str ","])) p4 = some (.lst (([("," : Str)] : List Str).map V.str)) := upd_same
      generalize upd H3 p4 (.lst [V.str ","]) = H4 at sH4 hp4 ⊢
      have F4 := F3.same sH4
      have B4 := B3.same sH4
      refine cat_strs (sH4 _ _ hp3) hp4 (by simp only [List.length_append, List.length_cons, List.length_nil]; omega) fun p5 H5 np5 hp5 sH5 => ?_
      have F5 := F4.same sH5
      have B5 := B4.same sH5
      refine ⟨_, rfl, ?_⟩
      refine ⟨_, rfl, _, rfl, a, _, _, _, rfl, rfl, SqT.of (TK.but F0 B5 _ _ ha), atI_nat (j := 2) rfl, f, c, y, t2, 0, rfl, by decide, ht2.keep (TK.but F0 B5), by omega, okt2, by omega, F5, fun p6 v H6 hp6 w2 F6 bH6 => ?_⟩
      have B6 := B5.trans bH6
      have lv := w2.ln
      refine cat_strs (bH6 _ _ hp5 (F5.neS hp5)) hp6 (by simp only [List.length_append, List.length_cons, List.length_nil]; omega) fun p7 H7 np7 hp7 sH7 => ?_
      have F7 := F6.same sH7
      have B7 := B6.same sH7
      refine ⟨(by show 1 ≤ sizeLine; decide), fun p8 np8 => ?_⟩
      have sH8 : Same H7 (upd H7 p8 (.lst [V.str ")"])) := same_new np8
      have hp8 : (upd H7 p8 (.lst [V.str ")"])) p8 = some (.lst (([(")" : Str)] : List Str).map V.str)) := upd_same
      generalize upd H7 p8 (.lst [V.str ")"]) = H8 at sH8 hp8 ⊢
      have F8 := F7.same sH8
      have B8 := B7.same sH8
      refine cat_strs (sH8 _ _ hp7) hp8 (by simp only [List.length_append, List.length_cons, List.length_nil]; omega) fun p9 H9 np9 hp9 sH9 => ?_
      have F9 := F8.same sH9
      have B9 := B8.same sH9
      refine q p9 _ H9 hp9 ⟨?_, ?_, fun zz hz => ?_⟩ F9 B9
      · have g := Rd.two (w := .least) rfl w1.rd w2.rd
        have e : ((([(W2.least).s, "("] ++ u) ++ [("," : Str)]) ++ v) ++ [(")" : Str)] = (W2.least).s :: ("(" : Str) :: (u ++ ("," : Str) :: (v ++ [(")" : Str)])) := by simp [W2.s]
        rw [e]
        exact g.mono (by omega)
      · rw [ep]
        simp only [List.length_append, List.length_cons, List.length_nil]
        omega
      · simp only [List.mem_append, List.mem_cons, List.not_mem_nil, or_false] at hz
        rcases hz with ((((rfl | rfl) | hz) | rfl) | hz) | rfl
        · decide
        · decide
        · exact w1.wk _ hz
        · decide
        · exact w2.wk _ hz
        · decide
  | o3 t1 t2 t3 =>
    obtain ⟨a, x, y, z, rfl, ha, ht1, ht2, ht3⟩ := ht
    have okt1 : OkT t1 := ⟨ok.sm.1, fun q hq => ok.nm q (List.mem_append.mpr (.inl (List.mem_append.mpr (.inl hq))))⟩
    have okt2 : OkT t2 := ⟨ok.sm.2.1, fun q hq => ok.nm q (List.mem_append.mpr (.inl (List.mem_append.mpr (.inr hq))))⟩
    have okt3 : OkT t3 := ⟨ok.sm.2.2, fun q hq => ok.nm q (List.mem_append.mpr (.inr hq))⟩
    have hd : max t1.dep (max t2.dep t3.dep) + 1 ≤ n + 1 := hd
    have ep : (Tr.o3 t1 t2 t3).parts.length = t1.parts.length + t2.parts.length + t3.parts.length + 1 := by simp [Tr.parts]; omega
    rw [ep] at lp
    refine ⟨_, rfl, a, _, _, _, rfl, rfl, SqT.of ha, atI_nat (j := 0) rfl, rfl, _, rfl, if_strE (fun e => absurd e (by decide +kernel)) (fun _ => ?_)⟩
    refine ⟨_, rfl, a, _, _, _, rfl, rfl, SqT.of ha, atI_nat (j := 0) rfl, rfl, _, rfl, if_strE (fun e => absurd e (by decide +kernel)) (fun _ => ?_)⟩
    refine ⟨_, rfl, a, _, _, _, rfl, rfl, SqT.of ha, atI_nat (j := 0) rfl, rfl, _, rfl, if_strE (fun e => absurd e (by decide +kernel)) (fun _ => ?_)⟩
    refine ⟨_, rfl, a, _, _, _, rfl, rfl, SqT.of ha, atI_nat (j := 0) rfl, (by show 2 ≤ sizeLine; decide), fun tp ntp => ⟨tp, _, rfl, .inr (SqT.of upd_same), rfl, rfl, _, rfl, ?_⟩⟩
    have s0 : Same H (upd H tp (.tup [.str "most", .str "least"])) := same_new ntp
    generalize upd H tp (.tup [.str "most", .str "least"]) = H0 at s0 ⊢
    have F00 := F0.same s0
    have B0 : But f H H0 := But.of s0
    refine if_in (zs := ["most", "least"]) (fun c => absurd c (by decide +kernel)) (fun _ => ?_)
    refine ⟨_, rfl, a, _, _, _, rfl, rfl, SqT.of (s0 _ _ ha), atI_nat (j := 0) rfl, rfl, _, rfl, if_strE (fun _ => ?_) (fun e => absurd rfl e)⟩
    refine ⟨(by show 1 ≤ sizeLine; decide), fun p1 np1 => ?_⟩
    have sH1 : Same H0 (upd H0 p1 (.lst [V.str "if"])) := same_new np1
    have hp1 : (upd H0 p1 (.lst [V.str "if"])) p1 = some (.lst (([("if" : Str)] : List Str).map V.str)) := upd_same
    generalize upd H0 p1 (.lst [V.str "if"]) = H1 at sH1 hp1 ⊢
    have F1 := F00.same sH1
    have B1 := B0.same sH1
    refine ⟨_, rfl, _, rfl, a, _, _, _, rfl, rfl, SqT.of (TK.but F0 B1 _ _ ha), atI_nat (j := 1) rfl, f, c, x, t1, 0, rfl, by decide, ht1.keep (TK.but F0 B1), by omega, okt1, by omega, F1, fun p2 u H2 hp2 w1 F2 bH2 => ?_⟩
    have B2 := B1.trans bH2
    have lu := w1.ln
    refine cat_strs (bH2 _ _ hp1 (F1.neS hp1)) hp2 (by simp only [List.length_append, List.length_cons, List.length_nil]; omega) fun p3 H3 np3 hp3 sH3 => ?_
    have F3 := F2.same sH3
    have B3 := B2.same sH3
    refine ⟨(by show 1 ≤ sizeLine; decide), fun p4 np4 => ?_⟩
    have sH4 : Same H3 (upd H3 p4 (.lst [V.str "then"])) := same_new np4
    have hp4 : (upd H3 p4 (.lst [V.str "then"])) p4 = some (.lst (([("then" : Str)] : List Str).map V.str)) := upd_same
    generalize upd H3 p4 (.lst [V.str "then"]) = H4 at sH4 hp4 ⊢
    have F4 := F3.same sH4
    have B4 := B3.same sH4
    refine cat_strs (sH4 _ _ hp3) hp4 (by simp only [List.length_append, List.length_cons, List.length_nil]; omega) fun p5 H5 np5 hp5 sH5 => ?_
    have F5 := F4.same sH5
    have B5 := B4.same sH5
    refine ⟨_, rfl, _, rfl, a, _, _, _, rfl, rfl, SqT.of (TK.but F0 B5 _ _ ha), atI_nat (j := 2) rfl, f, c, y, t2, 0, rfl, by decide, ht2.keep (TK.but F0 B5), by omega, okt2, by omega, F5, fun p6 v H6 hp6 w2 F6 bH6 => ?_⟩
    have B6 := B5.trans bH6
    have lv := w2.ln
    refine cat_strs (bH6 _ _ hp5 (F5.neS hp5)) hp6 (by simp only [List.length_append, List.length_cons, List.length_nil]; omega) fun p7 H7 np7 hp7 sH7 => ?_
    have F7 := F6.same sH7
    have B7 := B6.same sH7
    refine ⟨_, rfl, ?_⟩
    refine ⟨(by show 1 ≤ sizeLine; decide), fun p8 np8 => ?_⟩
    have sH8 : Same H7 (upd H7 p8 (.lst [V.str "else"])) := same_new np8
    have hp8 : (upd H7 p8 (.lst [V.str "else"])) p8 = some (.lst (([("else" : Str)] : List Str).map V.str)) := upd_same
    generalize upd H7 p8 (.lst [V.str "else"]) = H8 at sH8 hp8 ⊢
    have F8 := F7.same sH8
    have B8 := B7.same sH8
    refine cat_strs (sH8 _ _ hp7) hp8 (by simp only [List.length_append, List.length_cons, List.length_nil]; omega) fun p9 H9 np9 hp9 sH9 => ?_
    have F9 := F8.same sH9
    have B9 := B8.same sH9
    refine ⟨_, rfl, _, rfl, a, _, _, _, rfl, rfl, SqT.of (TK.but F0 B9 _ _ ha), atI_nat (j := 3) rfl, f, c, z, t3, 0, rfl, by decide, ht3.keep (TK.but F0 B9), by omega, okt3, by omega, F9, fun p10 x3 H10 hp10 w3 F10 bH10 => ?_⟩
    have B10 := B9.trans bH10
    have lx3 := w3.ln
    refine cat_strs (bH10 _ _ hp9 (F9.neS hp9)) hp10 (by simp only [List.length_append, List.length_cons, List.length_nil]; omega) fun p11 H11 np11 hp11 sH11 => ?_
    have F11 := F10.same sH11
    have B11 := B10.same sH11
    refine q p11 _ H11 hp11 ⟨?_, ?_, fun zz hz => ?_⟩ F11 B11
    · have g := Rd.pick w1.rd w2.rd w3.rd
      have e : ((([("if" : Str)] ++ u) ++ [("then" : Str)] ++ v) ++ [("else" : Str)]) ++ x3 = ("if" : Str) :: (u ++ ("then" : Str) :: (v ++ ("else" : Str) :: x3)) := by simp
      rw [e]
      exact g.mono (by omega)
    · rw [ep]
      simp only [List.length_append, List.length_cons, List.length_nil]
      omega
    · simp only [List.mem_append, List.mem_cons, List.not_mem_nil, or_false] at hz
      rcases hz with ((((rfl | hz) | rfl) | hz) | rfl) | hz
      · decide
      · exact w1.wk _ hz
      · decide
      · exact w2.wk _ hz
      · decide
      · exact w3.wk _ hz
theorem written_both {C : Addr} (T : Top w K mg C) : ∀ n, FnR2 P w K mg base "_law_bare" s_law_bare (2 * n + 3) ["_law_flow_here", "_law_tree_here"] (spBa n) ∧ FnR2 P w K mg base "_law_written" s_law_written (2 * n + 4) ["_law_flow_here", "_law_tree_here", "_law_level"] (spWr n)
  | 0 => by
    have b : FnR2 P w K mg base "_law_bare" s_law_bare (2 * 0 + 3) ["_law_flow_here", "_law_tree_here"] (spBa 0) := fun f fd F => fn_no fun vs H Q E ⟨_, _, _, t, _, _, d, _⟩ => by
      have := t.dep_pos
      omega
    exact ⟨b, fun f fd F => written_step T 0 b F⟩
  | n + 1 => by
    have ih := written_both T n
    have b : FnR2 P w K mg base "_law_bare" s_law_bare (2 * (n + 1) + 3) ["_law_flow_here", "_law_tree_here"] (spBa (n + 1)) := fun f fd F => bare_step T n ih.2 F
    exact ⟨b, fun f fd F => written_step T (n + 1) b F⟩
abbrev sp_law_written (_ : PySem.W.Frag) : Sp := spWr 11
theorem ok_law_written {C : Addr} {f : Addr} {fd : FuncData} (F : Fun K "_law_written" "_law_written" s_law_written f fd) (T : Top w K mg C) : FnOk P w K mg base CX0 26 f fd ["_law_flow_here", "_law_tree_here", "_law_level"] (sp_law_written K) := (written_both T 11).2 f fd F
end
/-! ### texts put together are split again -/
theorem cps_inj : ∀ {L M : List Str}, L.map (fun z => z.cps.toList) = M.map (fun z => z.cps.toList) → L = M
  | [], [], _ => rfl
  | [], _ :: _, h => nomatch h
  | _ :: _, [], h => nomatch h
  | a :: L, b :: M, h => by
    rw [List.map_cons, List.map_cons] at h
    obtain ⟨h1, h2⟩ := List.cons.inj h
    rw [str_inj h1, cps_inj h2]
theorem split_join {c : Nat} (hc : c < 256) {L : List Str} (ne : L ≠ []) (no : ∀ z ∈ L, c ∉ z.cps.toList) : Txt.split (Txt.join ⟨#[c]⟩ L) ⟨#[c]⟩ = L := by
  refine cps_inj ?_
  rw [split_one _ hc, join_one, splitL_join (by intro z; exact ne (List.map_eq_nil_iff.mp z)) fun p hp => ?_]
  obtain ⟨z, hz, rfl⟩ := List.mem_map.mp hp
  exact no z hz
/-- what a word of a row must not hold -/
def NoSp (z : Str) : Prop := 32 ∉ z.cps.toList ∧ 10 ∉ z.cps.toList
theorem joinL_no {c d : Nat} (ne : c ≠ d) : ∀ {ps : List (List Nat)}, (∀ p ∈ ps, d ∉ p) → d ∉ joinL c ps
  | [], _ => by simp [joinL]
  | [p], h => by simpa [joinL] using h p (List.mem_singleton.mpr rfl)
  | p :: q :: r, h => by
    have ih := joinL_no ne (ps := q :: r) fun x hx => h x (List.mem_cons_of_mem _ hx)
    rw [joinL_flat]
    intro m
    rcases List.mem_append.mp m with m | m
    · exact h p (List.mem_cons_self ..) m
    · obtain ⟨l, hl, hm⟩ := List.mem_flatten.mp m
      obtain ⟨x, hx, rfl⟩ := List.mem_map.mp hl
      rcases List.mem_cons.mp hm with e | e
      · exact ne e.symm
      · exact h x (List.mem_cons_of_mem _ hx) e
/-- rows of words, put together with blanks and new lines, come apart again -/
theorem rows_split {rws : List (List Str)} (ne : rws ≠ []) (nn : ∀ u ∈ rws, u ≠ []) (no : ∀ u ∈ rws, ∀ z ∈ u, NoSp z) :
    Txt.split (Txt.join ⟨#[10]⟩ (rws.map (Txt.join ⟨#[32]⟩))) ⟨#[10]⟩ = rws.map (Txt.join ⟨#[32]⟩) ∧ ∀ u ∈ rws, Txt.split (Txt.join ⟨#[32]⟩ u) ⟨#[32]⟩ = u := by
  refine ⟨split_join (by decide) (by intro z; exact ne (List.map_eq_nil_iff.mp z)) fun z hz => ?_, fun u hu => split_join (by decide) (nn u hu) fun z hz => (no u hu z hz).1⟩
  obtain ⟨u, hu, rfl⟩ := List.mem_map.mp hz
  rw [join_one]
  refine joinL_no (by decide) fun p hp => ?_
  obtain ⟨y, hy, rfl⟩ := List.mem_map.mp hp
  exact (no u hu y hy).2
theorem name_nosp {z : Str} (h : nameB z = true) : NoSp z := by
  unfold nameB at h
  split at h
  · cases h
  · rw [Bool.and_eq_true, List.all_eq_true] at h
    have al : ∀ d ∈ z.cps.toList, 97 ≤ d := fun d hd => (letters_ok d (of_decide_eq_true (h.2 d hd))).1
    exact ⟨fun m => absurd (al _ m) (by decide), fun m => absurd (al _ m) (by decide)⟩
theorem num_nosp {z : Str} {i : Int} (h : numW z i) : NoSp z := by
  obtain ⟨_, _, ad, _⟩ := numO_some h.1
  have al : ∀ d ∈ z.cps.toList, d = 45 ∨ 48 ≤ d := fun d hd => by
    unfold figL at ad
    split at ad
    · rename_i e
      cases hl : z.cps.toList with
      | nil => rw [hl] at hd; cases hd
      | cons x r =>
        rw [hl] at hd e ad
        rcases List.mem_cons.mp hd with y | y
        · rw [y]; exact .inl (Option.some.inj e)
        · exact .inr (ad d y).1
    · exact .inr (ad d hd).1
  refine ⟨fun m => ?_, fun m => ?_⟩
  · rcases al _ m with y | y <;> omega
  · rcases al _ m with y | y <;> omega
theorem sp_lit : ∀ z ∈ ([("(" : Str), ")", "@", ",", "*", "<", "if", "then", "else", "+", "-", "most", "least", "was", ":", "=", "in", "out", "sum", "gap", "below"] : List Str), NoSp z := by
  unfold NoSp
  decide +kernel
theorem Rd.nosp {l : Nat} {t : Tr} {u : List Str} {h : Nat} (r : Rd l t u h) : ∀ z ∈ u, NoSp z := by
  induction r with
  | up _ _ ih => exact ih
  | par _ ih =>
    intro z hz
    simp only [List.mem_cons, List.mem_append, List.not_mem_nil, or_false] at hz
    rcases hz with rfl | hz | rfl
    · exact sp_lit _ (by simp)
    · exact ih z hz
    · exact sp_lit _ (by simp)
  | num g => intro z hz; rw [List.mem_singleton.mp hz]; exact num_nosp g
  | nam g => intro z hz; rw [List.mem_singleton.mp hz]; exact name_nosp g.1
  | ago g y =>
    intro z hz
    simp only [List.mem_cons, List.not_mem_nil, or_false] at hz
    rcases hz with rfl | rfl | rfl
    · exact name_nosp g.1
    · exact sp_lit _ (by simp)
    · exact num_nosp y
  | @two w a b u v h g _ _ i1 i2 =>
    intro z hz
    simp only [List.mem_cons, List.mem_append, List.not_mem_nil, or_false] at hz
    rcases hz with rfl | rfl | hz | rfl | hz | rfl
    · cases w <;> exact sp_lit _ (by simp [W2.s])
    · exact sp_lit _ (by simp)
    · exact i1 z hz
    · exact sp_lit _ (by simp)
    · exact i2 z hz
    · exact sp_lit _ (by simp)
  | times g _ ih =>
    intro z hz
    simp only [List.mem_cons] at hz
    rcases hz with rfl | rfl | hz
    · exact num_nosp g
    · exact sp_lit _ (by simp)
    · exact ih z hz
  | @sum w s a b u v h p _ _ i1 i2 =>
    intro z hz
    simp only [List.mem_cons, List.mem_append] at hz
    rcases hz with hz | rfl | hz
    · exact i1 z hz
    · cases w <;> cases p <;> exact sp_lit _ (by simp)
    · exact i2 z hz
  | less _ _ i1 i2 =>
    intro z hz
    simp only [List.mem_cons, List.mem_append] at hz
    rcases hz with hz | rfl | hz
    · exact i1 z hz
    · exact sp_lit _ (by simp)
    · exact i2 z hz
  | pick _ _ _ i1 i2 i3 =>
    intro z hz
    simp only [List.mem_cons, List.mem_append] at hz
    rcases hz with rfl | hz | rfl | hz | rfl | hz
    · exact sp_lit _ (by simp)
    · exact i1 z hz
    · exact sp_lit _ (by simp)
    · exact i2 z hz
    · exact sp_lit _ (by simp)
    · exact i3 z hz
/-- a drawn name is a name -/
theorem wd_name {z : Str} (h : Wd 6 z) (n : z ∉ takL) : namW z := by
  refine ⟨?_, Nat.le_trans h.hi (by decide)⟩
  have lo := h.lo
  have hi := h.hi
  unfold nameB
  rw [if_neg (by omega), Bool.and_eq_true]
  refine ⟨?_, List.all_eq_true.mpr fun c hc => decide_eq_true ?_⟩
  · rw [show takV = takL.map V.str from rfl]
    cases e : inV (.str z) (takL.map V.str) with
    | true => exact absurd (inV_strs.mp e) n
    | false => rfl
  · have al : ∀ c, 97 ≤ c → c ≤ 122 → c ∈ letS.cps.toList := by
      intro c c1 c2
      have : ∀ d, d < 26 → 97 + d ∈ letS.cps.toList := by decide +kernel
      have := this (c - 97) (by omega)
      rwa [show 97 + (c - 97) = c by omega] at this
    obtain ⟨g1, g2⟩ := h.ltr c hc
    exact al c g1 g2
theorem OkT.of {t : Tr} {own : List Str} (sm : t.small) (wd : ∀ z ∈ own, Wd 6 z ∧ z ∉ takL) (ln : ∀ q ∈ t.leans, q.1 ∈ own ∧ q.2 ≤ 6) : OkT t := ⟨sm, fun q hq => by
  obtain ⟨h1, h2⟩ := ln q hq
  obtain ⟨g1, g2⟩ := wd _ h1
  exact ⟨wd_name g1 g2, by omega⟩⟩
theorem All2.take {α β : Type} {R : α → β → Prop} : ∀ {as : List α} {bs : List β}, All2 R as bs → ∀ n, All2 R (as.take n) (bs.take n)
  | _, _, .nil, n => by rw [List.take_nil, List.take_nil]; exact .nil
  | _, _, .cons h t, 0 => .nil
  | _, _, .cons h t, n + 1 => .cons h (t.take n)
theorem All2.drop {α β : Type} {R : α → β → Prop} : ∀ {as : List α} {bs : List β}, All2 R as bs → ∀ n, All2 R (as.drop n) (bs.drop n)
  | _, _, .nil, n => by rw [List.drop_nil, List.drop_nil]; exact .nil
  | _, _, .cons h t, 0 => .cons h t
  | _, _, .cons h t, n + 1 => t.drop n
/-! ### formulas written as a text -/
theorem joinL_len21 (c : Nat) : ∀ {ps : List (List Nat)} {B : Nat}, (∀ p ∈ ps, p.length ≤ B) → (joinL c ps).length ≤ ps.length * (B + 1)
  | [], _, _ => Nat.zero_le _
  | [p], B, h => by
    have := h p (List.mem_cons_self ..)
    show p.length ≤ 1 * (B + 1)
    omega
  | p :: q :: r, B, h => by
    have := h p (List.mem_cons_self ..)
    have ih := joinL_len21 c (ps := q :: r) fun z hz => h z (List.mem_cons_of_mem _ hz)
    show (p ++ c :: joinL c (q :: r)).length ≤ (q :: r).length.succ * (B + 1)
    rw [List.length_append, List.length_cons, Nat.succ_mul]
    omega
theorem join_len21 {c : Nat} {ps : List Str} {B : Nat} (h : ∀ p ∈ ps, p.length ≤ B) : (Txt.join ⟨#[c]⟩ ps).length ≤ ps.length * (B + 1) := by
  rw [strlen, join_one]
  have := joinL_len21 c (ps := ps.map fun z => z.cps.toList) (B := B) fun p hp => by
    obtain ⟨z, hz, rfl⟩ := List.mem_map.mp hp
    rw [← strlen]; exact h z hz
  rwa [List.length_map] at this
theorem join_ok21 {B n : Nat} (a : Str) {ys : List Str} (h : ∀ z ∈ ys, z.length ≤ B) (l : ys.length ≤ n) (k : n * (B + a.length) ≤ 16777216) : (ys.map (·.length)).sum + ys.length * a.length ≤ 16777216 := by
  have e : ∀ xs : List Str, (∀ z ∈ xs, z.length ≤ B) → (xs.map (·.length)).sum ≤ xs.length * B := by
    intro xs
    induction xs with
    | nil => intro _; exact Nat.zero_le _
    | cons x r ih =>
      intro g
      have := ih fun z hz => g z (List.mem_cons_of_mem _ hz)
      have := g x (List.mem_cons_self ..)
      rw [List.map_cons, List.sum_cons, List.length_cons, Nat.succ_mul]
      omega
  have h1 := e ys h
  have h2 := Nat.mul_le_mul_right (B + a.length) l
  rw [Nat.mul_add] at h2
  omega
theorem sp32 : (" " : Str) = ⟨#[32]⟩ := str_inj (by decide +kernel)
theorem nl10 : ("\n" : Str) = ⟨#[10]⟩ := str_inj (by decide +kernel)
theorem RwOk.nosp {u : List Str} {m : Mid} (h : RwOk u m) : u ≠ [] ∧ ∀ z ∈ u, NoSp z := by
  cases m with
  | inl p =>
    obtain ⟨ys, rfl, nz, an⟩ := h
    refine ⟨(fun z => nomatch z), fun z hz => ?_⟩
    simp only [List.mem_cons] at hz
    rcases hz with rfl | rfl | rfl | hz
    · exact sp_lit _ (by simp)
    · exact name_nosp nz.1
    · exact sp_lit _ (by simp)
    · obtain ⟨j, ej⟩ := List.getElem?_of_mem hz
      obtain ⟨i, _, g⟩ := an.getL ej
      exact num_nosp g
  | inr p =>
    obtain ⟨v, rfl, nz, rd⟩ := h
    refine ⟨(fun z => nomatch z), fun z hz => ?_⟩
    simp only [List.mem_cons] at hz
    rcases hz with rfl | rfl | hz
    · exact name_nosp nz.1
    · exact sp_lit _ (by simp)
    · exact rd.nosp z hz
abbrev rowsT (ins outs : List Str) (mid : List (List Str)) : List (List Str) := (("in" : Str) :: ins) :: (mid ++ [("out" : Str) :: outs])
theorem All2.mapL {α β γ : Type} {R : γ → β → Prop} (g : α → γ) : ∀ {as : List α} {bs : List β}, All2 (fun a b => R (g a) b) as bs → All2 R (as.map g) bs
  | _, _, .nil => .nil
  | _, _, .cons h t => .cons h (All2.mapL g t)
theorem all2_self {α β : Type} {R : β → α → Prop} (g : α → β) : ∀ {l : List α}, (∀ x ∈ l, R (g x) x) → All2 R (l.map g) l
  | [], _ => .nil
  | x :: r, h => .cons (h x (List.mem_cons_self ..)) (all2_self g fun y hy => h y (List.mem_cons_of_mem _ hy))
theorem TxOk.of {ins outs : List Str} {mid : List (List Str)} {ms : List Mid} (mi : All2 RwOk mid ms) (mw : ∀ u ∈ mid, u.length ≤ 40 ∧ WOk u) (hi : ∀ z ∈ ins, namW z) (ho : ∀ z ∈ outs, namW z) (li : ins.length ≤ 39) (lo : outs.length ≤ 39) (lm : mid.length ≤ 100) :
    TxOk (Txt.join ⟨#[10]⟩ ((rowsT ins outs mid).map (Txt.join ⟨#[32]⟩))) ((rowsT ins outs mid).map (Txt.join ⟨#[32]⟩)) ins outs mid ms := by
  have rw' : ∀ u ∈ rowsT ins outs mid, (u ≠ [] ∧ ∀ z ∈ u, NoSp z) ∧ u.length ≤ 40 ∧ ∀ z ∈ u, z.length ≤ 100 := fun u hu => by
    simp only [rowsT, List.mem_cons, List.mem_append, List.not_mem_nil, or_false] at hu
    rcases hu with rfl | hu | rfl
    · refine ⟨⟨(fun z => nomatch z), fun z hz => ?_⟩, by rw [List.length_cons]; omega, fun z hz => ?_⟩
      · rcases List.mem_cons.mp hz with rfl | hz
        · exact sp_lit _ (by simp)
        · exact name_nosp (hi z hz).1
      · rcases List.mem_cons.mp hz with rfl | hz
        · decide
        · exact (hi z hz).2
    · obtain ⟨j, ej⟩ := List.getElem?_of_mem hu
      obtain ⟨m, _, g⟩ := mi.getL ej
      exact ⟨g.nosp, mw u hu⟩
    · refine ⟨⟨(fun z => nomatch z), fun z hz => ?_⟩, by rw [List.length_cons]; omega, fun z hz => ?_⟩
      · rcases List.mem_cons.mp hz with rfl | hz
        · exact sp_lit _ (by simp)
        · exact name_nosp (ho z hz).1
      · rcases List.mem_cons.mp hz with rfl | hz
        · decide
        · exact (ho z hz).2
  obtain ⟨s1, s2⟩ := rows_split (rws := rowsT ins outs mid) (fun z => nomatch z) (fun u hu => (rw' u hu).1.1) fun u hu => (rw' u hu).1.2
  have rl : ∀ u ∈ rowsT ins outs mid, (Txt.join ⟨#[32]⟩ u).length ≤ 4040 := fun u hu => by
    obtain ⟨_, h1, h2⟩ := rw' u hu
    have := join_len21 (c := 32) h2
    omega
  have lr : (rowsT ins outs mid).length ≤ 102 := by
    simp only [rowsT, List.length_cons, List.length_append, List.length_nil]
    omega
  refine ⟨?_, by rw [nl10]; exact s1, all2_self _ fun u hu => ⟨by rw [sp32]; exact s2 u hu, by have := rl u hu; omega⟩, mi, mw, hi, ho, li, lo, lm⟩
  have := join_len21 (c := 10) (ps := (rowsT ins outs mid).map (Txt.join ⟨#[32]⟩)) (B := 4040) fun p hp => by
    obtain ⟨u, hu, rfl⟩ := List.mem_map.mp hp
    exact rl u hu
  rw [List.length_map] at this
  have := Nat.mul_le_mul_right 4041 lr
  omega
abbrev txI (i : Int) : Str := ((toString i : String) : Str)
abbrev waW (p : Str × List Int) : List Str := ("was" : Str) :: p.1 :: (":" : Str) :: p.2.map txI
theorem small_nat {i : Int} (h : Small i) : i.natAbs ≤ 1000000 := by unfold Small at h; omega
theorem GFm.names {most : Nat} {F : Fm} (g : GFm most F) : (∀ z ∈ F.own, namW z) ∧ (∀ z ∈ F.ins, namW z) ∧ (∀ z ∈ F.outs, namW z) ∧ (∀ p ∈ F.was, namW p.1) ∧ ∀ p ∈ F.rules, namW p.1 := by
  have ow : ∀ z ∈ F.own, namW z := fun z hz => wd_name (g.wd z hz).1 (g.wd z hz).2
  exact ⟨ow, fun z hz => ow z (List.mem_append.mpr (.inl hz)), fun z hz => ow z (g.oo z hz), fun p hp => ow _ (g.ko _ (List.mem_map.mpr ⟨p, hp, rfl⟩)), fun p hp => ow _ (List.mem_append.mpr (.inr (List.mem_map.mpr ⟨p, hp, rfl⟩)))⟩
theorem was_rows {most : Nat} {F : Fm} (g : GFm most F) : All2 RwOk (F.was.map waW) (F.was.map Sum.inl) ∧ ∀ u ∈ F.was.map waW, u.length ≤ 40 ∧ WOk u := by
  obtain ⟨_, _, _, nw, _⟩ := g.names
  have ns : ∀ p ∈ F.was, All2 numW (p.2.map txI) p.2 := fun p hp => all2_self txI fun x hx => numW_str (small_nat ((g.th p hp).2 x hx))
  constructor
  · have : All2 (fun a b => RwOk (waW a) b) F.was (F.was.map Sum.inl) := by
      have h : ∀ l : List (Str × List Int), (∀ p ∈ l, p ∈ F.was) → All2 (fun a b => RwOk (waW a) b) l (l.map Sum.inl) := by
        intro l
        induction l with
        | nil => intro _; exact .nil
        | cons p r ih => intro h; exact .cons ⟨_, rfl, nw p (h p (List.mem_cons_self ..)), ns p (h p (List.mem_cons_self ..))⟩ (ih fun q hq => h q (List.mem_cons_of_mem _ hq))
      exact h F.was fun _ h => h
    exact All2.mapL waW this
  · intro u hu
    obtain ⟨p, hp, rfl⟩ := List.mem_map.mp hu
    have l7 := (g.th p hp).1
    refine ⟨by simp only [List.length_cons, List.length_map]; omega, fun z hz => ?_⟩
    simp only [List.mem_cons] at hz
    rcases hz with rfl | rfl | rfl | hz
    · decide
    · exact (nw p hp).2
    · decide
    · obtain ⟨j, ej⟩ := List.getElem?_of_mem hz
      obtain ⟨i, _, y⟩ := (ns p hp).getL ej
      exact y.2
theorem wa_was (l : List (Str × List Int)) : (l.map (Sum.inl : _ → Mid)).filterMap Mid.wa = l ∧ (l.map (Sum.inl : _ → Mid)).filterMap Mid.rl = [] := by
  induction l with
  | nil => exact ⟨rfl, rfl⟩
  | cons p r ih => exact ⟨by rw [List.map_cons, List.filterMap_cons]; show p :: _ = _; rw [ih.1], by rw [List.map_cons, List.filterMap_cons]; exact ih.2⟩
/-- formulas with the rules that are kept, in the place of the drawn ones -/
theorem GFm.keptG {most : Nat} {F : Fm} (g : GFm most F) {ks : List (Str × Tr)} (h : All2 (fun p q => p.1 = q.1 ∧ (p.2 = q.2 ∨ ∃ n : Nat, n ≤ 100 ∧ p.2 = .no ((n : Nat) : Int))) ks F.rules) : GFm most ⟨F.ins, F.was, ks, F.outs⟩ := by
  have en : ks.map (·.1) = F.rules.map (·.1) := by
    generalize F.rules = R at h
    induction h with
    | nil => rfl
    | cons r _ ih => rw [List.map_cons, List.map_cons, ih, r.1]
  have eo : (Fm.mk F.ins F.was ks F.outs).own = F.own := by show F.ins ++ ks.map (·.1) = _; rw [en]; rfl
  have at_ : ∀ p ∈ ks, ∃ q ∈ F.rules, p.1 = q.1 ∧ (p.2 = q.2 ∨ ∃ n : Nat, n ≤ 100 ∧ p.2 = .no ((n : Nat) : Int)) := fun p hp => by
    obtain ⟨j, ej⟩ := List.getElem?_of_mem hp
    obtain ⟨q, eq, r⟩ := h.getL ej
    exact ⟨q, List.mem_of_getElem? eq, r⟩
  refine ⟨g.li, by rw [show ks.length = F.rules.length from h.length]; exact g.lr, g.lw, g.lo, by rw [eo]; exact g.nd, by rw [eo]; exact g.wd, g.kn, by rw [eo]; exact g.ko, g.th, by rw [eo]; exact g.oo, fun p hp => ?_, ?_⟩
  · rw [eo]
    obtain ⟨q, hq, _, e | ⟨n, hn, e⟩⟩ := at_ p hp
    · rw [e]; exact g.tr q hq
    · rw [e]
      refine ⟨by show 1 ≤ 10; decide, ?_, fun q hq => nomatch hq⟩
      show Small ((n : Nat) : Int)
      unfold Small
      omega
  · obtain ⟨rk, hr⟩ := g.rk
    refine ⟨rk, fun p hp x hx ex => ?_⟩
    obtain ⟨q, hq, en, e | ⟨n, hn, e⟩⟩ := at_ p hp
    · rw [e] at hx
      rw [en]
      exact hr q hq x hx ex
    · rw [e] at hx
      cases hx
theorem ins_wa {ms : List Mid} {k : Nat} {p : Str × Tr} : (ms.take k ++ [Sum.inr p] ++ ms.drop k).filterMap Mid.wa = ms.filterMap Mid.wa := by
  rw [List.filterMap_append, List.filterMap_append]
  show ((ms.take k).filterMap Mid.wa ++ []) ++ (ms.drop k).filterMap Mid.wa = _
  rw [List.append_nil, ← List.filterMap_append, List.take_append_drop]
theorem ins_rl {ms : List Mid} {i k : Nat} {p : Str × Tr} (h : (ms.drop i).filterMap Mid.rl = []) (ik : i ≤ k) (km : k ≤ ms.length) : (ms.take k ++ [Sum.inr p] ++ ms.drop k).filterMap Mid.rl = ms.filterMap Mid.rl ++ [p] ∧ ((ms.take k ++ [Sum.inr p] ++ ms.drop k).drop (k + 1)).filterMap Mid.rl = [] := by
  have e : (ms.drop k).filterMap Mid.rl = [] := by
    have : ms.drop k = (ms.drop i).drop (k - i) := by rw [List.drop_drop]; congr 1; omega
    rw [this]
    rw [List.filterMap_eq_nil_iff] at h ⊢
    exact fun a ha => h a (List.mem_of_mem_drop ha)
  have t : (ms.take k).filterMap Mid.rl = ms.filterMap Mid.rl := by
    have : ms.filterMap Mid.rl = (ms.take k).filterMap Mid.rl ++ (ms.drop k).filterMap Mid.rl := by rw [← List.filterMap_append, List.take_append_drop]
    rw [this, e, List.append_nil]
  constructor
  · rw [List.filterMap_append, List.filterMap_append, t, e]
    show _ ++ [p] ++ [] = _
    rw [List.append_nil]
  · rw [List.drop_left' (by rw [List.length_append, List.length_take]; show min k ms.length + 1 = k + 1; omega)]
    exact e
theorem pe_joinK {X : Cx} {o e : Expr} {apos pos : Pos} {to te : TE} (K : PySem.W.Frag) (h : X.K = K) (po : PE X o to) (p : PE X e te) (hs : starEach [e] X.env = [(false, eval e X.env)] := by rfl) (hbase : attributeBase o "join" X.env (eval o X.env) = eval o X.env := by rfl) (hline : (apos.endLine == pos.line) = true := by rfl) : PE X (.Call (.Attribute o "join" apos) [e] [] pos) (tM1 (fun x xs H Q => ∃ a p, ∃ ys : List Str, x = .str a ∧ xs = [.ref p] ∧ (SqL K H p (ys.map V.str) ∨ SqT K H p (ys.map V.str)) ∧ (ys.map (·.length)).sum + ys.length * a.length ≤ 16777216 ∧ Q (.str (Txt.join a ys)) H) to te) := by
  subst h; exact pe_join po p hs hbase hline
section
variable {P : Program} {w : World} {K : PySem.W.Frag} {mg : Str → Option Value} {base : Heap}
theorem LsAt.keepS {D : Addr} {H H' : Hp} {v : V} {ws : List Str} (h : LsAt D H v ws) (s : Same H H') : LsAt D H' v ws := by
  obtain ⟨L, rfl, n, e⟩ := h
  exact ⟨L, rfl, n, s _ _ e⟩
theorem LsAt.keepB {D f c : Addr} {H H' : Hp} {v : V} {ws : List Str} (h : LsAt D H v ws) (F : Flow H f c) (b : But f H H') : LsAt D H' v ws := by
  obtain ⟨L, rfl, n, e⟩ := h
  exact ⟨L, rfl, n, b _ _ e (F.neS e)⟩
theorem LsAt.keepD {D : Addr} {H : Hp} {o : HO} {v : V} {ws : List Str} (h : LsAt D H v ws) : LsAt D (upd H D o) v ws := by
  obtain ⟨L, rfl, n, e⟩ := h
  exact ⟨L, rfl, n, by rw [upd_ne n]; exact e⟩
/-- a list of words, other than two of them -/
def Ls2 (D kl : Addr) (H : Hp) (v : V) (ws : List Str) : Prop := ∃ L : Addr, v = .ref L ∧ L ≠ D ∧ L ≠ kl ∧ H L = some (.lst (ws.map V.str))
theorem Ls2.keepS {D kl : Addr} {H H' : Hp} {v : V} {ws : List Str} (h : Ls2 D kl H v ws) (s : Same H H') : Ls2 D kl H' v ws := by
  obtain ⟨L, rfl, n, m, e⟩ := h
  exact ⟨L, rfl, n, m, s _ _ e⟩
theorem Ls2.keepB {D kl f c : Addr} {H H' : Hp} {v : V} {ws : List Str} (h : Ls2 D kl H v ws) (F : Flow H f c) (b : But f H H') : Ls2 D kl H' v ws := by
  obtain ⟨L, rfl, n, m, e⟩ := h
  exact ⟨L, rfl, n, m, b _ _ e (F.neS e)⟩
theorem Ls2.keepD {D kl : Addr} {H : Hp} {o : HO} {v : V} {ws : List Str} (h : Ls2 D kl H v ws) : Ls2 D kl (upd H D o) v ws := by
  obtain ⟨L, rfl, n, m, e⟩ := h
  exact ⟨L, rfl, n, m, by rw [upd_ne n]; exact e⟩
theorem Ls2.keepK {D kl : Addr} {H : Hp} {o : HO} {v : V} {ws : List Str} (h : Ls2 D kl H v ws) : Ls2 D kl (upd H kl o) v ws := by
  obtain ⟨L, rfl, n, m, e⟩ := h
  exact ⟨L, rfl, n, m, by rw [upd_ne m]; exact e⟩
def sp_law_text (K : PySem.W.Frag) : Sp := fun vs H Q _ => ∃ (f c r : Addr) (F : Fm) (most : Nat), vs = [.ref f, .ref r] ∧ FmAt H r F ∧ GFm most F ∧ most ≤ 5 ∧ Flow H f c ∧
  ∀ (p x : Addr) (a : Str) (G : Fm) (rs : List Str) (mid : List (List Str)) (ms : List Mid) (H' : Hp), H' p = some (.tup [.str a, .ref x]) → FmAt H' x G → GFm most G → TxOk a rs G.ins G.outs mid ms → ms.filterMap Mid.wa = G.was → ms.filterMap Mid.rl = G.rules → Flow H' f c → But f H H' → Q (.ref p) H'
set_option maxHeartbeats 0 in
theorem ok_law_text {f : Addr} {fd : FuncData} (F : Fun K "_law_text" "_law_text" s_law_text f fd) {C : Addr} (T : Top w K mg C) : FnOk P w K mg base CX0 27 f fd ["_law_flow_here", "_law_formulas_here"] (sp_law_text K) := by
  obtain ⟨f_law_written, fd_law_written, F_law_written, b_law_written, m_law_written⟩ := T.d_law_written
  have G_law_written := ok_law_written (P := P) (w := w) (base := base) F_law_written T
  obtain ⟨f_law_pick, fd_law_pick, F_law_pick, b_law_pick, m_law_pick⟩ := T.d_law_pick
  have G_law_pick := ok_law_pick (P := P) (w := w) (base := base) F_law_pick T
  refine F.ok sc_law_text (fun vs H Q E h => ?_) (fun cdv A outer s H vs Q E hr h => ?_)
  · obtain ⟨f, c, r, F, most, rfl, _⟩ := h
    rfl
  obtain ⟨f, c, r, F, most, rfl, hF, g, m5, F0, q⟩ := h
  obtain ⟨a1, a2, a3, a4, wv, rv, e0, e1, e2, alw, e4, alr, e6⟩ := id hF
  have lwv := alw.length
  have lrv := alr.length
  have glw := g.lw
  have glr := g.lr
  have gli := g.li
  have glo := g.lo
  obtain ⟨nown, nins, nouts, nwas, nrules⟩ := g.names
  obtain ⟨wr, wl⟩ := was_rows g
  refine ⟨_, (pss_cons (ps_asg (pv 1) (pg_tupK K rfl rfl (pgs_cons (pg_name (i := 2) sc_law_text.nd rfl (Or.inl rfl)) (pgs_cons (pg_name (i := 3) sc_law_text.nd rfl (Or.inl rfl)) (pgs_cons (pg_name (i := 4) sc_law_text.nd rfl (Or.inl rfl)) (pgs_cons (pg_name (i := 5) sc_law_text.nd rfl (Or.inl rfl)) pgs_nil))))))
      (pss_cons (ps_setLc (i := 6) (own := [("_law_name", 8), ("_law_things", 9)]) (g := gTup K 2 (gCons (gName 8) (gCons (gName 9) gNil))) (tt := tYes) (by rfl) sc_law_text.nd rfl rfl (sw_true rfl rfl rfl (by decide +kernel)) (pi_tupK K rfl (pv 3)) (blkOk_by (own := [("_law_name", 8), ("_law_things", 9)]) (N := N_law_text) (sc := defScope s_law_text) (by decide +kernel)) (fun _ _ _ _ _ => (pg_tupK K rfl rfl (pgs_cons (pg_name (i := 8) sc_law_text.nd rfl (Or.inl rfl)) (pgs_cons (pg_name (i := 9) sc_law_text.nd rfl (Or.inl rfl)) pgs_nil)))) (fun _ _ _ _ _ => pts_nil) (fun _ _ _ _ _ => (pe_op op_cat (pe_lst (pa_cons pe_str (pa_cons (pv 8) (pa_cons pe_str pa_nil)))) (pe_lc (own := [("_law_thing_here", 7)]) (g := gName 7) (tt := tYes) (by rfl) sc_law_text.nd (pi_tupK K rfl (pv 9)) (blkOk_by (own := [("_law_thing_here", 7)]) (N := N_law_text) (sc := { kind := .function, names := [(".0", .local), ("_law_name", .local), ("_law_things", .local)], isGenerator := false, isCoroutine := false }) (by decide +kernel)) (fun _ _ _ _ _ => (pg_name (i := 7) sc_law_text.nd rfl (Or.inl rfl))) (fun _ _ _ _ _ => pts_nil) (fun _ _ _ _ _ => (pe_callTy call_str_int (by rfl) T.m_str (by decide +kernel) (pa_cons (pv 7) pa_nil)))))))
      (pss_cons (ps_set (i := 10) sc_law_text.nd rfl (Or.inl rfl) (pe_lst pa_nil))
      (pss_cons (ps_set (i := 11) sc_law_text.nd rfl (Or.inl rfl) pe_int)
      (pss_cons (ps_for PassesOwn.never rfl (pi_tupK K rfl (pv 4)) (pg_tupK K rfl rfl (pgs_cons (pg_name (i := 8) sc_law_text.nd rfl (Or.inl rfl)) (pgs_cons (pg_name (i := 12) sc_law_text.nd rfl (Or.inl rfl)) pgs_nil)))
        (pss_cons (ps_set (i := 13) sc_law_text.nd rfl (Or.inl rfl) (pe_op op_cat (pe_lst (pa_cons (pv 8) (pa_cons pe_str pa_nil))) (pe_call G_law_written (hr.mono (by decide)) (by rfl) m_law_written F_law_written.kp b_law_written .nil pass0 (pa_cons (pv 0) (pa_cons (pv 12) (pa_cons pe_int pa_nil))))))
      (pss_cons (ps_if (pt_cmpR op_gt (pe_callB (call_len_seqK K rfl) (by rfl) T.m_len (by decide +kernel) (pa_cons (pv 13) pa_nil)) pe_int (nomark _)) (pss_cons (ps_set (i := 12) sc_law_text.nd rfl (Or.inl rfl) (pe_tup (pa_cons pe_str (pa_cons (pe_callB (call_len_seqK K rfl) (by rfl) T.m_len (by decide +kernel) (pa_cons (pv 13) pa_nil)) pa_nil))))
      (pss_one (ps_set (i := 13) sc_law_text.nd rfl (Or.inl rfl) (pe_lst (pa_cons (pv 8) (pa_cons pe_str (pa_cons (pe_callTy call_str_int (by rfl) T.m_str (by decide +kernel) (pa_cons (pe_callB (call_len_seqK K rfl) (by rfl) T.m_len (by decide +kernel) (pa_cons (pv 13) pa_nil)) pa_nil)) pa_nil))))))) pss_nil)
      (pss_cons (ps_expr (pe_bmK K rfl PySem.F.plainAttrs_list PySem.F.slot_list_append PySem.F.type_list_append mt_append (pv 10) (pa_cons (pe_tup (pa_cons (pv 8) (pa_cons (pv 12) pa_nil))) pa_nil)))
      (pss_cons (ps_set (i := 11) sc_law_text.nd rfl (Or.inl rfl) (pe_op op_add (pv 11) (pe_call G_law_pick (hr.mono (by decide)) (by rfl) m_law_pick F_law_pick.kp b_law_pick .nil pass0 (pa_cons (pv 0) (pa_cons (pe_op op_sub (pe_op op_add (pe_callB (call_len_seqK K rfl) (by rfl) T.m_len (by decide +kernel) (pa_cons (pv 6) pa_nil)) pe_int) (pv 11)) pa_nil)))))
      (pss_cons (ps_expr (pe_bmK K rfl PySem.F.plainAttrs_list PySem.F.slot_list_insert PySem.F.type_list_insert mt_insert (pv 6) (pa_cons (pv 11) (pa_cons (pv 13) pa_nil))))
      (pss_one (ps_set (i := 11) sc_law_text.nd rfl (Or.inl rfl) (pe_op op_add (pv 11) pe_int)))))))))
      (pss_cons (ps_set (i := 6) sc_law_text.nd rfl (Or.inl rfl) (pe_op op_cat (pe_op op_cat (pe_lst (pa_cons (pe_op op_cat (pe_lst (pa_cons pe_str pa_nil)) (pe_callTy (call_list_ofK K rfl) (by rfl) T.m_list (by decide +kernel) (pa_cons (pv 2) pa_nil))) pa_nil)) (pv 6)) (pe_lst (pa_cons (pe_op op_cat (pe_lst (pa_cons pe_str pa_nil)) (pe_callTy (call_list_ofK K rfl) (by rfl) T.m_list (by decide +kernel) (pa_cons (pv 5) pa_nil))) pa_nil))))
      (pss_one (ps_ret (pe_tup (pa_cons (pe_join pe_str (pe_lc (own := [("_law_words", 13)]) (g := gName 13) (tt := tYes) (by rfl) sc_law_text.nd (pi_listK K rfl (pv 6)) (blkOk_by (own := [("_law_words", 13)]) (N := N_law_text) (sc := defScope s_law_text) (by decide +kernel)) (fun _ _ _ _ _ => (pg_name (i := 13) sc_law_text.nd rfl (Or.inl rfl))) (fun _ _ _ _ _ => pts_nil) (fun _ _ _ _ _ => (pe_joinK K rfl pe_str (pv 13))))) (pa_cons (pe_tup (pa_cons (pv 2) (pa_cons (pv 3) (pa_cons (pe_callTy (call_tuple_ofK K rfl) (by rfl) T.m_tuple (by decide +kernel) (pa_cons (pv 10) pa_nil)) (pa_cons (pv 5) pa_nil))))) pa_nil))))))))))), ?_⟩
  refine ⟨_, rfl, r, _, rfl, SqT.of e0, rfl, _, _, rfl, _, _, rfl, _, _, rfl, _, _, rfl, rfl, ?_⟩
  refine ⟨_, rfl, a2, rfl, ⟨_, SqT.of e2⟩, fun D nD => ?_⟩
  have Df : D ≠ f := F0.ne nD
  have Dc : D ≠ c := F0.nec nD
  refine lc_tup (K := K) (a := a2) (xs := wv) (fun i H5 => ∃ lv, H5 D = some (.lst lv) ∧ All2 (LsAt D H5) lv ((F.was.map waW).take i) ∧ Same H H5) ⟨[], upd_same, by rw [List.take_zero]; exact .nil, same_new nD⟩ (fun i H5 _ ⟨_, _, _, s5⟩ => SqT.of (s5 _ _ e2)) ?_ ?_
  · rintro i x H5 hx ⟨lv, hD, al, s5⟩
    obtain ⟨p, ep, t, b, rfl, et, eb⟩ := alw.getL hx
    have il := (List.getElem?_eq_some_iff.mp ep).1
    have hp := List.mem_of_getElem? ep
    have l7 := (g.th p hp).1
    have lal := al.length
    rw [List.length_take] at lal
    refine ⟨t, _, rfl, SqT.of (s5 _ _ et), rfl, _, _, rfl, _, _, rfl, rfl, ?_⟩
    refine ⟨rfl, yes_in ⟨_, rfl, (by show 3 ≤ sizeLine; decide), fun p1 np1 => ?_⟩⟩
    have s6 := s5.trans (same_new (o := .lst [V.str "was", V.str p.1, V.str ":"]) np1)
    have hp1 : (upd H5 p1 (.lst [V.str "was", V.str p.1, V.str ":"])) p1 = some (.lst (([("was" : Str), p.1, ":"] : List Str).map V.str)) := upd_same
    have hD6 : (upd H5 p1 (.lst [V.str "was", V.str p.1, V.str ":"])) D = some (.lst lv) := same_new np1 _ _ hD
    have s56 : Same H5 (upd H5 p1 (.lst [V.str "was", V.str p.1, V.str ":"])) := same_new np1
    generalize upd H5 p1 (.lst [V.str "was", V.str p.1, V.str ":"]) = H6 at s6 hp1 hD6 s56 ⊢
    refine ⟨_, rfl, b, rfl, ⟨_, SqT.of (s6 _ _ eb)⟩, fun E nE => ?_⟩
    refine lc_tup (K := K) (a := b) (xs := p.2.map V.int) (fun j H7 => H7 E = some (.lst (((p.2.map txI).take j).map V.str)) ∧ Same H6 H7) ⟨upd_same, same_new nE⟩ (fun j H7 _ ⟨_, s7⟩ => SqT.of (s7 _ _ (s6 _ _ eb))) ?_ ?_
    · rintro j y H7 hy ⟨hE, s7⟩
      rw [List.getElem?_map] at hy
      cases en : p.2[j]? with
      | none => rw [en] at hy; cases hy
      | some n =>
      rw [en] at hy
      obtain rfl : V.int n = y := Option.some.inj hy
      have jl := (List.getElem?_eq_some_iff.mp en).1
      have ns := (g.th p hp).2 n (List.mem_of_getElem? en)
      refine ⟨rfl, yes_in ⟨_, rfl, _, rfl, log_str (small_nat ns), _, hE, by rw [List.length_map, List.length_take]; exact small1000 (by omega), ?_, Same.own s7 nE⟩⟩
      rw [upd_same, List.take_add_one, List.getElem?_map, en, List.map_append]; rfl
    rintro H7 ⟨hE, s7⟩
    rw [List.take_of_length_le (by rw [List.length_map, List.length_map]; exact Nat.le_refl _)] at hE
    refine cat_strs (s7 _ _ hp1) hE (by rw [List.length_map]; show 3 + _ ≤ 1000; omega) fun p2 H8 np2 hp2 s8 => ?_
    have s58 := s56.trans (s7.trans s8)
    have p2D : p2 ≠ D := fun z => by rw [z, (s7 _ _ hD6)] at np2; cases np2
    refine ⟨lv, s58 _ _ hD, small1000 (by omega), lv ++ [.ref p2], upd_same, ?_, Same.own (s5.trans s58) nD⟩
    rw [List.take_add_one, List.getElem?_map, ep]
    refine (al.imp fun x y z => (z.keepS s58).keepD).snoc ⟨p2, rfl, p2D, by rw [upd_ne p2D]; exact hp2⟩
  rintro H1 ⟨lv, hD, al, s1⟩
  rw [List.take_of_length_le (by rw [List.length_map]; omega)] at al
  have llv := al.length
  rw [List.length_map] at llv
  have F1 := F0.same s1
  have B1 : But f H H1 := But.of s1
  refine ⟨(by show 0 ≤ sizeLine; decide), fun kl nkl => ?_⟩
  have s2 : Same H1 (upd H1 kl (.lst [])) := same_new nkl
  have hkl : (upd H1 kl (.lst [])) kl = some (.lst []) := upd_same
  have klD : kl ≠ D := fun z => by rw [z, hD] at nkl; cases nkl
  have klf : kl ≠ f := F1.ne nkl
  have klc0 : kl ≠ c := F1.nec nkl
  have al1 : All2 (Ls2 D kl H1) lv (F.was.map waW) := al.imp fun _ _ z => by
    obtain ⟨L, rfl, n, e⟩ := z
    exact ⟨L, rfl, n, (fun q => by rw [q, nkl] at e; cases e), e⟩
  generalize upd H1 kl (.lst []) = H2 at s2 hkl ⊢
  have F2 := F1.same s2
  have B2 := B1.same s2
  have nkl0 : H kl = none := same_none s1 nkl
  have k02 : TK H H2 := TK.same (s1.trans s2)
  let INV : Nat → L2.St → Hp → Prop := fun i σ H5 => ∃ (v8 v12 v13 : Option V) (place : Nat) (lv kv : List V) (mid : List (List Str)) (ms : List Mid) (ks : List (Str × Tr)), σ = [some (.ref f), some (.ref r), some (.ref a1), some (.ref a2), some (.ref a3), some (.ref a4), some (.ref D), none, v8, none, some (.ref kl), some (nV place), v12, v13] ∧
    H5 D = some (.lst lv) ∧ All2 (Ls2 D kl H5) lv mid ∧ All2 RwOk mid ms ∧ (∀ u ∈ mid, u.length ≤ 40 ∧ WOk u) ∧ ms.filterMap Mid.wa = F.was ∧ ms.filterMap Mid.rl = ks ∧ (ms.drop place).filterMap Mid.rl = [] ∧ place ≤ mid.length ∧ mid.length = F.was.length + i ∧
    H5 kl = some (.lst kv) ∧ All2 (RlAt H5) kv ks ∧ All2 (fun p q => p.1 = q.1 ∧ (p.2 = q.2 ∨ ∃ n : Nat, n ≤ 100 ∧ p.2 = .no ((n : Nat) : Int))) ks (F.rules.take i) ∧ Flow H5 f c ∧ But f H H5
  refine ⟨_, rfl, a3, rfl, ⟨_, SqT.of (k02 _ _ e4)⟩, for_tup (K := K) (a := a3) (xs := rv) INV ⟨none, none, none, 0, lv, [], F.was.map waW, F.was.map Sum.inl, [], rfl, s2 _ _ hD, al1.imp fun _ _ z => z.keepS s2, wr, wl, (wa_was F.was).1, (wa_was F.was).2, by rw [List.drop_zero]; exact (wa_was F.was).2, Nat.zero_le _, by rw [List.length_map]; rfl, hkl, .nil, by rw [List.take_zero]; exact .nil, F2, B2⟩ (fun i σ H5 _ ⟨_, _, _, _, _, _, _, _, _, _, _, _, _, _, _, _, _, _, _, _, _, _, F5, B5⟩ => SqT.of (TK.but F0 B5 _ _ e4)) ?_ ?_⟩
  · rintro i x σ H5 hx ⟨v8, v12, v13, place, lv, kv, mid, ms, ks, rfl, hD, al, mi, mw, ewa, erl, edr, pm, lmid, hkl, akl, aks, F5, B5⟩
    obtain ⟨p, ep, t, xv, rfl, et, ht⟩ := alr.getL hx
    have il := (List.getElem?_eq_some_iff.mp ep).1
    have hp := List.mem_of_getElem? ep
    obtain ⟨tp, tsm, tln⟩ := g.tr p hp
    have okt := OkT.of tsm g.wd tln
    have tdp := p.2.dep_parts
    have nmp := nrules p hp
    have lal := al.length
    have lkv := akl.length
    have lks := aks.length
    rw [List.length_take] at lks
    have lmi := mi.length
    have k5 := TK.but F0 B5
    refine ⟨t, _, rfl, SqT.of (k5 _ _ et), rfl, _, _, rfl, _, _, rfl, rfl, ?_⟩
    refine ⟨_, rfl, (by show 2 ≤ sizeLine; decide), fun p1 np1 => ?_⟩
    have s6 : Same H5 (upd H5 p1 (.lst [V.str p.1, V.str "="])) := same_new np1
    have hp1 : (upd H5 p1 (.lst [V.str p.1, V.str "="])) p1 = some (.lst (([p.1, ("=" : Str)] : List Str).map V.str)) := upd_same
    generalize upd H5 p1 (.lst [V.str p.1, V.str "="]) = H6 at s6 hp1 ⊢
    have F6 := F5.same s6
    have B6 : But f H5 H6 := But.of s6
    refine ⟨_, rfl, _, rfl, f, c, xv, p.2, 0, rfl, by decide, ht.keep (k5.trans (TK.same s6)), by omega, okt, by omega, F6, fun p2 u H7 hp2 wo F7 B7 => ?_⟩
    have hp17 := B7 _ _ hp1 (F6.neS hp1)
    have lu := wo.ln
    refine cat_strs hp17 hp2 (by show 2 + u.length ≤ 1000; omega) fun p3 H8 np3 hp3 s8 => ?_
    have hD8 := s8 _ _ (B7 _ _ (s6 _ _ hD) Df)
    refine ⟨_, rfl, p3, _, rfl, .inl (SqL.of hp3), ?_⟩
    have F8 := F7.same s8
    have B8 : But f H H8 := ((B5.trans B6).trans B7).same s8
    have k58 : TK H5 H8 := (TK.same s6).trans ((TK.but F6 B7).trans (TK.same s8))
    have hkl8 := s8 _ _ (B7 _ _ (s6 _ _ hkl) klf)
    have al8 : All2 (Ls2 D kl H8) lv mid := al.imp fun _ _ z => ((z.keepS s6).keepB F6 B7).keepS s8
    have akl8 : All2 (RlAt H8) kv ks := akl.imp fun _ _ z => z.keep k58
    have p3D : p3 ≠ D := fun z => by rw [z, B7 _ _ (s6 _ _ hD) Df] at np3; cases np3
    have p3k : p3 ≠ kl := fun z => by rw [z, B7 _ _ (s6 _ _ hkl) klf] at np3; cases np3
    obtain ⟨n, en⟩ : ∃ n : Nat, n = (([p.1, ("=" : Str)] : List Str) ++ u).length := ⟨_, rfl⟩
    have en2 : n = u.length + 2 := by rw [en]; simp only [List.length_append, List.length_cons, List.length_nil]; omega
    have lnm : ((([p.1, ("=" : Str)] : List Str) ++ u).map V.str).length = n := by rw [List.length_map, en]
    rw [lnm]
    refine ⟨_, _, rfl, rfl, _, rfl, if_bl (fun cc => ?_) (fun cc => ?_)⟩
    · refine ⟨_, rfl, p3, _, rfl, .inl (SqL.of hp3), (by show 2 ≤ sizeLine; decide), fun p4 np4 => ?_⟩
      rw [lnm]
      have u1 : Same H8 (upd H8 p4 (.tup [V.str "number", .int ((n : Nat) : Int)])) := same_new np4
      have hp4 : (upd H8 p4 (.tup [V.str "number", .int ((n : Nat) : Int)])) p4 = some (.tup [V.str "number", .int ((n : Nat) : Int)]) := upd_same
      refine ⟨_, rfl, _, rfl, p3, _, rfl, .inl (SqL.of (u1 _ _ hp3)), ?_⟩
      rw [lnm]
      have sn : Small ((n : Nat) : Int) := by unfold Small; omega
      refine ⟨_, rfl, log_str (small_nat sn), (by show 3 ≤ sizeLine; decide), fun p5 np5 => ?_⟩
      generalize upd H8 p4 (.tup [V.str "number", .int ((n : Nat) : Int)]) = H81 at u1 hp4 np5 ⊢
      have u2 : Same H81 (upd H81 p5 (.lst [V.str p.1, V.str "=", V.str (txI ((n : Nat) : Int))])) := same_new np5
      let xw : V := .ref p4
      let tw : Tr := .no ((n : Nat) : Int)
      let pw : Addr := p5
      let uw : List Str := [p.1, "=", txI ((n : Nat) : Int)]
      have s9 := u1.trans u2
      have hw : (upd H81 p5 (.lst [V.str p.1, V.str "=", V.str (txI ((n : Nat) : Int))])) pw = some (.lst (uw.map V.str)) := upd_same
      have pwD : pw ≠ D := fun z => by rw [show p5 = D from z, u1 _ _ hD8] at np5; cases np5
      have pwk : pw ≠ kl := fun z => by rw [show p5 = kl from z, u1 _ _ hkl8] at np5; cases np5
      have hT : TrAt (upd H81 p5 (.lst [V.str p.1, V.str "=", V.str (txI ((n : Nat) : Int))])) xw tw := ⟨p4, rfl, u2 _ _ hp4⟩
      have nw := numW_str (small_nat sn)
      have rok : RwOk uw (.inr (p.1, tw)) := ⟨_, rfl, nmp, (Rd.lift 3 0 (by decide) (Rd.num (h := 117) nw)).mono (by decide)⟩
      have l40 : uw.length ≤ 40 := by show 3 ≤ 40; decide
      have wk : WOk uw := fun z hz => by
        simp only [uw, List.mem_cons, List.not_mem_nil, or_false] at hz
        rcases hz with rfl | rfl | rfl
        · exact nmp.2
        · decide
        · exact nw.2
      have kq : tw = p.2 ∨ ∃ n : Nat, n ≤ 100 ∧ tw = .no ((n : Nat) : Int) := .inr ⟨n, by omega, rfl⟩
      generalize upd H81 p5 (.lst [V.str p.1, V.str "=", V.str (txI ((n : Nat) : Int))]) = H9 at s9 hw hT ⊢
      refine ⟨_, rfl, .inl ⟨rfl, _, SqL.of (s9 _ _ hkl8)⟩, _, rfl, _, rfl, (by show 2 ≤ sizeLine; decide), fun p6 np6 => ?_⟩
      have s10 : Same H9 (upd H9 p6 (.tup [.str p.1, xw])) := same_new np6
      have hp6 : (upd H9 p6 (.tup [.str p.1, xw])) p6 = some (.tup [.str p.1, xw]) := upd_same
      have hkl10 : (upd H9 p6 (.tup [.str p.1, xw])) kl = some (.lst kv) := s10 _ _ (s9 _ _ hkl8)
      have hrl : RlAt (upd H9 p6 (.tup [.str p.1, xw])) (.ref p6) (p.1, tw) := ⟨p6, xw, rfl, upd_same, hT.keep (TK.same s10)⟩
      generalize upd H9 p6 (.tup [.str p.1, xw]) = H10 at s10 hp6 hkl10 hrl ⊢
      refine ⟨kl, _, _, rfl, rfl, hkl10, small1000 (by omega), ?_⟩
      have k11 : TK H10 (upd H10 kl (.lst (kv ++ [.ref p6]))) := TK.lst hkl10
      have hkl11 : (upd H10 kl (.lst (kv ++ [.ref p6]))) kl = some (.lst (kv ++ [.ref p6])) := upd_same
      have hD11 : (upd H10 kl (.lst (kv ++ [.ref p6]))) D = some (.lst lv) := by rw [upd_ne klD.symm]; exact s10 _ _ (s9 _ _ hD8)
      have hw11 : (upd H10 kl (.lst (kv ++ [.ref p6]))) pw = some (.lst (uw.map V.str)) := by rw [upd_ne pwk]; exact s10 _ _ hw
      have klc : kl ≠ c := klc0
      have F11 : Flow (upd H10 kl (.lst (kv ++ [.ref p6]))) f c := ((F8.same s9).same s10).lst klf klc
      have al11 : All2 (Ls2 D kl (upd H10 kl (.lst (kv ++ [.ref p6])))) lv mid := al8.imp fun _ _ z => ((z.keepS s9).keepS s10).keepK
      have akl11 : All2 (RlAt (upd H10 kl (.lst (kv ++ [.ref p6])))) (kv ++ [.ref p6]) (ks ++ [(p.1, tw)]) := ((akl8.imp fun _ _ z => ((z.keep (TK.same s9)).keep (TK.same s10)).keep k11)).snoc (hrl.keep k11)
      have B11 : But f H (upd H10 kl (.lst (kv ++ [.ref p6]))) := ((B8.same s9).same s10).own nkl0
      generalize upd H10 kl (.lst (kv ++ [.ref p6])) = H11 at k11 hkl11 hD11 hw11 F11 al11 akl11 B11 ⊢
      have em : ((lv.length : Nat) : Int) + 1 - ((place : Nat) : Int) = ((lv.length + 1 - place : Nat) : Int) := by omega
      refine ⟨_, rfl, _, rfl, _, rfl, D, _, rfl, .inl (SqL.of hD11), _, _, rfl, rfl, _, rfl, _, _, rfl, rfl, f, c, ((lv.length + 1 - place : Nat) : Int), by rw [← em]; rfl, by omega, log_small (by omega), F11, fun z H12 z0 z1 F12 B12 => ⟨_, _, rfl, rfl, ?_⟩⟩
      obtain ⟨zn, rfl⟩ : ∃ zn : Nat, z = (zn : Int) := ⟨z.toNat, by omega⟩
      have hD12 := B12 _ _ hD11 Df
      have hkl12 := B12 _ _ hkl11 klf
      refine ⟨_, rfl, .inl ⟨rfl, _, SqL.of hD12⟩, _, rfl, _, rfl, D, lv, _, _, rfl, rfl, hD12, small1000 (by omega), by omega, by omega, ?_⟩
      have etn : (((place : Nat) : Int) + ((zn : Nat) : Int)).toNat = place + zn := by omega
      rw [etn]
      have al13 : All2 (Ls2 D kl (upd H12 D (.lst (lv.take (place + zn) ++ [.ref pw] ++ lv.drop (place + zn))))) (lv.take (place + zn) ++ [.ref pw] ++ lv.drop (place + zn)) (mid.take (place + zn) ++ [uw] ++ mid.drop (place + zn)) := by
        have a12 : All2 (Ls2 D kl (upd H12 D (.lst (lv.take (place + zn) ++ [.ref pw] ++ lv.drop (place + zn))))) lv mid := al11.imp fun _ _ z => (z.keepB F11 B12).keepD
        exact ((a12.take _).app (.cons ⟨pw, rfl, pwD, pwk, by rw [upd_ne pwD]; exact B12 _ _ hw11 (F11.neS hw11)⟩ .nil)).app (a12.drop _)
      have mi13 : All2 RwOk (mid.take (place + zn) ++ [uw] ++ mid.drop (place + zn)) (ms.take (place + zn) ++ [Sum.inr (p.1, tw)] ++ ms.drop (place + zn)) := ((mi.take _).app (.cons rok .nil)).app (mi.drop _)
      obtain ⟨r1, r2⟩ := ins_rl (k := place + zn) (p := (p.1, tw)) edr (by omega) (by omega)
      have lmid2 : (mid.take (place + zn) ++ [uw] ++ mid.drop (place + zn)).length = mid.length + 1 := by
        simp only [List.length_append, List.length_take, List.length_drop, List.length_cons, List.length_nil]
        omega
      have kd12 : TK H11 (upd H12 D (.lst (lv.take (place + zn) ++ [.ref pw] ++ lv.drop (place + zn)))) := (TK.but F11 B12).trans (TK.lst hD12)
      have F13 : Flow (upd H12 D (.lst (lv.take (place + zn) ++ [.ref pw] ++ lv.drop (place + zn)))) f c := F12.lst Df Dc
      refine ⟨_, rfl, _, _, rfl, rfl, _, _, _, place + zn + 1, _, _, _, _, _, rfl, upd_same, al13, mi13, fun x hx => ?_, by rw [ins_wa]; exact ewa, by rw [r1, erl], r2, by rw [lmid2]; omega, by rw [lmid2]; omega, by rw [upd_ne klD]; exact hkl12, akl11.imp fun _ _ z => z.keep kd12, ?_, F13, (B11.trans B12).own nD⟩
      · rcases List.mem_append.mp hx with hx | hx
        · rcases List.mem_append.mp hx with hx | hx
          · exact mw x (List.mem_of_mem_take hx)
          · rw [List.mem_singleton.mp hx]; exact ⟨l40, wk⟩
        · exact mw x (List.mem_of_mem_drop hx)
      · rw [List.take_add_one, ep]
        exact aks.snoc ⟨rfl, kq⟩
    · let xw : V := xv
      let tw : Tr := p.2
      let pw : Addr := p3
      let uw : List Str := ([p.1, ("=" : Str)] : List Str) ++ u
      have cc := of_decide_eq_false cc
      obtain ⟨H9, e9⟩ : ∃ H9, H9 = H8 := ⟨_, rfl⟩
      have s9 : Same H8 H9 := by rw [e9]; exact fun _ _ e => e
      have hw : H9 pw = some (.lst (uw.map V.str)) := by rw [e9]; exact hp3
      have pwD : pw ≠ D := p3D
      have pwk : pw ≠ kl := p3k
      have hT : TrAt H9 xw tw := by rw [e9]; exact ht.keep (k5.trans k58)
      have rok : RwOk uw (.inr (p.1, tw)) := ⟨_, rfl, nmp, wo.rd.mono (by decide)⟩
      have l40 : uw.length ≤ 40 := by rw [← en]; omega
      have wk : WOk uw := fun z hz => by
        simp only [uw, List.mem_append, List.mem_cons, List.not_mem_nil, or_false] at hz
        rcases hz with (rfl | rfl) | hz
        · exact nmp.2
        · decide
        · exact wo.wk z hz
      have kq : tw = p.2 ∨ ∃ n : Nat, n ≤ 100 ∧ tw = .no ((n : Nat) : Int) := .inl rfl
      rw [← e9]
      refine ⟨_, rfl, .inl ⟨rfl, _, SqL.of (s9 _ _ hkl8)⟩, _, rfl, _, rfl, (by show 2 ≤ sizeLine; decide), fun p6 np6 => ?_⟩
      have s10 : Same H9 (upd H9 p6 (.tup [.str p.1, xw])) := same_new np6
      have hp6 : (upd H9 p6 (.tup [.str p.1, xw])) p6 = some (.tup [.str p.1, xw]) := upd_same
      have hkl10 : (upd H9 p6 (.tup [.str p.1, xw])) kl = some (.lst kv) := s10 _ _ (s9 _ _ hkl8)
      have hrl : RlAt (upd H9 p6 (.tup [.str p.1, xw])) (.ref p6) (p.1, tw) := ⟨p6, xw, rfl, upd_same, hT.keep (TK.same s10)⟩
      generalize upd H9 p6 (.tup [.str p.1, xw]) = H10 at s10 hp6 hkl10 hrl ⊢
      refine ⟨kl, _, _, rfl, rfl, hkl10, small1000 (by omega), ?_⟩
      have k11 : TK H10 (upd H10 kl (.lst (kv ++ [.ref p6]))) := TK.lst hkl10
      have hkl11 : (upd H10 kl (.lst (kv ++ [.ref p6]))) kl = some (.lst (kv ++ [.ref p6])) := upd_same
      have hD11 : (upd H10 kl (.lst (kv ++ [.ref p6]))) D = some (.lst lv) := by rw [upd_ne klD.symm]; exact s10 _ _ (s9 _ _ hD8)
      have hw11 : (upd H10 kl (.lst (kv ++ [.ref p6]))) pw = some (.lst (uw.map V.str)) := by rw [upd_ne pwk]; exact s10 _ _ hw
      have klc : kl ≠ c := klc0
      have F11 : Flow (upd H10 kl (.lst (kv ++ [.ref p6]))) f c := ((F8.same s9).same s10).lst klf klc
      have al11 : All2 (Ls2 D kl (upd H10 kl (.lst (kv ++ [.ref p6])))) lv mid := al8.imp fun _ _ z => ((z.keepS s9).keepS s10).keepK
      have akl11 : All2 (RlAt (upd H10 kl (.lst (kv ++ [.ref p6])))) (kv ++ [.ref p6]) (ks ++ [(p.1, tw)]) := ((akl8.imp fun _ _ z => ((z.keep (TK.same s9)).keep (TK.same s10)).keep k11)).snoc (hrl.keep k11)
      have B11 : But f H (upd H10 kl (.lst (kv ++ [.ref p6]))) := ((B8.same s9).same s10).own nkl0
      generalize upd H10 kl (.lst (kv ++ [.ref p6])) = H11 at k11 hkl11 hD11 hw11 F11 al11 akl11 B11 ⊢
      have em : ((lv.length : Nat) : Int) + 1 - ((place : Nat) : Int) = ((lv.length + 1 - place : Nat) : Int) := by omega
      refine ⟨_, rfl, _, rfl, _, rfl, D, _, rfl, .inl (SqL.of hD11), _, _, rfl, rfl, _, rfl, _, _, rfl, rfl, f, c, ((lv.length + 1 - place : Nat) : Int), by rw [← em]; rfl, by omega, log_small (by omega), F11, fun z H12 z0 z1 F12 B12 => ⟨_, _, rfl, rfl, ?_⟩⟩
      obtain ⟨zn, rfl⟩ : ∃ zn : Nat, z = (zn : Int) := ⟨z.toNat, by omega⟩
      have hD12 := B12 _ _ hD11 Df
      have hkl12 := B12 _ _ hkl11 klf
      refine ⟨_, rfl, .inl ⟨rfl, _, SqL.of hD12⟩, _, rfl, _, rfl, D, lv, _, _, rfl, rfl, hD12, small1000 (by omega), by omega, by omega, ?_⟩
      have etn : (((place : Nat) : Int) + ((zn : Nat) : Int)).toNat = place + zn := by omega
      rw [etn]
      have al13 : All2 (Ls2 D kl (upd H12 D (.lst (lv.take (place + zn) ++ [.ref pw] ++ lv.drop (place + zn))))) (lv.take (place + zn) ++ [.ref pw] ++ lv.drop (place + zn)) (mid.take (place + zn) ++ [uw] ++ mid.drop (place + zn)) := by
        have a12 : All2 (Ls2 D kl (upd H12 D (.lst (lv.take (place + zn) ++ [.ref pw] ++ lv.drop (place + zn))))) lv mid := al11.imp fun _ _ z => (z.keepB F11 B12).keepD
        exact ((a12.take _).app (.cons ⟨pw, rfl, pwD, pwk, by rw [upd_ne pwD]; exact B12 _ _ hw11 (F11.neS hw11)⟩ .nil)).app (a12.drop _)
      have mi13 : All2 RwOk (mid.take (place + zn) ++ [uw] ++ mid.drop (place + zn)) (ms.take (place + zn) ++ [Sum.inr (p.1, tw)] ++ ms.drop (place + zn)) := ((mi.take _).app (.cons rok .nil)).app (mi.drop _)
      obtain ⟨r1, r2⟩ := ins_rl (k := place + zn) (p := (p.1, tw)) edr (by omega) (by omega)
      have lmid2 : (mid.take (place + zn) ++ [uw] ++ mid.drop (place + zn)).length = mid.length + 1 := by
        simp only [List.length_append, List.length_take, List.length_drop, List.length_cons, List.length_nil]
        omega
      have kd12 : TK H11 (upd H12 D (.lst (lv.take (place + zn) ++ [.ref pw] ++ lv.drop (place + zn)))) := (TK.but F11 B12).trans (TK.lst hD12)
      have F13 : Flow (upd H12 D (.lst (lv.take (place + zn) ++ [.ref pw] ++ lv.drop (place + zn)))) f c := F12.lst Df Dc
      refine ⟨_, rfl, _, _, rfl, rfl, _, _, _, place + zn + 1, _, _, _, _, _, rfl, upd_same, al13, mi13, fun x hx => ?_, by rw [ins_wa]; exact ewa, by rw [r1, erl], r2, by rw [lmid2]; omega, by rw [lmid2]; omega, by rw [upd_ne klD]; exact hkl12, akl11.imp fun _ _ z => z.keep kd12, ?_, F13, (B11.trans B12).own nD⟩
      · rcases List.mem_append.mp hx with hx | hx
        · rcases List.mem_append.mp hx with hx | hx
          · exact mw x (List.mem_of_mem_take hx)
          · rw [List.mem_singleton.mp hx]; exact ⟨l40, wk⟩
        · exact mw x (List.mem_of_mem_drop hx)
      · rw [List.take_add_one, ep]
        exact aks.snoc ⟨rfl, kq⟩
  rintro σ H3 ⟨v8, v12, v13, place, lv3, kv, mid, ms, ks, rfl, hD3, al3, mi, mw, ewa, erl, edr, pm, lmid, hkl3, akl, aks, F3, B3⟩
  rw [lrv, List.take_length] at aks
  have lal := al3.length
  have lkv := akl.length
  have lks := aks.length
  have k3 := TK.but F0 B3
  refine ⟨(by show 1 ≤ sizeLine; decide), fun p1 np1 => ?_⟩
  have s4 : Same H3 (upd H3 p1 (.lst [V.str "in"])) := same_new np1
  have hp1 : (upd H3 p1 (.lst [V.str "in"])) p1 = some (.lst (([("in" : Str)] : List Str).map V.str)) := upd_same
  generalize upd H3 p1 (.lst [V.str "in"]) = H4 at s4 hp1 ⊢
  refine ⟨_, rfl, a1, _, rfl, .inr (SqT.of (s4 _ _ (k3 _ _ e1))), fun l1 nl1 => ?_⟩
  have s5 : Same H4 (upd H4 l1 (.lst (F.ins.map V.str))) := same_new nl1
  have hl1 : (upd H4 l1 (.lst (F.ins.map V.str))) l1 = some (.lst (F.ins.map V.str)) := upd_same
  generalize upd H4 l1 (.lst (F.ins.map V.str)) = H5 at s5 hl1 ⊢
  refine cat_strs (s5 _ _ hp1) hl1 (by show 1 + F.ins.length ≤ 1000; omega) fun p2 H6 np2 hp2 s6 => ?_
  refine ⟨(by show 1 ≤ sizeLine; decide), fun p3 np3 => ?_⟩
  have s7 : Same H6 (upd H6 p3 (.lst [V.ref p2])) := same_new np3
  have hp3 : (upd H6 p3 (.lst [V.ref p2])) p3 = some (.lst [V.ref p2]) := upd_same
  generalize upd H6 p3 (.lst [V.ref p2]) = H7 at s7 hp3 ⊢
  have s37 := s4.trans (s5.trans (s6.trans s7))
  refine ⟨_, rfl, p3, D, _, _, rfl, rfl, hp3, s37 _ _ hD3, little (by show 1 + lv3.length ≤ 1000; omega), fun p4 np4 => ?_⟩
  have s8 : Same H7 (upd H7 p4 (.lst ([V.ref p2] ++ lv3))) := same_new np4
  have hp4 : (upd H7 p4 (.lst ([V.ref p2] ++ lv3))) p4 = some (.lst ([V.ref p2] ++ lv3)) := upd_same
  generalize upd H7 p4 (.lst ([V.ref p2] ++ lv3)) = H8 at s8 hp4 ⊢
  refine ⟨(by show 1 ≤ sizeLine; decide), fun p5 np5 => ?_⟩
  have s9 : Same H8 (upd H8 p5 (.lst [V.str "out"])) := same_new np5
  have hp5 : (upd H8 p5 (.lst [V.str "out"])) p5 = some (.lst (([("out" : Str)] : List Str).map V.str)) := upd_same
  generalize upd H8 p5 (.lst [V.str "out"]) = H9 at s9 hp5 ⊢
  have s39 := s37.trans (s8.trans s9)
  refine ⟨_, rfl, a4, _, rfl, .inr (SqT.of (s39 _ _ (k3 _ _ e6))), fun l2 nl2 => ?_⟩
  have s10 : Same H9 (upd H9 l2 (.lst (F.outs.map V.str))) := same_new nl2
  have hl2 : (upd H9 l2 (.lst (F.outs.map V.str))) l2 = some (.lst (F.outs.map V.str)) := upd_same
  generalize upd H9 l2 (.lst (F.outs.map V.str)) = H10 at s10 hl2 ⊢
  refine cat_strs (s10 _ _ hp5) hl2 (by show 1 + F.outs.length ≤ 1000; omega) fun p6 H11 np6 hp6 s11 => ?_
  refine ⟨(by show 1 ≤ sizeLine; decide), fun p7 np7 => ?_⟩
  have s12 : Same H11 (upd H11 p7 (.lst [V.ref p6])) := same_new np7
  have hp7 : (upd H11 p7 (.lst [V.ref p6])) p7 = some (.lst [V.ref p6]) := upd_same
  generalize upd H11 p7 (.lst [V.ref p6]) = H12 at s12 hp7 ⊢
  have s812 := s9.trans (s10.trans (s11.trans s12))
  refine ⟨p4, p7, _, _, rfl, rfl, s812 _ _ hp4, hp7, little (by simp only [List.length_append, List.length_cons, List.length_nil]; omega), fun p8 np8 => ?_⟩
  have s13 : Same H12 (upd H12 p8 (.lst (([V.ref p2] ++ lv3) ++ [V.ref p6]))) := same_new np8
  have hp8 : (upd H12 p8 (.lst (([V.ref p2] ++ lv3) ++ [V.ref p6]))) p8 = some (.lst (([V.ref p2] ++ lv3) ++ [V.ref p6])) := upd_same
  generalize upd H12 p8 (.lst (([V.ref p2] ++ lv3) ++ [V.ref p6])) = H13 at s13 hp8 ⊢
  have s313 := s37.trans (s8.trans (s812.trans s13))
  have alr' : All2 (fun v ws => ∃ L : Addr, v = .ref L ∧ H13 L = some (.lst (ws.map V.str))) (([V.ref p2] ++ lv3) ++ [V.ref p6]) (rowsT F.ins F.outs mid) := by
    refine ((All2.cons ⟨p2, rfl, (s7.trans (s8.trans (s812.trans s13))) _ _ hp2⟩ .nil).app (al3.imp fun _ _ z => ?_)).app (.cons ⟨p6, rfl, (s12.trans s13) _ _ hp6⟩ .nil)
    obtain ⟨L, rfl, _, _, e⟩ := z
    exact ⟨L, rfl, s313 _ _ e⟩
  have tx := TxOk.of mi mw nins nouts (by omega) (by omega) (by omega)
  have lrw : (rowsT F.ins F.outs mid).length = mid.length + 2 := by simp only [rowsT, List.length_cons, List.length_append, List.length_nil]
  have wlen : ∀ u ∈ rowsT F.ins F.outs mid, u.length ≤ 40 ∧ ∀ z ∈ u, z.length ≤ 100 := fun u hu => by
    simp only [rowsT, List.mem_cons, List.mem_append, List.not_mem_nil, or_false] at hu
    rcases hu with rfl | hu | rfl
    · refine ⟨by rw [List.length_cons]; omega, fun z hz => ?_⟩
      rcases List.mem_cons.mp hz with rfl | hz
      · decide
      · exact (nins z hz).2
    · exact mw u hu
    · refine ⟨by rw [List.length_cons]; omega, fun z hz => ?_⟩
      rcases List.mem_cons.mp hz with rfl | hz
      · decide
      · exact (nouts z hz).2
  generalize hrows : rowsT F.ins F.outs mid = rws at alr' lrw wlen tx
  have lar := alr'.length
  have jl : ∀ u ∈ rws, (Txt.join ⟨#[32]⟩ u).length ≤ 4040 := fun u hu => by
    obtain ⟨h1, h2⟩ := wlen u hu
    have := join_len21 (c := 32) h2
    omega
  refine ⟨⟨_, rfl⟩, _, rfl, p8, rfl, ⟨_, SqL.of hp8⟩, fun E nE => ?_⟩
  refine lc_list (K := K) (a := p8) (xs := ([V.ref p2] ++ lv3) ++ [V.ref p6]) (fun i H14 => H14 E = some (.lst (((rws.map (Txt.join ⟨#[32]⟩)).take i).map V.str)) ∧ Same H13 H14) ⟨upd_same, same_new nE⟩ (fun i H14 _ ⟨_, s14⟩ => SqL.of (s14 _ _ hp8)) ?_ ?_
  · rintro i x H14 hx ⟨hE, s14⟩
    obtain ⟨u, eu, L, rfl, eL⟩ := alr'.getL hx
    have iu := (List.getElem?_eq_some_iff.mp eu).1
    obtain ⟨h1, h2⟩ := wlen u (List.mem_of_getElem? eu)
    refine ⟨rfl, yes_in ⟨⟨_, rfl⟩, _, rfl, _, L, u, rfl, rfl, .inl (SqL.of (s14 _ _ eL)), join_ok21 (B := 100) (n := 40) " " h2 h1 (by decide +kernel), _, hE, by rw [List.length_map, List.length_take]; exact small1000 (by omega), ?_, Same.own s14 nE⟩⟩
    rw [upd_same, List.take_add_one, List.getElem?_map, eu, List.map_append, sp32]
    rfl
  rintro H14 ⟨hE, s14⟩
  rw [List.take_of_length_le (by rw [List.length_map]; omega)] at hE
  refine ⟨_, E, rws.map (Txt.join ⟨#[32]⟩), rfl, rfl, .inl (SqL.of hE), join_ok21 (B := 4040) (n := 102) "\n" (fun z hz => ?_) (by rw [List.length_map]; omega) (by decide +kernel), ?_⟩
  · obtain ⟨u, hu, rfl⟩ := List.mem_map.mp hz
    exact jl u hu
  have s3 := s313.trans s14
  have B14 := B3.same s3
  have k14 := k3.trans (TK.same s3)
  refine ⟨_, rfl, _, rfl, _, rfl, kl, _, rfl, .inl ⟨SqL.of (s3 _ _ hkl3), fun t1 nt1 => ?_⟩⟩
  have u1 : Same H14 (upd H14 t1 (.tup kv)) := same_new nt1
  have ht1 : (upd H14 t1 (.tup kv)) t1 = some (.tup kv) := upd_same
  generalize upd H14 t1 (.tup kv) = H15 at u1 ht1 ⊢
  refine ⟨_, rfl, (by show 4 ≤ sizeLine; decide), fun t2 nt2 => ?_⟩
  have u2 : Same H15 (upd H15 t2 (.tup [.ref a1, .ref a2, .ref t1, .ref a4])) := same_new nt2
  have ht2 : (upd H15 t2 (.tup [.ref a1, .ref a2, .ref t1, .ref a4])) t2 = some (.tup [.ref a1, .ref a2, .ref t1, .ref a4]) := upd_same
  generalize upd H15 t2 (.tup [.ref a1, .ref a2, .ref t1, .ref a4]) = H16 at u2 ht2 ⊢
  refine ⟨(by show 2 ≤ sizeLine; decide), fun t3 nt3 => ?_⟩
  have u3 : Same H16 (upd H16 t3 (.tup [.str (Txt.join "\n" (rws.map (Txt.join ⟨#[32]⟩))), .ref t2])) := same_new nt3
  have u := s3.trans (u1.trans (u2.trans u3))
  have ku := k3.trans (TK.same u)
  rw [nl10]
  refine q t3 t2 _ ⟨F.ins, F.was, ks, F.outs⟩ _ mid ms _ upd_same ⟨a1, a2, t1, a4, wv, kv, u3 _ _ ht2, ku _ _ e1, ku _ _ e2, alw.imp fun _ _ z => z.keep ku, (u2.trans u3) _ _ ht1, akl.imp fun _ _ z => z.keep (TK.same u), ku _ _ e6⟩ (g.keptG aks) tx ewa erl (F3.same u) (B3.same u)
end
/-! ### formulas as data, and what is told -/
def trD : Tr → PyData
  | .nm n k => .tuple [.str "name", .str n, .int ((k : Nat) : Int)]
  | .no i => .tuple [.str "number", .int i]
  | .tm k t => .tuple [.str "times", .int k, trD t]
  | .o2 w a b => .tuple [.str w.s, trD a, trD b]
  | .o3 a b c => .tuple [.str "pick", trD a, trD b, trD c]
abbrev waD (p : Str × List Int) : PyData := .tuple [.str p.1, .tuple (p.2.map PyData.int)]
abbrev rlD (p : Str × Tr) : PyData := .tuple [.str p.1, trD p.2]
abbrev fmD (F : Fm) : PyData := .tuple [.tuple (F.ins.map PyData.str), .tuple (F.was.map waD), .tuple (F.rules.map rlD), .tuple (F.outs.map PyData.str)]
theorem TrAt.dp {K : PySem.W.Frag} {H : Hp} : ∀ {t : Tr} {v : V}, TrAt H v t → Dp K H v (trD t) := by
  intro t
  induction t with
  | nm n i => intro v h; obtain ⟨a, rfl, e⟩ := h; exact .tup (SqT.of e) (.cons (.str _) (.cons (.str _) (.cons (.int _) .nil)))
  | no i => intro v h; obtain ⟨a, rfl, e⟩ := h; exact .tup (SqT.of e) (.cons (.str _) (.cons (.int _) .nil))
  | tm i t ih => intro v h; obtain ⟨a, x, rfl, e, h⟩ := h; exact .tup (SqT.of e) (.cons (.str _) (.cons (.int _) (.cons (ih h) .nil)))
  | o2 w s t i1 i2 => intro v h; obtain ⟨a, x, y, rfl, e, h, g⟩ := h; exact .tup (SqT.of e) (.cons (.str _) (.cons (i1 h) (.cons (i2 g) .nil)))
  | o3 s t u i1 i2 i3 => intro v h; obtain ⟨a, x, y, z, rfl, e, h, g, i⟩ := h; exact .tup (SqT.of e) (.cons (.str _) (.cons (i1 h) (.cons (i2 g) (.cons (i3 i) .nil))))
theorem was_dp {K : PySem.W.Frag} {H : Hp} {vs : List V} {l : List (Str × List Int)} (a : All2 (WaAt H) vs l) : DpAll K H vs (l.map waD) := by
  induction a with
  | nil => exact .nil
  | cons h t ih =>
    obtain ⟨p, b, rfl, e1, e2⟩ := h
    exact .cons (.tup (SqT.of e1) (.cons (.str _) (.cons (.tup (SqT.of e2) (dp_ints _)) .nil))) ih
theorem rls_dp {K : PySem.W.Frag} {H : Hp} {vs : List V} {l : List (Str × Tr)} (a : All2 (RlAt H) vs l) : DpAll K H vs (l.map rlD) := by
  induction a with
  | nil => exact .nil
  | cons h t ih =>
    obtain ⟨p, b, rfl, e1, e2⟩ := h
    exact .cons (.tup (SqT.of e1) (.cons (.str _) (.cons e2.dp .nil))) ih
theorem FmAt.dp {K : PySem.W.Frag} {H : Hp} {r : Addr} {F : Fm} (h : FmAt H r F) : Dp K H (.ref r) (fmD F) := by
  obtain ⟨a1, a2, a3, a4, wv, rv, e0, e1, e2, e3, e4, e5, e6⟩ := h
  exact .tup (SqT.of e0) (.cons (.tup (SqT.of e1) (dp_strs _)) (.cons (.tup (SqT.of e2) (was_dp e3)) (.cons (.tup (SqT.of e4) (rls_dp e5)) (.cons (.tup (SqT.of e6) (dp_strs _)) .nil))))
/-- a name that can be shown -/
structure Nm (z : Str) : Prop where
  lay : PyData.canLay0 (.str z) = true
  few : z.cps.size ≤ 9
theorem Wd.nm {m : Nat} {z : Str} (h : Wd m z) (l : m ≤ 9) : Nm z := ⟨h.lay, Nat.le_trans h.size l⟩
theorem W2.nm (w : W2) : Nm w.s := by cases w <;> exact ⟨by decide +kernel, by decide +kernel⟩
theorem tr_neat : ∀ {t : Tr}, t.small → (∀ q ∈ t.leans, Nm q.1 ∧ q.2 ≤ 1000) → Neat (trD t) t.dep (100 * t.parts.length) := by
  intro t
  induction t with
  | nm n k =>
    intro _ h
    obtain ⟨g1, g2⟩ := h (n, k) (List.mem_singleton.mpr rfl)
    exact (Neat.tup (.cons (Neat.str (x := "name") (n := 4) (dp := 0) (by decide +kernel) (by decide +kernel)) (.cons (Neat.str g1.lay g1.few) (.cons (Neat.int (i := ((k : Nat) : Int)) (by have : k ≤ 1000 := g2; omega)) .nil)))).mono (Nat.le_refl _) (by show _ ≤ 100 * 1; decide)
  | no i =>
    intro h _
    have h : Small i := h
    exact (Neat.tup (.cons (Neat.str (x := "number") (n := 6) (dp := 0) (by decide +kernel) (by decide +kernel)) (.cons (Neat.int (i := i) (by unfold Small at h; omega)) .nil))).mono (Nat.le_refl _) (by show _ ≤ 100 * 1; decide)
  | tm k t ih =>
    intro h g
    have i1 := ih h.2 g
    have h1 : (-9 : Int) ≤ k ∧ k ≤ 9 := h.1
    refine (Neat.tup (.cons (Neat.str (x := "times") (n := 5) (dp := t.dep) (by decide +kernel) (by decide +kernel)) (.cons (Neat.int (i := k) (by omega)) (.cons i1 .nil)))).mono (Nat.le_refl _) ?_
    rw [Tr.parts, List.length_append]
    show _ ≤ 100 * (_ + 1)
    omega
  | o2 w a b iha ihb =>
    intro h g
    have i1 := (iha h.1 fun q hq => g q (List.mem_append.mpr (.inl hq))).mono (Nat.le_max_left a.dep b.dep) (Nat.le_refl _)
    have i2 := (ihb h.2 fun q hq => g q (List.mem_append.mpr (.inr hq))).mono (Nat.le_max_right a.dep b.dep) (Nat.le_refl _)
    refine (Neat.tup (.cons (Neat.str (x := w.s) (n := 9) (dp := max a.dep b.dep) w.nm.lay w.nm.few) (.cons i1 (.cons i2 .nil)))).mono (Nat.le_refl _) ?_
    rw [Tr.parts, List.length_append, List.length_append]
    show _ ≤ 100 * (_ + 1)
    omega
  | o3 a b c iha ihb ihc =>
    intro h g
    have i1 := (iha h.1 fun q hq => g q (List.mem_append.mpr (.inl (List.mem_append.mpr (.inl hq))))).mono (Nat.le_max_left a.dep (max b.dep c.dep)) (Nat.le_refl _)
    have i2 := (ihb h.2.1 fun q hq => g q (List.mem_append.mpr (.inl (List.mem_append.mpr (.inr hq))))).mono (Nat.le_trans (Nat.le_max_left b.dep c.dep) (Nat.le_max_right a.dep (max b.dep c.dep))) (Nat.le_refl _)
    have i3 := (ihc h.2.2 fun q hq => g q (List.mem_append.mpr (.inr hq))).mono (Nat.le_trans (Nat.le_max_right b.dep c.dep) (Nat.le_max_right a.dep (max b.dep c.dep))) (Nat.le_refl _)
    refine (Neat.tup (.cons (Neat.str (x := "pick") (n := 9) (dp := max a.dep (max b.dep c.dep)) (by decide +kernel) (by decide +kernel)) (.cons i1 (.cons i2 (.cons i3 .nil))))).mono (Nat.le_refl _) ?_
    rw [Tr.parts, List.length_append, List.length_append, List.length_append]
    show _ ≤ 100 * (_ + 1)
    omega
/-- formulas that can be shown -/
structure SmF (F : Fm) : Prop where
  i : ∀ z ∈ F.ins, Nm z
  o : ∀ z ∈ F.outs, Nm z
  w : ∀ p ∈ F.was, Nm p.1 ∧ p.2.length ≤ 8 ∧ ∀ x ∈ p.2, Small x
  r : ∀ p ∈ F.rules, Nm p.1 ∧ p.2.small ∧ (∀ q ∈ p.2.leans, Nm q.1 ∧ q.2 ≤ 1000) ∧ p.2.parts.length ≤ 10
def SayD (d : PyData) : Prop := d.showable = true ∧ d.hasDict = false ∧ d.depth ≤ 60 ∧ d.shown.length ≤ sizeLine
theorem Neat.sayD {d : PyData} {dp n : Nat} (h : Neat d dp n) (k : dp ≤ 60) (m : n ≤ 1000000) : SayD d := ⟨h.say, h.nod, Nat.le_trans h.dep k, h.fits k m⟩
theorem fm_neat {F : Fm} (ok : FmOk F) (sm : SmF F) : Neat (fmD F) 15 250000 := by
  have s1 : ∀ l : List Str, (∀ z ∈ l, Nm z) → l.length ≤ 100 → Neat (.tuple (l.map PyData.str)) 14 1000 := fun l h ll =>
    (Neat.tup (NeatAll.map (f := PyData.str) (dp := 13) (n := 9) fun z hz => Neat.str (h z hz).lay (h z hz).few)).mono (Nat.le_refl _) (by omega)
  have s2 : Neat (.tuple (F.was.map waD)) 14 40000 := by
    refine (Neat.tup (NeatAll.map (f := waD) (dp := 13) (n := 399) fun p hp => ?_)).mono (Nat.le_refl _) (by have := ok.lw; omega)
    obtain ⟨g1, g2, g3⟩ := sm.w p hp
    have t1 := Neat.tup (NeatAll.map (f := PyData.int) (dp := 11) (n := 41) (l := p.2) fun x hx => Neat.int (by have := g3 x hx; unfold Small at this; omega))
    exact (Neat.tup (.cons (Neat.str (dp := 12) g1.lay g1.few) (.cons t1 .nil))).mono (Nat.le_refl _) (by omega)
  have s3 : Neat (.tuple (F.rules.map rlD)) 14 150000 := by
    refine (Neat.tup (NeatAll.map (f := rlD) (dp := 13) (n := 1100) fun p hp => ?_)).mono (Nat.le_refl _) (by have := ok.lr; omega)
    obtain ⟨g1, g2, g3, g4⟩ := sm.r p hp
    have t1 := (tr_neat g2 g3).mono (c := 12) (e := 1000) (by have := p.2.dep_parts; omega) (by omega)
    exact (Neat.tup (.cons (Neat.str (dp := 12) g1.lay g1.few) (.cons t1 .nil))).mono (Nat.le_refl _) (by omega)
  exact (Neat.tup (.cons (s1 _ sm.i ok.li) (.cons s2 (.cons s3 (.cons (s1 _ sm.o ok.lo) .nil))))).mono (Nat.le_refl _) (by decide)
theorem fm_say {F : Fm} (ok : FmOk F) (sm : SmF F) : SayD (fmD F) := (fm_neat ok sm).sayD (by decide) (by decide)
/-! ### xs[:a] = ys as a target -/
section
open PySem.Spec
variable {prog : Program} {w : World} {A : Around} {E : Value → Shared → Prop} {s : Shared}
theorem head_run {a n : Nat} (h : a ≤ n) : sliceBounds none (some ((a : Nat) : Int)) none n = (0, ((a : Nat) : Int), 1) := by
  have low : ¬ ((a : Nat) : Int) < 0 := fun z => by omega
  have mn : min ((a : Nat) : Int) ((n : Nat) : Int) = ((a : Nat) : Int) := by omega
  unfold sliceBounds
  simp only [Option.getD_none, low, if_false, Int.one_pos, gt_iff_lt, if_true, Prod.mk.injEq, and_true, mn]
  first | trivial | omega
set_option maxRecDepth 100000 in
theorem head_slice {l b sl : Addr} {items new : Array Value} {n n2 a : Nat} {vl vu : Value} {Q : Unit → Shared → Prop} (e : s.heap.get? l = some { cls := .type "list", data := .seq items n }) (e2 : s.heap.get? b = some { cls := .type "list", data := .seq new n2 }) (hne : l ≠ b)
    (hs : s.heap.IsSliceOf sl vl vu .none) (pl : IsPart vl none) (pu : IsPart vu (some ((a : Nat) : Int))) (ha : a ≤ items.size) (hsz : items.size + new.size ≤ sizeLine) (h : Q () { s with heap := s.heap.update l (Obj.mapSeq fun xs => xs.extract 0 0 ++ new ++ xs.extract a xs.size) }) : wpAny (model prog w) A (setItem (.ref l) (.ref sl) (.ref b)) Q E s := by
  have L := PySem.IsL.isList e; have B := PySem.IsL.isList e2
  obtain ⟨os, f1, f2, f3⟩ := id hs; have T : s.TypeIs (.ref sl) "slice" := ⟨os, f1, f2⟩
  have other : Builtin.List.listSameRef (.ref l) (.ref b) = false := beq_eq_false_iff_ne.mpr hne
  have z0 : items.size + new.size ≤ sizeLine := hsz
  have z1 : ((fun xs : Array Value => xs.extract 0 0 ++ new ++ xs.extract a xs.size) items).size ≤ sizeLine + 1 := by simp only [Array.size_append, Array.size_extract]; omega
  have hmax : (max (0 : Int) ((a : Nat) : Int)).toNat = a := by omega
  unfold setItem; try with_reducible refine wpAny_holding ?_
  (try refine wpAny_bind (wpAny_pure ?_)); refine wpAny_bind (wpAny_sequenceKey L.typeIs (by decide) ?_)
  refine wpAny_bind (wpAny_callSpecial?_slot (name := Str.ofString "__setitem__") L.typeIs slot_list_setitem (wpAny_call_entry slot_list_setitem L.typeIs entry_list_setitem ?_ (args_list_setitem _ _ _)))
  show wpAny _ _ (Builtin.List.listSubscript? (.ref sl) >>= _) _ _ s; refine wpAny_bind ?_
  unfold Builtin.List.listSubscript?; refine wpAny_bind (wpAny_specialOf T slice_no_index ?_)
  simp only [Option.isNone_none, if_true]; refine wpAny_pure ?_
  show wpAny _ _ (typeOf (.ref sl) >>= _) _ _ s; refine wpAny_bind (wpAny_typeOf T ?_)
  (first | rw [if_neg (by decide)] | refine PySem.W.KFB.if_not (by decide) ?_); rw [listSliceParts_eq]
  refine wpAny_bind (wpAny_bind (wpAny_field f1 f3 (x := .none) rfl (wpAny_bind (wpAny_listPart .none ?_)))); rw [if_neg (show ¬ ((rawPart none == rawInt 0) = true) from Bool.false_ne_true)]
  refine wpAny_bind (wpAny_field f1 f3 (x := vl) rfl (wpAny_bind (wpAny_listPart pl ?_))); refine wpAny_bind (wpAny_field f1 f3 (x := vu) rfl (wpAny_bind (wpAny_listPart pu (wpAny_pure ?_))))
  (first | simp only [other, Bool.false_eq_true, if_false] | refine PySem.W.KFB.if_not other ?_ | (dsimp only; rw [if_neg (by rw [other]; exact Bool.false_ne_true)]))
  refine wpAny_bind (m := Builtin.List.listAllItems (.ref b) "must assign iterable to extended slice") ?_; unfold Builtin.List.listAllItems
  refine wpAny_bind (wpAny_typeOf B.typeIs ?_); (first | refine PySem.W.KFB.if_so (by decide) ?_ | rw [if_pos (by decide)] | simp only [beq_self_eq_true, Bool.true_or, if_true])
  unfold Builtin.List.listItems; refine wpAny_bind (wpAny_seqItems e2 rfl (wpAny_pure ?_))
  refine wpAny_bind (wpAny_bind (wpAny_seqItems e rfl (wpAny_pure ?_))); refine wpAny_bind (wpAny_of_eq ((sliceIndices_raw none (some ((a : Nat) : Int)) none items.size (by simp)).trans (congrArg (pure : Int × Int × Int → Sem (Int × Int × Int)) (head_run ha))) ?_)
  show wpAny _ _ (if ((1 : Int) == 1) = true then _ else _) _ _ s; rw [if_pos (by decide)]; refine wpAny_bind (wpAny_rule ?_)
  (first | simp only [notLongL z0, Bool.false_eq_true, if_false] | refine PySem.W.KFB.if_not (notLongL z0) ?_); (try refine wpAny_bind (wpAny_pure ?_))
  show wpAny _ _ (updateSeq l (fun xs => xs.extract 0 (0 : Int).toNat ++ new ++ xs.extract (max (0 : Int) ((a : Nat) : Int)).toNat xs.size) >>= _) _ _ s
  rw [hmax]
  refine wpAny_bind (wpAny_updateSeq (hz := Nat.le_trans (Nat.le_add_right _ _) hsz) (_hz' := z1) e rfl ?_); refine wpAny_bind (wpAny_letGo ?_)
  (first | exact wpAny_bind (wpAny_pure (wpAny_pure ⟨.none, rfl, wpAny_pure h⟩)) | exact wpAny_pure ⟨.none, rfl, wpAny_pure h⟩)
end
section
variable {X : Cx} {pos p2 : Pos}
theorem head_at {pins : List (Addr × Obj)} {s : Shared} {σ : L2.St} {H : Hp} {l b sl : Addr} {xs ys : List V} {a : Int} {vl : Value} {Q : Unit → Shared → Prop} (I : Inv X pins σ H s) (hH : H l = some (.lst xs)) (hB : H b = some (.lst ys)) (hne : l ≠ b) (hs : s.heap.IsSliceOf sl .none vl .none) (ra : RelV (.int a) vl)
    (h0 : 0 ≤ a) (h1 : a ≤ xs.length) (hz : xs.length + ys.length ≤ sizeLine) (h : ∀ s', Inv X pins σ (upd H l (.lst (ys ++ xs.drop a.toNat))) s' → Q () s') : wpAny (model X.prog X.w) X.A (setItem (.ref l) (.ref sl) (.ref b)) Q X.xe s := by
  obtain ⟨ta, rfl⟩ := ra
  obtain ⟨z, its, n, r, hl, e⟩ := I.lstM hH; obtain ⟨z2, its2, n2, r2, hl2, e2⟩ := I.lstM hB
  obtain ⟨b', rfl⟩ := Int.eq_ofNat_of_zero_le h0
  rw [show ((b' : Nat) : Int).toNat = b' from Int.toNat_natCast b'] at h
  refine head_slice (a := b') e e2 hne hs .none (.int _ _) (by rw [List.size_toArray]; omega) (by rw [List.size_toArray, List.size_toArray]; omega) (h _ ?_)
  refine I.lset (its' := its2 ++ its.drop b') (t' := s.toks) hH e ?_ (Vals.append r2 (r.drop _)) ?_
  · have := splice_eq its its2 0 b'
    rw [List.take_zero, List.nil_append] at this
    rw [← this]
  · rw [List.length_append, List.length_drop]
    omega
/-- o[:hi] = .. -/
def gSubH (to : TE) (tl : TO) : TG := fun v σ H Q => to σ H fun o H1 => tl σ H1 fun lo H2 => ∃ (p b : Addr) (xs ys : List V) (a : Int), o = .ref p ∧ v = .ref b ∧ lo = some a ∧ H2 p = some (.lst xs) ∧ H2 b = some (.lst ys) ∧ p ≠ b ∧
  0 ≤ a ∧ a ≤ xs.length ∧ xs.length + ys.length ≤ sizeLine ∧ Q σ (upd H2 p (.lst (ys ++ xs.drop a.toNat)))
theorem pg_subS {o lo : Expr} {to : TE} {t0 tl : TO} (ho : PE X o to) (_ : PO X none t0) (hl : PO X (some lo) tl) (ha : ∀ v, assign (.Subscript o (.Slice none (some lo) none p2) pos) X.env v = (do
      let ov ← holding [v] (eval o X.env)
      let iv ← holding [v, ov] (eval (.Slice none (some lo) none p2) X.env)
      standAt pos
      holding [v, ov, iv] (setItem ov iv v)
      release [iv, v, ov] []) := by intro _; rfl) : PG X (.Subscript o (.Slice none (some lo) none p2) pos) (gSubH to tl) := by
  refine ⟨fun pins s σ H v u Q I r h => ?_⟩
  rw [ha]
  refine wpAny_bind (wpAny_holding (thn (ho.run pins s σ H _ I h) fun ov s1 ⟨x, H1, I1, r1, q1⟩ => ?_))
  refine wpAny_bind (wpAny_holding (wpAny_Slice ?_))
  rw [evalPart_none]
  refine wpAny_pure (thn (hl.run pins s1 σ H1 _ I1 q1) fun vl s2 ⟨l, H2, I2, pl, q2⟩ => ?_)
  refine wpAny_pure ?_
  have I4 : Inv X pins σ H2 { s2 with heap := s2.heap.push { cls := .type "slice", data := .fields #[.none, vl, .none] } } := I2.kept (t' := s2.toks) fun b ob q => Heap.get?_push_of_some _ q
  obtain ⟨p, b, xs, ys, a, rfl, rfl, rfl, g1, g2, g3, g4, g5, g6, g7⟩ := q2
  cases r1
  cases r
  refine wpAny_bind (wpAny_standAt (wpAny_bind (wpAny_holding ?_)))
  refine head_at I4 g1 g2 g3 (Heap.IsSliceOf.new ..) ?_ g4 g5 g6 fun s' I5 => ?_
  · cases pl
    exact ⟨_, rfl⟩
  · exact wpAny_release ⟨σ, _, I5, g7⟩
end
theorem big8 {n : Nat} (h : n ≤ 16000000) : n ≤ sizeLine := Nat.le_trans h (by decide)
theorem log_8 {m : Nat} (h : m ≤ 10000000) : ((m : Nat) : Int).natAbs.log2 < 9000 := by
  show m.log2 < 9000
  by_cases z : m = 0
  · rw [z]; decide
  · exact Nat.lt_trans ((Nat.log2_lt z).mpr (show m < 2 ^ 24 by omega)) (by decide)
section
variable {P : Program} {w : World} {K : PySem.W.Frag} {mg : Str → Option Value} {base : Heap}
def Put {α : Type} (xs : List α) (y : α) (ys : List α) : Prop := ∃ k : Nat, k ≤ xs.length ∧ (ys = xs.take k ++ y :: xs.drop k ∨ ys = xs.take k ++ y :: xs.drop (k + 1) ∨ ys = xs.take k ++ xs.drop (k + 1))
theorem Put.len {α : Type} {xs ys : List α} {y : α} (h : Put xs y ys) : ys.length ≤ xs.length + 1 := by
  obtain ⟨k, hk, rfl | rfl | rfl⟩ := h
  · rw [List.length_append, List.length_cons, List.length_take, List.length_drop]; omega
  · rw [List.length_append, List.length_cons, List.length_take, List.length_drop]; omega
  · rw [List.length_append, List.length_take, List.length_drop]; omega
theorem Put.mem {α : Type} {xs ys : List α} {y : α} (h : Put xs y ys) : ∀ z ∈ ys, z ∈ xs ∨ z = y := by
  obtain ⟨k, hk, rfl | rfl | rfl⟩ := h
  · intro z hz
    rcases List.mem_append.mp hz with hz | hz
    · exact .inl (List.mem_of_mem_take hz)
    · rcases List.mem_cons.mp hz with hz | hz
      · exact .inr hz
      · exact .inl (List.mem_of_mem_drop hz)
  · intro z hz
    rcases List.mem_append.mp hz with hz | hz
    · exact .inl (List.mem_of_mem_take hz)
    · rcases List.mem_cons.mp hz with hz | hz
      · exact .inr hz
      · exact .inl (List.mem_of_mem_drop hz)
  · intro z hz
    rcases List.mem_append.mp hz with hz | hz
    · exact .inl (List.mem_of_mem_take hz)
    · exact .inl (List.mem_of_mem_drop hz)
theorem rep_one (x : V) : (List.replicate (1 : Int).toNat [x]).flatten = [x] := rfl
def sp_law_put (K : PySem.W.Frag) : Sp := fun vs H Q _ => ∃ (f c l : Addr) (xs : List V) (y : V), vs = [.ref f, .ref l, y] ∧ H l = some (.lst xs) ∧ l ≠ f ∧ xs ≠ [] ∧ xs.length ≤ 5000000 ∧ Flow H f c ∧
  ∀ (p : Addr) (ys : List V) (H' : Hp), Put xs y ys → H p = none → p ≠ f → H' p = some (.lst ys) → Flow H' f c → But f H H' → Q (.ref p) H'
theorem ok_law_put {f : Addr} {fd : FuncData} (F : Fun K "_law_put" "_law_put" s_law_put f fd) {C : Addr} (T : Top w K mg C) : FnOk P w K mg base CX0 2 f fd ["_law_flow_here", "_law_some", "_law_one"] (sp_law_put K) := by
  obtain ⟨f_law_pick, fd_law_pick, F_law_pick, b_law_pick, m_law_pick⟩ := T.d_law_pick
  have G_law_pick := ok_law_pick (P := P) (w := w) (base := base) F_law_pick T
  refine F.ok sc_law_put (fun vs H Q E h => ?_) (fun cdv A outer s H vs Q E hr h => ?_)
  · obtain ⟨f, c, l, xs, y, rfl, _⟩ := h
    rfl
  obtain ⟨f, c, l, xs, y, rfl, hl, nl, hne, hlen, hF, q⟩ := h
  have hpos := List.length_pos_iff.mpr hne
  refine ⟨_, (pss_cons (ps_set (i := 3) sc_law_put.nd rfl (Or.inl rfl) (pe_call G_law_pick (hr.mono (by decide)) (by rfl) m_law_pick F_law_pick.kp b_law_pick .nil pass0 (pa_cons (pv 0) (pa_cons pe_int pa_nil))))
      (pss_cons (ps_set (i := 4) sc_law_put.nd rfl (Or.inl rfl) (pe_call G_law_pick (hr.mono (by decide)) (by rfl) m_law_pick F_law_pick.kp b_law_pick .nil pass0 (pa_cons (pv 0) (pa_cons (pe_op op_add (pe_callB (call_len_seqK K rfl) (by rfl) T.m_len (by decide +kernel) (pa_cons (pv 1) pa_nil)) (pe_callTy call_int1 (by rfl) T.m_int (by decide +kernel) (pa_cons (pe_cmpR op_eq (pv 3) pe_int (nomark _)) pa_nil))) pa_nil))))
      (pss_cons (ps_if (pt_cmpR op_eq (pv 3) pe_int (nomark _)) (pss_one (ps_ret (pe_op op_cat (pe_op op_cat (pe_slice (sl_listK K rfl) (pv 1) po_none (po_some (pv 4))) (pe_lst (pa_cons (pv 2) pa_nil))) (pe_slice (sl_listK K rfl) (pv 1) (po_some (pv 4)) po_none)))) pss_nil)
      (pss_one (ps_ret (pe_op op_cat (pe_op op_cat (pe_slice (sl_listK K rfl) (pv 1) po_none (po_some (pv 4))) (pe_op op_rep (pe_lst (pa_cons (pv 2) pa_nil)) (pe_op op_sub pe_int (pv 3)))) (pe_slice (sl_listK K rfl) (pv 1) (po_some (pe_op op_add (pv 4) pe_int)) po_none))))))), ?_⟩
  refine ⟨_, rfl, f, c, 3, rfl, by decide, by decide +kernel, hF, fun v1 H1 a1 b1 F1 B1 => ?_⟩
  have hl1 := B1 _ _ hl nl
  have lim : ∀ k : Nat, k ≤ 1 → (((xs.length : Nat) : Int) + (k : Int)).natAbs.log2 < 9000 := fun k hk => by
    rw [show ((xs.length : Nat) : Int) + (k : Int) = ((xs.length + k : Nat) : Int) by omega]
    exact log_8 (by omega)
  obtain ⟨k, ek, k1, k0⟩ : ∃ k : Nat, (if decide (V.int v1 = V.int 0) = true then (1 : Int) else 0) = (k : Int) ∧ k ≤ 1 ∧ (v1 ≠ 0 → k = 0) := by
    by_cases z : V.int v1 = V.int 0
    · exact ⟨1, by rw [decide_eq_true z]; rfl, by decide, fun y => absurd (V.int.inj z) y⟩
    · exact ⟨0, by rw [decide_eq_false z]; rfl, by decide, fun _ => rfl⟩
  refine ⟨_, rfl, _, rfl, l, _, rfl, .inl (SqL.of hl1), _, rfl, rfl, .inr ⟨_, rfl, _, _, rfl, rfl, ?_⟩⟩
  rw [ek]
  refine ⟨f, c, _, rfl, by omega, lim k k1, F1, fun at_ H2 p0 p1 F2 B2 => ?_⟩
  have hl2 := B2 _ _ hl1 nl
  obtain ⟨n, rfl⟩ : ∃ n : Nat, at_ = ((n : Nat) : Int) := ⟨at_.toNat, by omega⟩
  have cl := fun lo hi => cutV_length xs lo hi
  refine ⟨_, rfl, rfl, _, rfl, if_bl (fun _ => ?_) (fun w0 => ?_)⟩
  · refine ⟨_, rfl, _, rfl, _, rfl, l, _, rfl, SqL.of hl2, fun p1 np1 => ?_⟩
    refine ⟨_, rfl, (by show 1 ≤ sizeLine; decide), fun p2 np2 => ⟨p1, p2, _, _, rfl, rfl, same_new np2 _ _ upd_same, upd_same, ?_, fun p3 np3 => ?_⟩⟩
    · have := cl none (some ((n : Nat) : Int))
      exact big8 (by show _ + 1 ≤ 16000000; omega)
    refine ⟨_, rfl, _, rfl, _, rfl, l, _, rfl, SqL.of (same_new np3 _ _ (same_new np2 _ _ (same_new np1 _ _ hl2))), fun p4 np4 => ⟨p3, p4, _, _, rfl, rfl, same_new np4 _ _ upd_same, upd_same, ?_, fun p5 np5 => ?_⟩⟩
    · have := cl (some ((n : Nat) : Int)) none
      rw [cut_take, cut_drop, List.length_append, List.length_take, List.length_drop]
      exact big8 (by show _ + 1 + _ ≤ 16000000; omega)
    have F6 := (((F2.new (o := .lst (cutV xs none (some ((n : Nat) : Int)))) np1).new (o := .lst [y]) np2).new (o := .lst (cutV xs none (some ((n : Nat) : Int)) ++ [y])) np3).new (o := .lst (cutV xs (some ((n : Nat) : Int)) none)) np4
    have BB := ((((B1.trans B2).new (o := .lst (cutV xs none (some ((n : Nat) : Int)))) np1).new (o := .lst [y]) np2).new (o := .lst (cutV xs none (some ((n : Nat) : Int)) ++ [y])) np3).new (o := .lst (cutV xs (some ((n : Nat) : Int)) none)) np4
    refine q p5 _ _ ?_ (BB.none np5 (F6.ne np5)) (F6.ne np5) upd_same (F6.new np5) (BB.new np5)
    refine ⟨n, by omega, .inl ?_⟩
    rw [cut_take, cut_drop, List.append_assoc]
    rfl
  · have w0 : v1 ≠ 0 := fun z => of_decide_eq_false w0 (by rw [z])
    have k00 := k0 w0
    refine ⟨_, rfl, _, rfl, _, rfl, l, _, rfl, SqL.of hl2, fun p1 np1 => ?_⟩
    refine ⟨_, rfl, (by show 1 ≤ sizeLine; decide), fun p2 np2 => ⟨_, rfl, _, _, rfl, rfl, p2, 2 - v1, _, rfl, rfl, upd_same, by omega, by omega, little (by show 1 * _ ≤ 1000; omega), fun p2b np2b => ?_⟩⟩
    have fr : (List.replicate (2 - v1).toNat [y]).flatten = List.replicate (2 - v1).toNat y := by
      generalize (2 - v1).toNat = m
      induction m with
      | zero => rfl
      | succ m ih => rw [List.replicate_succ, List.flatten_cons, ih]; rfl
    rw [fr]
    refine ⟨p1, p2b, _, _, rfl, rfl, same_new np2b _ _ (same_new np2 _ _ upd_same), upd_same, ?_, fun p3 np3 => ?_⟩
    · have := cl none (some ((n : Nat) : Int))
      rw [List.length_replicate]
      exact big8 (by omega)
    refine ⟨_, rfl, _, rfl, _, _, rfl, rfl, _, rfl, l, _, rfl, SqL.of (same_new np3 _ _ (same_new np2b _ _ (same_new np2 _ _ (same_new np1 _ _ hl2)))), fun p4 np4 => ⟨p3, p4, _, _, rfl, rfl, same_new np4 _ _ upd_same, upd_same, ?_, fun p5 np5 => ?_⟩⟩
    · have := cl none (some ((n : Nat) : Int))
      have := cl (some (((n : Nat) : Int) + 1)) none
      rw [List.length_append, List.length_replicate, cut_take, List.length_take]
      have e : cutV xs (some (((n : Nat) : Int) + 1)) none = xs.drop (n + 1) := cut_drop xs (n + 1)
      rw [e, List.length_drop]
      exact big8 (by omega)
    have F6 := ((((F2.new (o := .lst (cutV xs none (some ((n : Nat) : Int)))) np1).new (o := .lst [y]) np2).new (o := .lst (List.replicate (2 - v1).toNat y)) np2b).new (o := .lst (cutV xs none (some ((n : Nat) : Int)) ++ List.replicate (2 - v1).toNat y)) np3).new (o := .lst (cutV xs (some (((n : Nat) : Int) + 1)) none)) np4
    have BB := (((((B1.trans B2).new (o := .lst (cutV xs none (some ((n : Nat) : Int)))) np1).new (o := .lst [y]) np2).new (o := .lst (List.replicate (2 - v1).toNat y)) np2b).new (o := .lst (cutV xs none (some ((n : Nat) : Int)) ++ List.replicate (2 - v1).toNat y)) np3).new (o := .lst (cutV xs (some (((n : Nat) : Int) + 1)) none)) np4
    refine q p5 _ _ ?_ (BB.none np5 (F6.ne np5)) (F6.ne np5) upd_same (F6.new np5) (BB.new np5)
    have e : cutV xs (some (((n : Nat) : Int) + 1)) none = xs.drop (n + 1) := cut_drop xs (n + 1)
    rw [cut_take, e]
    by_cases z : v1 = 1
    · refine ⟨n, by omega, .inr (.inl ?_)⟩
      rw [z, List.append_assoc]
      rfl
    · have : v1 = 2 := by omega
      refine ⟨n, by omega, .inr (.inr ?_)⟩
      rw [this]
      show List.take n xs ++ [] ++ _ = _
      rw [List.append_nil]
end
open PySem.NumText
section
variable {P : Program} {w : World} {K : PySem.W.Frag} {mg : Str → Option Value} {base : Heap}
def sgnS : Str := (" !\"#$&'()*+,-./0123456789:;<=>?@ABCDEFGHIJKLMNOPQRSTUVWXYZ" : Str) ++ ("[\\]^_`abcdefghijklmnopqrstuvwxyz{|}~" : Str)
def sp_law_signs (K : PySem.W.Frag) : Sp := fun vs H Q _ => vs = [] ∧ Q (.str sgnS) H
theorem ok_law_signs {f : Addr} {fd : FuncData} (F : Fun K "_law_signs" "_law_signs" s_law_signs f fd) {C : Addr} (T : Top w K mg C) : FnOk P w K mg base CX0 1 f fd [] (sp_law_signs K) := by
  refine F.ok sc_law_signs (fun vs H Q E h => ?_) (fun cdv A outer s H vs Q E hr h => ?_)
  · obtain ⟨rfl, _⟩ := h
    rfl
  obtain ⟨rfl, q⟩ := h
  refine ⟨_, (pss_cons (ps_set (i := 0) sc_law_signs.nd rfl (Or.inl rfl) pe_str)
      (pss_one (ps_ret (pe_op op_add_str (pv 0) pe_str)))), ?_⟩
  exact ⟨_, rfl, _, _, rfl, rfl, by decide +kernel, q⟩
def sp_law_is_name (K : PySem.W.Frag) : Sp := fun vs H Q _ => ∃ a : Str, vs = [.str a] ∧ a.length ≤ 8000000 ∧ ∀ H', Same H H' → Q (.bl (nameB a)) H'
theorem ok_law_is_name {f : Addr} {fd : FuncData} (F : Fun K "_law_is_name" "_law_is_name" s_law_is_name f fd) {C : Addr} (T : Top w K mg C) : FnOk P w K mg base CX0 2 f fd ["_law_text_here"] (sp_law_is_name K) := by
  obtain ⟨f_law_taken, fd_law_taken, F_law_taken, b_law_taken, m_law_taken⟩ := T.d_law_taken
  have G_law_taken := ok_law_taken (P := P) (w := w) (base := base) F_law_taken T
  refine F.ok sc_law_is_name (fun vs H Q E h => ?_) (fun cdv A outer s H vs Q E hr h => ?_)
  · obtain ⟨a, rfl, _⟩ := h
    rfl
  obtain ⟨a, rfl, la, q⟩ := h
  have sl : a.length ≤ sizeLine := Nat.le_trans (show _ ≤ 8000000 by omega) (by decide)
  unfold nameB at q
  refine ⟨_, (pss_cons (ps_if (PW.pt (pw_or (pt_not (pt_chain op_lt op_lt pe_int (pe_callB call_len_str (by rfl) T.m_len (by decide +kernel) (pa_cons (pv 0) pa_nil)) pe_int)) (pw_or1 (pt_cmpR (op_in_seqK K rfl) (pv 0) (pe_call0 G_law_taken (hr.mono (by decide)) (by rfl) m_law_taken F_law_taken.kp b_law_taken .nil pass0) (by with_unfolding_all rfl))))) (pss_one (ps_ret pe_bl)) pss_nil)
      (pss_one (ps_ret (pe_callB (cr_allK K rfl rfl) (by rfl) T.m_all (by decide +kernel) (pa_cons (pe_lc (own := [("_law_sign", 1)]) (g := gName 1) (tt := tYes) (by rfl) sc_law_is_name.nd (pi_str (pv 0)) (blkOk_by (own := [("_law_sign", 1)]) (N := N_law_is_name) (sc := defScope s_law_is_name) (by decide +kernel)) (fun _ _ _ _ _ => (pg_name (i := 1) sc_law_is_name.nd rfl (Or.inl rfl))) (fun _ _ _ _ _ => pts_nil) (fun _ _ _ _ _ => (pe_cmpR op_in_sign (pv 1) pe_str (by with_unfolding_all rfl)))) pa_nil))))), ?_⟩
  refine ⟨_, rfl, _, rfl, sl, _, _, rfl, rfl, _, rfl, if_bl (fun c1 => ?_) (fun c1 => ?_)⟩
  · have c1 := of_decide_eq_true c1
    refine ⟨_, _, rfl, rfl, _, rfl, if_bl (fun c2 => ?_) (fun c2 => ?_)⟩
    · have c2 : ¬ ((a.length : Nat) : Int) < 7 := by simpa using c2
      have q := q H (fun _ _ e => e)
      rw [if_pos (.inr (by omega))] at q
      exact q
    · have c2 : ((a.length : Nat) : Int) < 7 := by simpa using c2
      rw [if_neg (by omega)] at q
      refine ⟨_, rfl, rfl, fun p H1 np hp s1 => ⟨p, _, rfl, .inl (SqL.of hp), rfl, rfl, _, rfl, ?_⟩⟩
      rw [if_neg (Bool.false_ne_true)]
      show (if inV (.str a) takV = true then _ else _)
      cases c3 : inV (.str a) takV with
      | true =>
        rw [c3] at q
        exact q H1 s1
      | false =>
        rw [c3] at q
        refine ⟨_, rfl, a, rfl, fun D nD => lc_it (n := a.cps.size) (fun i H5 => H5 D = some (.lst (((a.cps.toList.take i).map fun c => decide (c ∈ letS.cps.toList)).map V.bl)) ∧ Same H1 H5) ⟨upd_same, same_new nD⟩ (fun i H5 hi _ => hi) (fun H5 _ => Nat.le_refl _) ?_ ?_⟩
        · rintro i v H5 H6 hi ⟨hD, s5⟩ ⟨rfl, cc, ec, rfl⟩
          refine ⟨rfl, yes_in ⟨_, rfl, cc, _, rfl, rfl, _, hD, ?_, ?_, Same.own s5 nD⟩⟩
          · have : a.cps.toList.length = a.length := Array.length_toList
            rw [List.length_map, List.length_map, List.length_take]; exact small1000 (by omega)
          · rw [upd_same, List.take_add_one, Array.getElem?_toList, ec, List.map_append, List.map_append]
            rfl
        · rintro H5 ⟨hD, s5⟩
          rw [show a.cps.size = a.cps.toList.length from Array.length_toList.symm, List.take_length] at hD
          refine ⟨D, _, rfl, SqL.of hD, ?_⟩
          rw [List.all_map]
          exact q H5 (fun _ _ e => s5 _ _ (s1 _ _ e))
  · have c1 := of_decide_eq_false c1
    have q := q H (fun _ _ e => e)
    rw [if_pos (.inl (by omega))] at q
    exact ⟨_, rfl, q⟩
theorem occ_fig {c : Nat} (h : 48 ≤ c ∧ c ≤ 57) : Builtin.Str.occurrences "0123456789" ⟨#[c]⟩ 0 (Str.length "0123456789") 1 = [c - 48] := by
  have : c = 48 ∨ c = 49 ∨ c = 50 ∨ c = 51 ∨ c = 52 ∨ c = 53 ∨ c = 54 ∨ c = 55 ∨ c = 56 ∨ c = 57 := by omega
  rcases this with rfl | rfl | rfl | rfl | rfl | rfl | rfl | rfl | rfl | rfl <;> decide +kernel
theorem eq_one {c k : Nat} {z : Str} (e : z = ⟨#[k]⟩) : decide (V.str ⟨#[c]⟩ = V.str z) = decide (c = k) := by
  rw [e]
  by_cases h : c = k
  · rw [h, decide_eq_true rfl, decide_eq_true rfl]
  · rw [decide_eq_false h, decide_eq_false]
    intro w
    have w := V.str.inj w
    injection w with w
    exact h (List.cons.inj (congrArg Array.toList w)).1
theorem inV_false {l : List Bool} : inV (.bl false) (l.map V.bl) = !(l.all id) := by
  induction l with
  | nil => rfl
  | cons b r ih =>
    unfold inV at ih ⊢
    rw [List.map_cons, List.any_cons, ih, List.all_cons]
    cases b <;> rfl
theorem digVal_le : ∀ (k : Nat) (l : List Nat), (∀ c ∈ l, c ≤ 57) → l.length ≤ k → digitsVal l < 10 ^ k := by
  intro k
  induction k with
  | zero =>
    intro l _ h
    have : l = [] := List.length_eq_zero_iff.mp (by omega)
    subst this
    decide
  | succ k ih =>
    intro l h hl
    rcases List.eq_nil_or_concat l with rfl | ⟨r, c, rfl⟩
    · show 0 < _
      exact Nat.pow_pos (by decide)
    · have e : r.concat c = r ++ [c] := List.concat_eq_append ..
      rw [e] at h hl ⊢
      rw [List.length_append] at hl
      have a := ih r (fun d hd => h d (List.mem_append.mpr (.inl hd))) (by simp at hl; omega)
      have b := h c (List.mem_append.mpr (.inr (List.mem_singleton.mpr rfl)))
      rw [digitsVal_snoc, Nat.pow_succ]
      omega
def sp_law_number (K : PySem.W.Frag) : Sp := fun vs H Q _ => ∃ a : Str, vs = [.str a] ∧ a.length ≤ 8000000 ∧ ∀ H', Same H H' → Q (numV (numO a.cps.toList)) H'
theorem ok_law_number {f : Addr} {fd : FuncData} (F : Fun K "_law_number" "_law_number" s_law_number f fd) {C : Addr} (T : Top w K mg C) : FnOk P w K mg base CX0 1 f fd ["_law_text_here"] (sp_law_number K) := by
  refine F.ok sc_law_number (fun vs H Q E h => ?_) (fun cdv A outer s H vs Q E hr h => ?_)
  · obtain ⟨a, rfl, _⟩ := h
    rfl
  obtain ⟨a, rfl, la, q⟩ := h
  have sl : a.length ≤ sizeLine := Nat.le_trans (show _ ≤ 8000000 by omega) (by decide)
  let R1 : TS := fun D' σ' H' => D'.rt = Q ∧ ∃ b : Str, σ' = [some (.str a), some (.str b), none, none] ∧ b.cps.toList = figL a.cps.toList ∧ H' = H
  let R2 : TS := fun D' σ' H' => D'.rt = Q ∧ ∃ b : Str, σ' = [some (.str a), some (.str b), none, none] ∧ b.cps.toList = figL a.cps.toList ∧ AllDigits b.cps.toList ∧ b.cps.toList ≠ [] ∧ b.cps.toList.length ≤ 9 ∧ Same H H' ∧
    Q (numV (some ((if a.cps.toList.head? = some 45 then -1 else 1) * ((digitsVal b.cps.toList : Nat) : Int)))) H'
  refine ⟨_, (pss_cons (ps_set (i := 1) sc_law_number.nd rfl (Or.inl rfl) (pv 0))
      (pss_cons (ps_if (pt_cmpR op_eq (pe_slice sl_str (pv 0) po_none (po_some pe_int)) pe_str (nomark _)) (pss_one (ps_set (i := 1) sc_law_number.nd rfl (Or.inl rfl) (pe_slice sl_str (pv 0) (po_some pe_int) po_none))) pss_nil)
      (PSs.to (pss_cons (ps_if (PW.pt (pw_or (pt_cmpR op_eq (pv 1) pe_str (nomark _)) (pw_or1 (pt_cmpR op_gt (pe_callB call_len_str (by rfl) T.m_len (by decide +kernel) (pa_cons (pv 1) pa_nil)) pe_int (nomark _))))) (pss_one (ps_ret pe_non)) pss_nil)
      (pss_cons (ps_if (pt_cmpR (op_in_seqK K rfl) pe_bl (pe_lc (own := [("_law_sign", 2)]) (g := gName 2) (tt := tYes) (by rfl) sc_law_number.nd (pi_str (pv 1)) (blkOk_by (own := [("_law_sign", 2)]) (N := N_law_number) (sc := defScope s_law_number) (by decide +kernel)) (fun _ _ _ _ _ => (pg_name (i := 2) sc_law_number.nd rfl (Or.inl rfl))) (fun _ _ _ _ _ => pts_nil) (fun _ _ _ _ _ => (pe_cmpR op_in_sign (pv 2) pe_str (by with_unfolding_all rfl)))) (by with_unfolding_all rfl)) (pss_one (ps_ret pe_non)) pss_nil)
      (pss_cons (ps_if (PW.pt (pw_and (pt_cmpR op_eq (pe_ix ix_str (pv 1) pe_int (fun _ _ => rfl)) pe_str (nomark _)) (pw_and1 (pt_cmpR op_ne (pv 0) pe_str (nomark _))))) (pss_one (ps_ret pe_non)) pss_nil)
      (PSs.to (pss_cons (ps_set (i := 3) sc_law_number.nd rfl (Or.inl rfl) pe_int)
      (pss_cons (ps_for PassesOwn.never rfl (pi_str (pv 1)) (pg_name (i := 2) sc_law_number.nd rfl (Or.inl rfl))
        (pss_one (ps_set (i := 3) sc_law_number.nd rfl (Or.inl rfl) (pe_op op_add (pe_op op_mul (pv 3) pe_int) (pe_bmK K rfl PySem.F.plainAttrs_str PySem.F.slot_str_index PySem.F.type_str_index mt_sindex pe_str (pa_cons (pv 2) pa_nil))))))
      (pss_one (ps_ret (pe_op op_mul (pv 3) (pe_op op_sub pe_int (pe_op op_mul pe_int (pe_callTy call_int1 (by rfl) T.m_int (by decide +kernel) (pa_cons (pe_cmpR op_eq (pe_ix ix_str (pv 0) pe_int (fun _ _ => rfl)) pe_str (nomark _)) pa_nil))))))))) R2 ?tail2)))) R1 ?tail1))), ?_⟩
  case tail1 =>
    rintro D' σ' H1 ⟨eD, b, rfl, eb, rfl⟩
    have lb : b.cps.toList.length = b.length := Array.length_toList
    have la2 : a.cps.toList.length = a.length := Array.length_toList
    have lf : (figL a.cps.toList).length ≤ a.cps.toList.length := by
      unfold figL
      split
      · rw [List.length_tail]; omega
      · exact Nat.le_refl _
    have lb2 : b.cps.toList.length = (figL a.cps.toList).length := by rw [eb]
    have sb : b.length ≤ sizeLine := Nat.le_trans (show _ ≤ 8000000 by omega) (by decide)
    have e0 : ("" : Str) = ⟨#[]⟩ := by decide +kernel
    unfold numO at q
    refine ⟨_, rfl, rfl, _, rfl, if_bl (fun c1 => ?_) (fun c1 => ?_)⟩
    · have c1 := V.str.inj (of_decide_eq_true c1)
      have q := q H1 (fun _ _ e => e)
      rw [if_pos (.inl (by rw [← eb, c1, e0]; decide))] at q
      show D'.rt .non H1
      rw [eD]
      exact q
    have c1 : b ≠ "" := fun z => of_decide_eq_false c1 (congrArg V.str z)
    refine ⟨_, rfl, _, rfl, sb, _, _, rfl, rfl, _, rfl, if_bl (fun c2 => ?_) (fun c2 => ?_)⟩
    · have c2 := of_decide_eq_true c2
      have q := q H1 (fun _ _ e => e)
      rw [if_pos (.inr (by omega))] at q
      show D'.rt .non H1
      rw [eD]
      exact q
    have c2 := of_decide_eq_false c2
    have ne : b.cps.toList ≠ [] := fun z => c1 (str_inj (by rw [z, e0]))
    have n1 : ¬ ((figL a.cps.toList).length < 1 ∨ 9 < (figL a.cps.toList).length) := by
      have := List.length_pos_iff.mpr ne
      omega
    rw [if_neg n1, ← eb] at q
    refine ⟨_, rfl, b, rfl, fun D nD => lc_it (n := b.cps.size) (fun i H5 => H5 D = some (.lst (((b.cps.toList.take i).map isFig).map V.bl)) ∧ Same H1 H5) ⟨upd_same, same_new nD⟩ (fun i H5 hi _ => hi) (fun H5 _ => Nat.le_refl _) ?_ ?_⟩
    · rintro i v H5 H6 hi ⟨hD, s5⟩ ⟨rfl, cc, ec, rfl⟩
      refine ⟨rfl, yes_in ⟨_, rfl, cc, _, rfl, rfl, _, hD, ?_, ?_, Same.own s5 nD⟩⟩
      · rw [List.length_map, List.length_map, List.length_take]; exact small1000 (by omega)
      · rw [upd_same, List.take_add_one, Array.getElem?_toList, ec, List.map_append, List.map_append]
        rfl
    · rintro H5 ⟨hD, s5⟩
      rw [show b.cps.size = b.cps.toList.length from Array.length_toList.symm, List.take_length] at hD
      refine ⟨D, _, rfl, .inl (SqL.of hD), rfl, by rw [List.all_map, List.all_map]; exact List.all_eq_true.mpr fun _ _ => rfl, _, rfl, ?_⟩
      rw [if_neg Bool.false_ne_true, inV_false, List.all_map]
      show (if (!(b.cps.toList.all isFig)) = true then _ else _)
      have q := q H5 s5
      cases c3 : b.cps.toList.all isFig with
      | false =>
        rw [if_pos c3] at q
        show D'.rt .non H5
        rw [eD]
        exact q
      | true =>
        rw [if_neg (by rw [c3]; exact Bool.noConfusion)] at q
        have fg := fig_digits c3
        obtain ⟨c0, r0, ec⟩ : ∃ c0 r0, b.cps.toList = c0 :: r0 := by
          cases hl : b.cps.toList with
          | nil => exact absurd hl ne
          | cons c r => exact ⟨c, r, rfl⟩
        have at0 : atI b.cps.toList ((0 : Nat) : Int) = some c0 := atI_nat (by rw [ec]; rfl)
        have e48 : ("0" : Str) = ⟨#[48]⟩ := by decide +kernel
        have d2 : (!decide (V.str a = V.str "0")) = decide (a.cps.toList ≠ [48]) := by
          rw [e48]
          by_cases h : a.cps.toList = [48]
          · rw [decide_eq_false (fun z : a.cps.toList ≠ [48] => z h), decide_eq_true (congrArg V.str (str_inj (b := ⟨#[48]⟩) h))]; rfl
          · rw [decide_eq_true h, decide_eq_false (fun z => h (by rw [V.str.inj z]))]; rfl
        have go : ¬ (b.cps.toList.head? = some 48 ∧ a.cps.toList ≠ [48]) → R2 D' [some (.str a), some (.str b), none, none] H5 := fun n => by
          rw [if_neg n] at q
          exact ⟨eD, b, rfl, eb, fg, ne, by omega, s5, q⟩
        refine ⟨_, rfl, _, _, c0, rfl, rfl, sb, at0, rfl, _, rfl, ?_⟩
        rw [eq_one e48]
        refine if_bl (fun c4 => ?_) (fun c4 => ?_)
        · have c4 := of_decide_eq_true c4
          refine ⟨_, rfl, rfl, _, rfl, ?_⟩
          rw [d2]
          refine if_bl (fun c5 => ?_) (fun c5 => ?_)
          · have c5 := of_decide_eq_true c5
            rw [if_pos ⟨by rw [ec, c4]; rfl, c5⟩] at q
            show D'.rt .non H5
            rw [eD]
            exact q
          · exact go fun z => of_decide_eq_false c5 z.2
        · exact go fun z => of_decide_eq_false c4 (by rw [ec] at z; exact Option.some.inj z.1)
  case tail2 =>
    rintro D' σ' H1 ⟨eD, b, rfl, eb, fg, ne, l9, s1, q1⟩
    have an : a.cps.toList ≠ [] := fun z => ne (by rw [eb, z]; rfl)
    obtain ⟨c0, r0, ea⟩ : ∃ c0 r0, a.cps.toList = c0 :: r0 := by
      cases hl : a.cps.toList with
      | nil => exact absurd hl an
      | cons c r => exact ⟨c, r, rfl⟩
    have at0 : atI a.cps.toList ((0 : Nat) : Int) = some c0 := atI_nat (by rw [ea]; rfl)
    have e45 : ("-" : Str) = ⟨#[45]⟩ := by decide +kernel
    refine ⟨_, rfl, b, rfl, for_it (n := b.cps.size) (fun i σ H5 => H5 = H1 ∧ ∃ x, σ = [some (.str a), some (.str b), x, some (.int ((digitsVal (b.cps.toList.take i) : Nat) : Int))]) ⟨rfl, _, rfl⟩ (fun i _ _ hi _ => hi) (fun _ _ _ => Nat.le_refl _) ?_ ?_⟩
    · rintro i v σ H5 H6 hi ⟨rfl, x, rfl⟩ ⟨rfl, cc, ec, rfl⟩
      have ec2 : b.cps.toList[i]? = some cc := by rw [Array.getElem?_toList]; exact ec
      have hc := fg cc (List.mem_of_getElem? ec2)
      refine ⟨_, rfl, _, _, rfl, rfl, .inr ⟨by decide, by decide⟩, rfl, _, rfl, _, _, cc - 48, [], rfl, rfl, occ_fig hc, _, _, rfl, rfl, rfl, some (.str ⟨#[cc]⟩), ?_⟩
      rw [List.take_add_one, ec2]
      show _ = [some (V.str a), some (V.str b), some (V.str ⟨#[cc]⟩), some (V.int ((digitsVal (b.cps.toList.take i ++ [cc]) : Nat) : Int))]
      rw [digitsVal_snoc]
      show [some (V.str a), some (V.str b), some (V.str ⟨#[cc]⟩), some (V.int (_ * 10 + ((cc - 48 : Nat) : Int)))] = _
      congr 4
    · rintro σ H5 ⟨rfl, x, rfl⟩
      rw [show b.cps.size = b.cps.toList.length from Array.length_toList.symm, List.take_length]
      have small := digVal_le 9 b.cps.toList (fun c hc => (fg c hc).2) l9
      refine ⟨_, rfl, _, rfl, a, _, c0, rfl, rfl, sl, at0, rfl, .inr ⟨_, rfl, _, _, rfl, rfl, .inl ⟨by decide, by decide⟩, _, _, rfl, rfl, _, _, rfl, rfl, .inl ⟨by omega, by omega⟩, ?_⟩⟩
      rw [eq_one e45]
      show D'.rt _ H5
      rw [eD]
      have ev : ((digitsVal b.cps.toList : Nat) : Int) * (1 - 2 * (if decide (c0 = 45) = true then 1 else 0)) = (if a.cps.toList.head? = some 45 then -1 else 1) * ((digitsVal b.cps.toList : Nat) : Int) := by
        rw [ea]
        by_cases h : c0 = 45
        · rw [decide_eq_true h, if_pos rfl, if_pos (show (c0 :: r0).head? = some 45 by rw [h]; rfl)]
          omega
        · rw [decide_eq_false h, if_neg Bool.false_ne_true, if_neg (show ¬ (c0 :: r0).head? = some 45 from fun z => h (Option.some.inj z))]
          omega
      have q2 : Q (V.int ((if a.cps.toList.head? = some 45 then -1 else 1) * ((digitsVal b.cps.toList : Nat) : Int))) H5 := q1
      rw [← ev] at q2
      exact q2
  refine ⟨_, rfl, _, rfl, _, rfl, a, rfl, sl, rfl, _, rfl, ?_⟩
  rw [cut_head]
  refine if_bl (fun c1 => ?_) (fun c1 => ?_)
  · have c1 := of_decide_eq_true c1
    refine ⟨_, rfl, _, rfl, a, rfl, sl, rfl, _, rfl, ?_, rfl⟩
    rw [cut_tail]
    exact (if_pos c1).symm
  · exact ⟨rfl, a, rfl, (if_neg (of_decide_eq_false c1)).symm, rfl⟩
end
/-! ### what is left are last words -/
def Suf (r u : List Str) : Prop := ∃ j, r = u.drop j
theorem Suf.refl (u : List Str) : Suf u u := ⟨0, rfl⟩
theorem Suf.tail (u : List Str) : Suf u.tail u := ⟨1, List.drop_one.symm⟩
theorem Suf.trans {a b c : List Str} (h : Suf a b) (g : Suf b c) : Suf a c := by
  obtain ⟨i, rfl⟩ := h
  obtain ⟨j, rfl⟩ := g
  exact ⟨j + i, List.drop_drop⟩
theorem Suf.tl {a b : List Str} (h : Suf a b) : Suf a.tail b := (Suf.tail a).trans h
def SufE (e : List Str → PR) : Prop := ∀ u t r, e u = some (t, r) → Suf r u
theorem pAgo_suf {u r : List Str} {k : Nat} (h : pAgo u = some (k, r)) : Suf r u := by
  unfold pAgo at h
  split at h
  · split at h
    · split at h
      · cases h
      · obtain ⟨_, rfl⟩ := Prod.mk.inj (Option.some.inj h)
        exact (Suf.tail _).trans (Suf.tail _)
    · cases h
  · obtain ⟨_, rfl⟩ := Prod.mk.inj (Option.some.inj h)
    exact Suf.refl _
theorem pBr_suf {e : List Str → PR} (l : SufE e) : SufE (pBr e) := fun u t r h => by
  unfold pBr at h
  split at h
  · rename_i t1 r1 e1
    split at h
    · obtain ⟨rfl, rfl⟩ := Prod.mk.inj (Option.some.inj h)
      exact ((l _ _ _ e1).trans (Suf.tail u)).tl
    · cases h
  · cases h
theorem pTwo_suf {e : List Str → PR} (l : SufE e) : SufE (pTwo e) := fun u t r h => by
  unfold pTwo at h
  split at h
  · split at h
    · rename_i a r1 e1
      have s1 := ((l _ _ _ e1).trans (Suf.tail u.tail)).trans (Suf.tail u)
      split at h
      · split at h
        · rename_i b r2 e2
          have s2 := (l _ _ _ e2).trans s1.tl
          split at h
          · obtain ⟨rfl, rfl⟩ := Prod.mk.inj (Option.some.inj h)
            exact s2.tl
          · cases h
        · cases h
      · cases h
    · cases h
  · cases h
theorem pP_suf {e : List Str → PR} (l : SufE e) : SufE (pP e) := fun u t r h => by
  unfold pP at h
  split at h
  · exact pBr_suf l u t r h
  · split at h
    · exact pTwo_suf l u t r h
    · split at h
      · obtain ⟨rfl, rfl⟩ := Prod.mk.inj (Option.some.inj h)
        exact Suf.tail u
      · split at h
        · split at h
          · rename_i k r1 e1
            obtain ⟨rfl, rfl⟩ := Prod.mk.inj (Option.some.inj h)
            exact (pAgo_suf e1).trans (Suf.tail u)
          · cases h
        · cases h
theorem pT_suf {e : List Str → PR} (l : SufE e) : SufE (pT e) := fun u t r h => by
  unfold pT at h
  split at h
  · rename_i t1 r1 e1
    have s1 := pP_suf l _ _ _ e1
    split at h
    · split at h
      · split at h
        · rename_i t2 r2 e2
          obtain ⟨rfl, rfl⟩ := Prod.mk.inj (Option.some.inj h)
          exact (pP_suf l _ _ _ e2).trans s1.tl
        · cases h
      · obtain ⟨rfl, rfl⟩ := Prod.mk.inj (Option.some.inj h)
        exact s1
    · obtain ⟨rfl, rfl⟩ := Prod.mk.inj (Option.some.inj h)
      exact s1
  · cases h
theorem chn_suf {e : List Str → PR} (l : SufE e) : ∀ n t0 u t r, chn e n t0 u = some (t, r) → Suf r u
  | 0, t0, u, t, r, h => by
    obtain ⟨rfl, rfl⟩ := Prod.mk.inj (Option.some.inj h)
    exact Suf.refl _
  | n + 1, t0, u, t, r, h => by
    unfold chn at h
    split at h
    · split at h
      · rename_i t2 r2 e2
        exact (chn_suf l n _ _ _ _ h).trans ((pT_suf l _ _ _ e2).trans (Suf.tail u))
      · cases h
    · obtain ⟨rfl, rfl⟩ := Prod.mk.inj (Option.some.inj h)
      exact Suf.refl _
theorem pS_suf {e : List Str → PR} (l : SufE e) : SufE (pS e) := fun u t r h => by
  unfold pS at h
  split at h
  · rename_i t1 r1 e1
    exact (chn_suf l _ _ _ _ _ h).trans (pT_suf l _ _ _ e1)
  · cases h
theorem pIf_suf {e : List Str → PR} (l : SufE e) : SufE (pIf e) := fun u t r h => by
  unfold pIf at h
  split at h
  · rename_i a r1 e1
    have s1 := (l _ _ _ e1).trans (Suf.tail u)
    split at h
    · split at h
      · rename_i b r2 e2
        have s2 := (l _ _ _ e2).trans s1.tl
        split at h
        · split at h
          · rename_i c r3 e3
            have s3 := (l _ _ _ e3).trans s2.tl
            obtain ⟨rfl, rfl⟩ := Prod.mk.inj (Option.some.inj h)
            exact s3
          · cases h
        · cases h
      · cases h
    · cases h
  · cases h
theorem pE1_suf {e : List Str → PR} (l : SufE e) : SufE (pE1 e) := fun u t r h => by
  unfold pE1 at h
  split at h
  · exact pIf_suf l u t r h
  · split at h
    · rename_i a r1 e1
      have s1 := pS_suf l _ _ _ e1
      split at h
      · split at h
        · rename_i b r2 e2
          obtain ⟨rfl, rfl⟩ := Prod.mk.inj (Option.some.inj h)
          exact (pS_suf l _ _ _ e2).trans s1.tl
        · cases h
      · obtain ⟨rfl, rfl⟩ := Prod.mk.inj (Option.some.inj h)
        exact s1
    · cases h
theorem pE_suf : ∀ n, SufE (pE n)
  | 0 => fun _ _ _ h => nomatch h
  | n + 1 => pE1_suf (pE_suf n)
theorem pT_eq (e : List Str → PR) (u : List Str) : pT e u = (match numO (u.headD "").cps.toList with
    | some k => if u.tail.headD "" = "*" then (match pP e u.tail.tail with
      | some (t2, r2) => some (.tm k t2, r2)
      | none => none) else pP e u
    | none => pP e u) := by
  cases h : numO (u.headD "").cps.toList with
  | some k =>
    have ep := pP_num (e := e) h
    unfold pT
    rw [ep, h] <;> rfl
  | none =>
    unfold pT
    rw [h]
    cases pP e u <;> rfl
/-! ### lists of words compared -/
def WS (u : List Str) : Prop := ∀ z ∈ u, z.length ≤ 8000000 ∧ PyData.strOk z = true
theorem WS.suf {r u : List Str} (h : WS u) (s : Suf r u) : WS r := by
  obtain ⟨j, rfl⟩ := s
  exact fun z hz => h z (List.mem_of_mem_drop hz)
theorem WS.hd {u : List Str} (h : WS u) : (u.headD "").length ≤ 8000000 := by
  cases u with
  | nil => decide
  | cons z r => exact (h z (List.mem_cons_self ..)).1
theorem strs_eqvA : ∀ a b : List Str, PyData.eqvAll (a.map PyData.str) (b.map PyData.str) = decide (a = b)
  | [], [] => rfl
  | [], _ :: _ => rfl
  | _ :: _, [] => rfl
  | x :: a, y :: b => by
    have ih := strs_eqvA a b
    rw [List.map_cons, List.map_cons]
    simp only [PyData.eqvAll, PyData.eqv, ih]
    by_cases c : x = y
    · subst c
      by_cases d : a = b
      · subst d; simp
      · simp [d]
    · simp [c]
theorem strs_eqv (a b : List Str) : PyData.eqv (.list (a.map PyData.str)) (.list (b.map PyData.str)) = decide (a = b) := by
  rw [← strs_eqvA]
  simp only [PyData.eqv]
theorem strs_layA : ∀ {a : List Str}, (∀ z ∈ a, PyData.strOk z = true) → PyData.canLayAll0 (a.map PyData.str) = true
  | [], _ => rfl
  | x :: a, h => by
    have ih := strs_layA (a := a) fun z hz => h z (List.mem_cons_of_mem _ hz)
    rw [List.map_cons]
    simp [PyData.canLayAll0, PyData.canLay0, ih, h x (List.mem_cons_self ..)]
theorem strs_depA : ∀ a : List Str, PyData.depthAll (a.map PyData.str) = 0
  | [] => rfl
  | x :: a => by
    rw [List.map_cons]
    simp [PyData.depthAll, PyData.depth, strs_depA a]
theorem strs_sh {a : List Str} (h : ∀ z ∈ a, PyData.strOk z = true) : SeqAt.shaped (.list (a.map PyData.str)) = true := by
  unfold SeqAt.shaped
  have e : (PyData.list (a.map PyData.str)).canLay0 = true := by simp [PyData.canLay0, strs_layA h]
  have d : (PyData.list (a.map PyData.str)).depth = 1 := by simp [PyData.depth, strs_depA a]
  rw [e, d]
  rfl
theorem take1_eq {u : List Str} {z : Str} (h : z ≠ "") : decide (u.take 1 = [z]) = decide (u.headD "" = z) := by
  cases u with
  | nil =>
    have a : ¬ ([] : List Str).take 1 = [z] := fun e => by cases e
    have b : ¬ ([] : List Str).headD "" = z := fun e => h e.symm
    rw [decide_eq_false a, decide_eq_false b]
  | cons x r =>
    by_cases c : x = z
    · have a : (x :: r).take 1 = [z] := by rw [c]; rfl
      have b : (x :: r).headD "" = z := c
      rw [decide_eq_true a, decide_eq_true b]
    · have b : ¬ (x :: r).headD "" = z := c
      have a : ¬ (x :: r).take 1 = [z] := fun e => c (List.cons.inj (show [x] = [z] from e)).1
      rw [decide_eq_false a, decide_eq_false b]
/-! ### the law's own reader of trees -/
section
variable {P : Program} {w : World} {K : PySem.W.Frag} {mg : Str → Option Value} {base : Heap}
theorem TK.ofBut {L : Addr} {H H' : Hp} {xs : List V} (b : But L H H') (h : H L = some (.lst xs)) : TK H H' := fun x ys e => b _ _ e (ne_of e h (fun z => nomatch z))
theorem But.newU {f p : Addr} {H H1 : Hp} {o : HO} (a : But f H H1) (h : H1 p = Option.none) : But f H (L2.upd H1 p o) := a.new h
theorem dstr (a b : Str) : decide (V.str a = V.str b) = decide (a = b) := by
  by_cases c : a = b
  · rw [c, decide_eq_true rfl, decide_eq_true rfl]
  · rw [decide_eq_false c, decide_eq_false fun z => c (V.str.inj z)]
/-- the words at L are none but these -/
theorem eq_words {H : Hp} {L p : Addr} {us bs : List Str} {Q : VK} (h1 : H L = some (.lst (us.map V.str))) (h2 : H p = some (.lst (bs.map V.str))) (w1 : ∀ z ∈ us, PyData.strOk z = true) (w2 : ∀ z ∈ bs, PyData.strOk z = true) (q : Q (.bl (decide (us = bs))) H) : rEqD K (.ref L) (.ref p) H Q :=
  ⟨_, _, .lst (SqL.of h1) (dp_strs _), .lst (SqL.of h2) (dp_strs _), strs_sh w1, strs_sh w2, by rw [strs_eqv]; exact q⟩
theorem ne_words {H : Hp} {L p : Addr} {us bs : List Str} {Q : VK} (h1 : H L = some (.lst (us.map V.str))) (h2 : H p = some (.lst (bs.map V.str))) (w1 : ∀ z ∈ us, PyData.strOk z = true) (w2 : ∀ z ∈ bs, PyData.strOk z = true) (q : Q (.bl (!decide (us = bs))) H) : rNeD K (.ref L) (.ref p) H Q :=
  ⟨_, _, .lst (SqL.of h1) (dp_strs _), .lst (SqL.of h2) (dp_strs _), strs_sh w1, strs_sh w2, by rw [strs_eqv]; exact q⟩
theorem cut1 (us : List Str) : cutV (us.map V.str) none (some 1) = (us.take 1).map V.str := by
  rw [show (1 : Int) = ((1 : Nat) : Int) from rfl, cut_take, List.map_take]
def sp_law_gone (K : PySem.W.Frag) : Sp := fun vs H Q _ => ∃ (L : Addr) (u : List Str), vs = [.ref L] ∧ H L = some (.lst (u.map V.str)) ∧ WS u ∧ ∀ H', H' L = some (.lst (u.tail.map V.str)) → But L H H' → Q (.str (u.headD "")) H'
theorem ok_law_gone {f : Addr} {fd : FuncData} (F : Fun K "_law_gone" "_law_gone" s_law_gone f fd) {C : Addr} (T : Top w K mg C) : FnOk P w K mg base CX0 1 f fd ["_law_words"] (sp_law_gone K) := by
  refine F.ok sc_law_gone (fun vs H Q E h => ?_) (fun cdv A outer s H vs Q E hr h => ?_)
  · obtain ⟨L, u, rfl, _⟩ := h
    rfl
  obtain ⟨L, u, rfl, hL, wu, q⟩ := h
  refine ⟨_, (pss_cons (ps_if (pt_cmpR (op_eqDK K rfl hr.units) (pv 0) (pe_lst pa_nil) (nomark _)) (pss_one (ps_ret pe_str)) pss_nil)
      (pss_one (ps_ret (pe_bmK K rfl PySem.F.plainAttrs_list PySem.F.slot_list_pop PySem.F.type_list_pop mt_popAt (pv 0) (pa_cons pe_int pa_nil))))), ?_⟩
  refine ⟨_, rfl, (by show 0 ≤ sizeLine; decide), fun p np => ?_⟩
  have s1 : Same H (upd H p (.lst [])) := same_new np
  have hp : (upd H p (.lst [])) p = some (.lst (([] : List Str).map V.str)) := upd_same
  have b1 : But L H (upd H p (.lst [])) := But.of s1
  generalize upd H p (.lst []) = H1 at s1 hp b1 ⊢
  have hL1 := s1 _ _ hL
  refine eq_words (K := K) hL1 hp (fun z hz => (wu z hz).2) (fun _ h => nomatch h) ?_
  refine ⟨_, rfl, ?_⟩
  cases u with
  | nil => exact if_bl (fun _ => q H1 hL1 b1) (fun z => nomatch z)
  | cons z r =>
    refine if_bl (fun c => absurd (of_decide_eq_true c) (fun z => nomatch z)) (fun _ => ?_)
    refine ⟨_, rfl, .inl ⟨rfl, _, SqL.of hL1⟩, L, _, 0, 0, .str z, rfl, rfl, hL1, by decide, by decide, by simp [seqIndex?], rfl, ?_⟩
    exact q _ (by rw [upd_same]; rfl) (b1.trans But.refl.upd)
def sp_law_seen (K : PySem.W.Frag) : Sp := fun vs H Q _ => ∃ (v : V) (L : Addr) (z : Str), vs = [v, .ref L, .str z] ∧ ((v = .non ∧ Q (.bl false) H) ∨ ∃ (a : Addr) (u : List Str), v = .ref a ∧ H L = some (.lst (u.map V.str)) ∧ WS u ∧ ∀ H', H' L = some (.lst (u.tail.map V.str)) → But L H H' → Q (.bl (decide (u.headD "" = z))) H')
theorem ok_law_seen {f : Addr} {fd : FuncData} (F : Fun K "_law_seen" "_law_seen" s_law_seen f fd) {C : Addr} (T : Top w K mg C) : FnOk P w K mg base CX0 2 f fd ["_law_tree_here", "_law_words", "_law_sign"] (sp_law_seen K) := by
  obtain ⟨f_law_gone, fd_law_gone, F_law_gone, b_law_gone, m_law_gone⟩ := T.d_law_gone
  have G_law_gone := ok_law_gone (P := P) (w := w) (base := base) F_law_gone T
  refine F.ok sc_law_seen (fun vs H Q E h => ?_) (fun cdv A outer s H vs Q E hr h => ?_)
  · obtain ⟨v, L, z, rfl, _⟩ := h
    rfl
  obtain ⟨v, L, z, rfl, h⟩ := h
  refine ⟨_, (pss_one (ps_ret (pe_and (pe_cmpR op_notN (pv 0) pe_non (nomark _)) (pe_one (pe_cmpR op_eq (pe_call G_law_gone (hr.mono (by decide)) (by rfl) m_law_gone F_law_gone.kp b_law_gone .nil pass0 (pa_cons (pv 1) pa_nil)) (pv 2) (nomark _)))))), ?_⟩
  rcases h with ⟨rfl, q⟩ | ⟨a, u, rfl, hL, wu, q⟩
  · exact ⟨_, rfl, rfl, _, rfl, q⟩
  · refine ⟨_, rfl, rfl, _, rfl, _, rfl, L, u, rfl, hL, wu, fun H' h1 b1 => ⟨_, rfl, rfl, by show Q (V.bl (decide (V.str (u.headD "") = V.str z))) H'; rw [dstr]; exact q H' h1 b1⟩⟩
/-- what a reader of trees tells, and leaves -/
def ToldL (p : List Str → PR) (L : Addr) (u : List Str) (v : V) (H' : Hp) : Prop := match p u with
  | some (t, r) => TrAt H' v t ∧ H' L = some (.lst (r.map V.str))
  | none => v = .non
def spL (p : List Str → PR) (n : Nat) : Sp := fun vs H Q _ => ∃ (L : Addr) (u : List Str), vs = [.ref L] ∧ H L = some (.lst (u.map V.str)) ∧ WS u ∧ u.length < n ∧ n ≤ 1000 ∧ ∀ (v : V) (H' : Hp), But L H H' → ToldL p L u v H' → Q v H'
abbrev FnL (P : Program) (w : World) (K : PySem.W.Frag) (mg : Str → Option Value) (base : Heap) (x : Str) (st : Stmt) (j : Nat) (sp : Sp) : Prop := ∀ (f : Addr) (fd : FuncData), Fun K x x st f fd → FnOk P w K mg base CX0 j f fd ["_law_words"] sp
theorem told_some {p : List Str → PR} {L : Addr} {u r : List Str} {t : Tr} {v : V} {H' : Hp} (e : p u = some (t, r)) (h : ToldL p L u v H') : TrAt H' v t ∧ H' L = some (.lst (r.map V.str)) := by
  unfold ToldL at h
  rw [e] at h
  exact h
theorem told_none {p : List Str → PR} {L : Addr} {u : List Str} {v : V} {H' : Hp} (e : p u = none) (h : ToldL p L u v H') : v = .non := by
  unfold ToldL at h
  rw [e] at h
  exact h
theorem mk_some {p : List Str → PR} {L : Addr} {u r : List Str} {t : Tr} {v : V} {H' : Hp} (e : p u = some (t, r)) (h : TrAt H' v t) (h2 : H' L = some (.lst (r.map V.str))) : ToldL p L u v H' := by
  unfold ToldL
  rw [e]
  exact ⟨h, h2⟩
theorem mk_none {p : List Str → PR} {L : Addr} {u : List Str} {H' : Hp} (e : p u = none) : ToldL p L u .non H' := by
  unfold ToldL
  rw [e]
theorem TrAt.ref {H : Hp} {v : V} {t : Tr} (h : TrAt H v t) : ∃ a, v = .ref a := by
  obtain ⟨a, _, rfl, _⟩ := h.op
  exact ⟨a, rfl⟩
variable {e : List Str → PR}
theorem law_p_step {C : Addr} {f : Addr} {fd : FuncData} (T : Top w K mg C) (n j : Nat) (hj : 3 ≤ j) (le : Less e) (se : SufE e) (GE : FnL P w K mg base "_law_e" s_law_e j (spL e n)) (F : Fun K "_law_p" "_law_p" s_law_p f fd) :
    FnOk P w K mg base CX0 (j + 1) f fd ["_law_words"] (spL (pP e) (n + 1)) := by
  obtain ⟨f_law_e, fd_law_e, F_law_e, b_law_e, m_law_e⟩ := T.d_law_e
  have G_law_e := GE f_law_e fd_law_e F_law_e
  obtain ⟨f_law_gone, fd_law_gone, F_law_gone, b_law_gone, m_law_gone⟩ := T.d_law_gone
  have G_law_gone := ok_law_gone (P := P) (w := w) (base := base) F_law_gone T
  obtain ⟨f_law_seen, fd_law_seen, F_law_seen, b_law_seen, m_law_seen⟩ := T.d_law_seen
  have G_law_seen := ok_law_seen (P := P) (w := w) (base := base) F_law_seen T
  obtain ⟨f_law_number, fd_law_number, F_law_number, b_law_number, m_law_number⟩ := T.d_law_number
  have G_law_number := ok_law_number (P := P) (w := w) (base := base) F_law_number T
  obtain ⟨f_law_is_name, fd_law_is_name, F_law_is_name, b_law_is_name, m_law_is_name⟩ := T.d_law_is_name
  have G_law_is_name := ok_law_is_name (P := P) (w := w) (base := base) F_law_is_name T
  refine F.ok sc_law_p (fun vs H Q E h => ?_) (fun cdv A outer s H vs Q E hr h => ?_)
  · obtain ⟨L, u, rfl, _⟩ := h
    rfl
  obtain ⟨L, u, rfl, hL, wu, lu, ln, q⟩ := h
  refine ⟨_, (pss_cons (ps_set (i := 1) sc_law_p.nd rfl (Or.inl rfl) (pe_call G_law_gone (hr.mono (by omega)) (by rfl) m_law_gone F_law_gone.kp b_law_gone .nil pass0 (pa_cons (pv 0) pa_nil)))
      (pss_cons (ps_if (pt_cmpR op_eq (pv 1) pe_str (nomark _)) (pss_cons (ps_set (i := 2) sc_law_p.nd rfl (Or.inl rfl) (pe_call G_law_e (hr.mono (by omega)) (by rfl) m_law_e F_law_e.kp b_law_e .nil pass0 (pa_cons (pv 0) pa_nil)))
      (pss_cons (ps_if (pt_not (pt_val (pe_call G_law_seen (hr.mono (by omega)) (by rfl) m_law_seen F_law_seen.kp b_law_seen .nil pass0 (pa_cons (pv 2) (pa_cons (pv 0) (pa_cons pe_str pa_nil)))))) (pss_one (ps_ret pe_non)) pss_nil)
      (pss_one (ps_ret (pv 2))))) pss_nil)
      (pss_cons (ps_if (pt_cmpR (op_in_seqK K rfl) (pv 1) (pe_tup (pa_cons pe_str (pa_cons pe_str pa_nil))) (by with_unfolding_all rfl)) (pss_cons (ps_if (pt_cmpR op_ne (pe_call G_law_gone (hr.mono (by omega)) (by rfl) m_law_gone F_law_gone.kp b_law_gone .nil pass0 (pa_cons (pv 0) pa_nil)) pe_str (nomark _)) (pss_one (ps_ret pe_non)) pss_nil)
      (pss_cons (ps_set (i := 3) sc_law_p.nd rfl (Or.inl rfl) (pe_call G_law_e (hr.mono (by omega)) (by rfl) m_law_e F_law_e.kp b_law_e .nil pass0 (pa_cons (pv 0) pa_nil)))
      (pss_cons (ps_if (pt_not (pt_val (pe_call G_law_seen (hr.mono (by omega)) (by rfl) m_law_seen F_law_seen.kp b_law_seen .nil pass0 (pa_cons (pv 3) (pa_cons (pv 0) (pa_cons pe_str pa_nil)))))) (pss_one (ps_ret pe_non)) pss_nil)
      (pss_cons (ps_set (i := 4) sc_law_p.nd rfl (Or.inl rfl) (pe_call G_law_e (hr.mono (by omega)) (by rfl) m_law_e F_law_e.kp b_law_e .nil pass0 (pa_cons (pv 0) pa_nil)))
      (pss_cons (ps_if (pt_not (pt_val (pe_call G_law_seen (hr.mono (by omega)) (by rfl) m_law_seen F_law_seen.kp b_law_seen .nil pass0 (pa_cons (pv 4) (pa_cons (pv 0) (pa_cons pe_str pa_nil)))))) (pss_one (ps_ret pe_non)) pss_nil)
      (pss_one (ps_ret (pe_tup (pa_cons (pv 1) (pa_cons (pv 3) (pa_cons (pv 4) pa_nil))))))))))) pss_nil)
      (pss_cons (ps_if (pt_cmpR op_notN (pe_call G_law_number (hr.mono (by omega)) (by rfl) m_law_number F_law_number.kp b_law_number .nil pass0 (pa_cons (pv 1) pa_nil)) pe_non (nomark _)) (pss_one (ps_ret (pe_tup (pa_cons pe_str (pa_cons (pe_call G_law_number (hr.mono (by omega)) (by rfl) m_law_number F_law_number.kp b_law_number .nil pass0 (pa_cons (pv 1) pa_nil)) pa_nil))))) pss_nil)
      (pss_cons (ps_if (pt_not (pt_val (pe_call G_law_is_name (hr.mono (by omega)) (by rfl) m_law_is_name F_law_is_name.kp b_law_is_name .nil pass0 (pa_cons (pv 1) pa_nil)))) (pss_one (ps_ret pe_non)) pss_nil)
      (pss_cons (ps_if (pt_cmpR (op_neDK K rfl hr.units) (pe_slice (sl_listK K rfl) (pv 0) po_none (po_some pe_int)) (pe_lst (pa_cons pe_str pa_nil)) (nomark _)) (pss_one (ps_ret (pe_tup (pa_cons pe_str (pa_cons (pv 1) (pa_cons pe_int pa_nil)))))) pss_nil)
      (pss_cons (ps_set (i := 5) sc_law_p.nd rfl (Or.inl rfl) (pe_call G_law_number (hr.mono (by omega)) (by rfl) m_law_number F_law_number.kp b_law_number .nil pass0 (pa_cons (pe_ix (ix_listK K rfl) (pe_op op_cat (pv 0) (pe_lst (pa_cons pe_str pa_nil))) pe_int (fun _ _ => rfl)) pa_nil)))
      (pss_cons (ps_if (PW.pt (pw_or (pt_cmpR op_isN (pv 5) pe_non (nomark _)) (pw_or1 (pt_cmpR op_lt (pv 5) pe_int (nomark _))))) (pss_one (ps_ret pe_non)) pss_nil)
      (pss_cons (ps_asg (pe_lst pa_nil) (pg_subS (pv 0) po_none (po_some pe_int)))
      (pss_one (ps_ret (pe_tup (pa_cons pe_str (pa_cons (pv 1) (pa_cons (pv 5) pa_nil))))))))))))))), ?_⟩
  refine ⟨_, rfl, L, u, rfl, hL, wu, fun H1 h1 b1 => ?_⟩
  have wt : WS u.tail := wu.suf (Suf.tail u)
  have k1 : TK H H1 := TK.ofBut b1 hL
  refine ⟨_, rfl, rfl, _, rfl, if_strE (fun c => ?_) (fun c => ?_)⟩
  · -- in brackets
    have ep : pP e u = pBr e u := if_pos c
    have lt := tail_lt (head_ne c (by decide))
    refine ⟨_, rfl, L, u.tail, rfl, h1, wt, by omega, by omega, fun v H2 b2 tv => ?_⟩
    have b02 := b1.trans b2
    cases e1 : e u.tail with
    | none =>
      obtain rfl := told_none e1 tv
      refine ⟨_, rfl, _, rfl, .non, L, ")", rfl, .inl ⟨rfl, _, rfl, if_bl (fun _ => ?_) (fun z => nomatch z)⟩⟩
      exact q .non H2 b02 (mk_none (by rw [ep]; unfold pBr; rw [e1]))
    | some pr =>
      obtain ⟨t, r⟩ := pr
      obtain ⟨hv, h2⟩ := told_some e1 tv
      obtain ⟨a, rfl⟩ := hv.ref
      refine ⟨_, rfl, _, rfl, .ref a, L, ")", rfl, .inr ⟨a, r, rfl, h2, wt.suf (se _ _ _ e1), fun H3 h3 b3 => ?_⟩⟩
      have k3 : TK H2 H3 := TK.ofBut b3 h2
      by_cases c2 : r.headD "" = ")"
      · rw [decide_eq_true c2]
        refine ⟨_, rfl, if_bl (fun z => nomatch z) (fun _ => ⟨_, rfl, ?_⟩)⟩
        exact q _ H3 (b02.trans b3) (mk_some (by rw [ep]; unfold pBr; rw [e1]; exact if_pos c2) (hv.keep k3) h3)
      · rw [decide_eq_false c2]
        refine ⟨_, rfl, if_bl (fun _ => ?_) (fun z => nomatch z)⟩
        exact q .non H3 (b02.trans b3) (mk_none (by rw [ep]; unfold pBr; rw [e1]; exact if_neg c2))
  refine ⟨_, rfl, (by show 2 ≤ sizeLine; decide), fun tp ntp => ?_⟩
  have s2 : Same H1 (upd H1 tp (.tup [.str "most", .str "least"])) := same_new ntp
  refine ⟨tp, _, rfl, .inr (SqT.of upd_same), rfl, rfl, _, rfl, ?_⟩
  have b12 : But L H (upd H1 tp (.tup [.str "most", .str "least"])) := b1.same s2
  generalize upd H1 tp (.tup [.str "most", .str "least"]) = H2 at s2 b12 ⊢
  have h2 := s2 _ _ h1
  refine if_in (zs := ["most", "least"]) (fun m => ?_) (fun m => ?_)
  · have m : u.headD "" = ("most" : Str) ∨ u.headD "" = ("least" : Str) := by simpa only [List.mem_cons, List.not_mem_nil, or_false] using m
    have ep : pP e u = pTwo e u := (if_neg c).trans (if_pos m)
    have lt := tail_lt (m.elim (fun h => head_ne h (by decide)) (fun h => head_ne h (by decide)))
    have hs : u.headD "" = W2.s (if u.headD "" = "most" then .most else .least) := by
      by_cases c : u.headD "" = ("most" : Str)
      · rw [if_pos c, c]; rfl
      · rw [if_neg c, m.resolve_left c]; rfl
    refine ⟨_, rfl, L, u.tail, rfl, h2, wt, fun H3 h3 b3 => ⟨rfl, _, rfl, if_strN (fun ne => ?_) (fun ex => ?_)⟩⟩
    · exact q .non H3 (b12.trans b3) (mk_none (by rw [ep]; unfold pTwo; exact if_neg ne))
    have b03 := b12.trans b3
    have wtt : WS u.tail.tail := wt.suf (Suf.tail _)
    have lt2 := tail_le u.tail
    refine ⟨_, rfl, L, u.tail.tail, rfl, h3, wtt, by omega, by omega, fun v H4 b4 tv => ?_⟩
    have b04 := b03.trans b4
    cases e1 : e u.tail.tail with
    | none =>
      obtain rfl := told_none e1 tv
      refine ⟨_, rfl, _, rfl, .non, L, ",", rfl, .inl ⟨rfl, _, rfl, if_bl (fun _ => ?_) (fun z => nomatch z)⟩⟩
      exact q .non H4 b04 (mk_none (by rw [ep]; unfold pTwo; refine (if_pos ex).trans ?_; rw [e1]))
    | some pr =>
    obtain ⟨ta, ra⟩ := pr
    obtain ⟨ha, h4⟩ := told_some e1 tv
    obtain ⟨aa, rfl⟩ := ha.ref
    have wra := wtt.suf (se _ _ _ e1)
    have l1 := le _ _ _ e1
    refine ⟨_, rfl, _, rfl, .ref aa, L, ",", rfl, .inr ⟨aa, ra, rfl, h4, wra, fun H5 h5 b5 => ?_⟩⟩
    have k5 : TK H4 H5 := TK.ofBut b5 h4
    have b05 := b04.trans b5
    by_cases c2 : ra.headD "" = ","
    rotate_left
    · rw [decide_eq_false c2]
      refine ⟨_, rfl, if_bl (fun _ => ?_) (fun z => nomatch z)⟩
      exact q .non H5 b05 (mk_none (by rw [ep]; unfold pTwo; refine (if_pos ex).trans ?_; rw [e1]; exact if_neg c2))
    rw [decide_eq_true c2]
    refine ⟨_, rfl, if_bl (fun z => nomatch z) (fun _ => ?_)⟩
    have lt3 := tail_le ra
    have wrt := wra.suf (Suf.tail ra)
    refine ⟨_, rfl, L, ra.tail, rfl, h5, wrt, by omega, by omega, fun v2 H6 b6 tv2 => ?_⟩
    have b06 := b05.trans b6
    cases e2 : e ra.tail with
    | none =>
      obtain rfl := told_none e2 tv2
      refine ⟨_, rfl, _, rfl, .non, L, ")", rfl, .inl ⟨rfl, _, rfl, if_bl (fun _ => ?_) (fun z => nomatch z)⟩⟩
      exact q .non H6 b06 (mk_none (by rw [ep]; unfold pTwo; refine (if_pos ex).trans ?_; rw [e1]; refine (if_pos c2).trans ?_; rw [e2]))
    | some pr =>
    obtain ⟨tb, rb⟩ := pr
    obtain ⟨hb, h6⟩ := told_some e2 tv2
    obtain ⟨bb, rfl⟩ := hb.ref
    have wrb := wrt.suf (se _ _ _ e2)
    refine ⟨_, rfl, _, rfl, .ref bb, L, ")", rfl, .inr ⟨bb, rb, rfl, h6, wrb, fun H7 h7 b7 => ?_⟩⟩
    have b07 := b06.trans b7
    by_cases c3 : rb.headD "" = ")"
    rotate_left
    · rw [decide_eq_false c3]
      refine ⟨_, rfl, if_bl (fun _ => ?_) (fun z => nomatch z)⟩
      exact q .non H7 b07 (mk_none (by rw [ep]; unfold pTwo; refine (if_pos ex).trans ?_; rw [e1]; refine (if_pos c2).trans ?_; rw [e2]; exact if_neg c3))
    rw [decide_eq_true c3]
    refine ⟨_, rfl, if_bl (fun z => nomatch z) (fun _ => ?_)⟩
    refine ⟨_, rfl, _, rfl, _, rfl, (by show 3 ≤ sizeLine; decide), fun p np => ?_⟩
    rw [hs]
    generalize hwd : (if u.headD "" = "most" then W2.most else W2.least) = wd at hs ⊢
    have s8 : Same H7 (upd H7 p (.tup [.str wd.s, .ref aa, .ref bb])) := same_new np
    have k7 : TK H6 H7 := TK.ofBut b7 h6
    have k6 : TK H5 H6 := TK.ofBut b6 h5
    refine q (.ref p) _ (b07.same s8) (mk_some (t := .o2 wd ta tb) (r := rb.tail) (by rw [ep]; unfold pTwo; refine (if_pos ex).trans ?_; rw [e1]; refine (if_pos c2).trans ?_; rw [e2]; refine (if_pos c3).trans ?_; rw [hwd]) ⟨p, .ref aa, .ref bb, rfl, upd_same, (((ha.keep k5).keep k6).keep k7).keep (TK.same s8), (hb.keep k7).keep (TK.same s8)⟩ (s8 _ _ h7))
  have m : ¬ (u.headD "" = ("most" : Str) ∨ u.headD "" = ("least" : Str)) := fun h => m (by simpa only [List.mem_cons, List.not_mem_nil, or_false] using h)
  have ep : pP e u = (match numO (u.headD "").cps.toList with
    | some i => some (.no i, u.tail)
    | none => if nameB (u.headD "") = true then (match pAgo u.tail with
      | some (k', r) => some (.nm (u.headD "") k', r)
      | none => none) else none) := (if_neg c).trans (if_neg m)
  refine ⟨_, rfl, u.headD "", rfl, wu.hd, fun H3 s3 => ?_⟩
  have h3 := s3 _ _ h2
  have b03 := b12.same s3
  cases eo : numO (u.headD "").cps.toList with
  | some i =>
    rw [eo] at ep
    refine ⟨rfl, _, rfl, if_bl (fun _ => ?_) (fun z => nomatch z)⟩
    refine ⟨_, rfl, u.headD "", rfl, wu.hd, fun H4 s4 => ?_⟩
    rw [eo]
    refine ⟨(by show 2 ≤ sizeLine; decide), fun p np => ?_⟩
    have s5 : Same H4 (upd H4 p (.tup [.str "number", .int i])) := same_new np
    exact q (.ref p) _ ((b03.same s4).same s5) (mk_some (t := .no i) ep ⟨p, rfl, upd_same⟩ (s5 _ _ (s4 _ _ h3)))
  | none =>
    rw [eo] at ep
    refine ⟨rfl, _, rfl, if_bl (fun z => nomatch z) (fun _ => ?_)⟩
    refine ⟨_, rfl, u.headD "", rfl, wu.hd, fun H4 s4 => ⟨_, rfl, ?_⟩⟩
    have h4 := s4 _ _ h3
    have b04 := b03.same s4
    cases nz : nameB (u.headD "") with
    | false =>
      refine if_bl (fun _ => ?_) (fun z => nomatch z)
      exact q .non H4 b04 (mk_none (ep.trans (if_neg (by rw [nz]; exact Bool.false_ne_true))))
    | true =>
    have ep : pP e u = (match pAgo u.tail with
      | some (k', r) => some (.nm (u.headD "") k', r)
      | none => none) := ep.trans (if_pos nz)
    refine if_bl (fun z => nomatch z) (fun _ => ?_)
    refine ⟨_, rfl, _, rfl, L, _, rfl, SqL.of h4, fun p np => ?_⟩
    have s5 : Same H4 (upd H4 p (.lst (cutV (u.tail.map V.str) none (some 1)))) := same_new np
    have hp : (upd H4 p (.lst (cutV (u.tail.map V.str) none (some 1)))) p = some (.lst ((u.tail.take 1).map V.str)) := by rw [upd_same, cut1]
    generalize upd H4 p (.lst (cutV (u.tail.map V.str) none (some 1))) = H5 at s5 hp ⊢
    refine ⟨(by show 1 ≤ sizeLine; decide), fun p2 np2 => ?_⟩
    have s6 : Same H5 (upd H5 p2 (.lst [.str "@"])) := same_new np2
    have hp2 : (upd H5 p2 (.lst [.str "@"])) p2 = some (.lst (([("@" : Str)] : List Str).map V.str)) := upd_same
    generalize upd H5 p2 (.lst [.str "@"]) = H6 at s6 hp2 ⊢
    have h6 := s6 _ _ (s5 _ _ h4)
    have b06 := (b04.same s5).same s6
    refine ne_words (K := K) (s6 _ _ hp) hp2 (fun z hz => (wt z (List.mem_of_mem_take hz)).2) (fun z hz => by rw [List.mem_singleton.mp hz]; decide +kernel) ?_
    rw [take1_eq (by decide)]
    by_cases ca : u.tail.headD "" = "@"
    rotate_left
    · rw [decide_eq_false ca]
      refine ⟨_, rfl, if_bl (fun _ => ?_) (fun z => nomatch z)⟩
      refine ⟨_, rfl, (by show 3 ≤ sizeLine; decide), fun p3 np3 => ?_⟩
      have s7 : Same H6 (upd H6 p3 (.tup [.str "name", .str (u.headD ""), nV 0])) := same_new np3
      exact q (.ref p3) _ (b06.same s7) (mk_some (t := .nm (u.headD "") 0) (r := u.tail) (by rw [ep]; unfold pAgo; rw [if_neg ca]) ⟨p3, rfl, upd_same⟩ (s7 _ _ h6))
    rw [decide_eq_true ca]
    refine ⟨_, rfl, if_bl (fun z => nomatch z) (fun _ => ?_)⟩
    have ep2 : pAgo u.tail = (match numO (u.tail.tail.headD "").cps.toList with
      | some i => if i < 1 then none else some (i.toNat, u.tail.tail.tail)
      | none => none) := if_pos ca
    have lt1 := head_ne ca (by decide)
    refine ⟨_, rfl, (by show 1 ≤ sizeLine; decide), fun p3 np3 => ?_⟩
    have s7 : Same H6 (upd H6 p3 (.lst [.str ""])) := same_new np3
    have hp3 : (upd H6 p3 (.lst [.str ""])) p3 = some (.lst (([("" : Str)] : List Str).map V.str)) := upd_same
    generalize upd H6 p3 (.lst [.str ""]) = H7 at s7 hp3 ⊢
    refine cat_strs (s7 _ _ h6) hp3 (by show u.tail.length + 1 ≤ 1000; rw [List.length_tail]; omega) fun p4 H8 np4 hp4 s8 => ?_
    have at1 : (u.tail ++ [("" : Str)])[1]? = some (u.tail.tail.headD "") := by
      cases hu : u.tail with
      | nil => rw [hu] at lt1; cases lt1
      | cons a r => cases r <;> rfl
    refine ⟨p4, _, _, _, rfl, rfl, SqL.of hp4, atI_nat (j := 1) (by rw [List.getElem?_map, at1]; rfl), _, rfl, wt.suf (Suf.tail _) |>.hd, fun H9 s9 => ?_⟩
    have s69 := s7.trans (s8.trans s9)
    have h9 := s69 _ _ h6
    have b09 := b06.same s69
    cases eo2 : numO (u.tail.tail.headD "").cps.toList with
    | none =>
      refine ⟨_, rfl, rfl, _, rfl, if_bl (fun _ => ?_) (fun z => nomatch z)⟩
      exact q .non H9 b09 (mk_none (by rw [ep, ep2, eo2]))
    | some i =>
      refine ⟨_, rfl, rfl, _, rfl, if_bl (fun z => nomatch z) (fun _ => ?_)⟩
      rw [eo2] at ep2
      refine ⟨_, rfl, _, _, rfl, rfl, _, rfl, if_bl (fun c9 => ?_) (fun c9 => ?_)⟩
      · have c9 := of_decide_eq_true c9
        exact q .non H9 b09 (mk_none (by rw [ep, ep2]; show (match (if i < 1 then none else some (i.toNat, u.tail.tail.tail)) with | some (k', r) => some (Tr.nm (u.headD "") k', r) | none => none) = none; rw [if_pos c9]))
      · have c9 := of_decide_eq_false c9
        obtain ⟨k, rfl⟩ : ∃ k : Nat, i = ((k : Nat) : Int) := ⟨i.toNat, by omega⟩
        have l2 : 2 ≤ u.tail.length := by
          have : 0 < u.tail.tail.length := head_ne rfl fun z => by rw [z, no_empty] at eo2; cases eo2
          rw [List.length_tail] at this
          omega
        refine ⟨(by show 0 ≤ sizeLine; decide), fun p5 np5 => ?_⟩
        have s10 : Same H9 (upd H9 p5 (.lst [])) := same_new np5
        have hp5 : (upd H9 p5 (.lst [])) p5 = some (.lst []) := upd_same
        have p5L : L ≠ p5 := fun z => by rw [← z, h9] at np5; cases np5
        generalize upd H9 p5 (.lst []) = H10 at s10 hp5 ⊢
        have h10 := s10 _ _ h9
        refine ⟨_, rfl, _, rfl, L, p5, u.tail.map V.str, [], 2, rfl, rfl, rfl, h10, hp5, p5L, by decide, by rw [List.length_map]; omega, by rw [List.length_map, List.length_tail]; exact Nat.le_trans (show _ ≤ 1000 by show _ + 0 ≤ 1000; omega) (by decide), ?_⟩
        have b11 : But L H (upd H10 L (.lst (([] : List V) ++ (u.tail.map V.str).drop (2 : Int).toNat))) := (b09.same s10).upd
        have h11 : (upd H10 L (.lst (([] : List V) ++ (u.tail.map V.str).drop (2 : Int).toNat))) L = some (.lst (u.tail.tail.tail.map V.str)) := by
          rw [upd_same, List.nil_append, show ((2 : Int).toNat) = 2 from rfl, ← List.map_drop, ← List.drop_one, ← List.drop_one, ← List.drop_one, List.drop_drop, List.drop_drop, List.drop_drop]
        generalize upd H10 L (.lst (([] : List V) ++ (u.tail.map V.str).drop (2 : Int).toNat)) = H11 at b11 h11 ⊢
        refine ⟨_, rfl, _, rfl, (by show 3 ≤ sizeLine; decide), fun p6 np6 => ?_⟩
        have s12 : Same H11 (upd H11 p6 (.tup [.str "name", .str (u.headD ""), nV k])) := same_new np6
        exact q (.ref p6) _ (b11.same s12) (mk_some (t := .nm (u.headD "") k) (r := u.tail.tail.tail) (by rw [ep, ep2]; show (match (if ((k : Nat) : Int) < 1 then none else some (((k : Nat) : Int).toNat, u.tail.tail.tail)) with | some (k', r) => some (Tr.nm (u.headD "") k', r) | none => none) = _; rw [if_neg c9]; rfl) ⟨p6, rfl, upd_same⟩ (s12 _ _ h11))
theorem cut12 (us : List Str) : cutV (us.map V.str) (some 1) (some 2) = (us.tail.take 1).map V.str := by
  cases us with
  | nil =>
    unfold cutV
    rw [List.map_nil, List.drop_nil, List.take_nil]; rfl
  | cons a r =>
    unfold cutV
    rw [show (1 : Int) = ((1 : Nat) : Int) from rfl, show (2 : Int) = ((2 : Nat) : Int) from rfl, HT.sIx_nat, HT.sIx_nat]
    cases r with
    | nil => rfl
    | cons b s =>
      rw [Nat.min_eq_left (by simp), Nat.min_eq_left (by simp)]
      rfl
theorem law_t_step {C : Addr} {f : Addr} {fd : FuncData} (T : Top w K mg C) (n j : Nat) (hj : 3 ≤ j) (GP : FnL P w K mg base "_law_p" s_law_p j (spL (pP e) n)) (F : Fun K "_law_t" "_law_t" s_law_t f fd) :
    FnOk P w K mg base CX0 (j + 1) f fd ["_law_words"] (spL (pT e) n) := by
  obtain ⟨f_law_p, fd_law_p, F_law_p, b_law_p, m_law_p⟩ := T.d_law_p
  have G_law_p := GP f_law_p fd_law_p F_law_p
  obtain ⟨f_law_gone, fd_law_gone, F_law_gone, b_law_gone, m_law_gone⟩ := T.d_law_gone
  have G_law_gone := ok_law_gone (P := P) (w := w) (base := base) F_law_gone T
  obtain ⟨f_law_number, fd_law_number, F_law_number, b_law_number, m_law_number⟩ := T.d_law_number
  have G_law_number := ok_law_number (P := P) (w := w) (base := base) F_law_number T
  refine F.ok sc_law_t (fun vs H Q E h => ?_) (fun cdv A outer s H vs Q E hr h => ?_)
  · obtain ⟨L, u, rfl, _⟩ := h
    rfl
  obtain ⟨L, u, rfl, hL, wu, lu, ln, q⟩ := h
  have ep := pT_eq e u
  refine ⟨_, (pss_cons (ps_if (PW.pt (pw_or (pt_cmpR (op_eqDK K rfl hr.units) (pv 0) (pe_lst pa_nil) (nomark _)) (pw_or (pt_cmpR op_isN (pe_call G_law_number (hr.mono (by omega)) (by rfl) m_law_number F_law_number.kp b_law_number .nil pass0 (pa_cons (pe_ix (ix_listK K rfl) (pv 0) pe_int (fun _ _ => rfl)) pa_nil)) pe_non (nomark _)) (pw_or1 (pt_cmpR (op_neDK K rfl hr.units) (pe_slice (sl_listK K rfl) (pv 0) (po_some pe_int) (po_some pe_int)) (pe_lst (pa_cons pe_str pa_nil)) (nomark _)))))) (pss_one (ps_ret (pe_call G_law_p (hr.mono (by omega)) (by rfl) m_law_p F_law_p.kp b_law_p .nil pass0 (pa_cons (pv 0) pa_nil)))) pss_nil)
      (pss_cons (ps_set (i := 1) sc_law_t.nd rfl (Or.inl rfl) (pe_call G_law_number (hr.mono (by omega)) (by rfl) m_law_number F_law_number.kp b_law_number .nil pass0 (pa_cons (pe_call G_law_gone (hr.mono (by omega)) (by rfl) m_law_gone F_law_gone.kp b_law_gone .nil pass0 (pa_cons (pv 0) pa_nil)) pa_nil)))
      (pss_cons (ps_expr (pe_call G_law_gone (hr.mono (by omega)) (by rfl) m_law_gone F_law_gone.kp b_law_gone .nil pass0 (pa_cons (pv 0) pa_nil)))
      (pss_cons (ps_set (i := 2) sc_law_t.nd rfl (Or.inl rfl) (pe_call G_law_p (hr.mono (by omega)) (by rfl) m_law_p F_law_p.kp b_law_p .nil pass0 (pa_cons (pv 0) pa_nil)))
      (pss_cons (ps_if (pt_cmpR op_isN (pv 2) pe_non (nomark _)) (pss_one (ps_ret pe_non)) pss_nil)
      (pss_one (ps_ret (pe_tup (pa_cons pe_str (pa_cons (pv 1) (pa_cons (pv 2) pa_nil))))))))))), ?_⟩
  refine ⟨_, rfl, (by show 0 ≤ sizeLine; decide), fun p np => ?_⟩
  have s1 : Same H (upd H p (.lst [])) := same_new np
  have hp : (upd H p (.lst [])) p = some (.lst (([] : List Str).map V.str)) := upd_same
  have b1 : But L H (upd H p (.lst [])) := But.of s1
  generalize upd H p (.lst []) = H1 at s1 hp b1 ⊢
  have h1 := s1 _ _ hL
  refine eq_words (K := K) h1 hp (fun z hz => (wu z hz).2) (fun _ h => nomatch h) ?_
  have asP : ∀ {H2 : Hp}, H2 L = some (.lst (u.map V.str)) → But L H H2 → pT e u = pP e u → ∀ (v : V) (H' : Hp), But L H2 H' → ToldL (pP e) L u v H' → Q v H' := fun {H2} _ b eq v H' b' tv => q v H' (b.trans b') (by unfold ToldL at tv ⊢; rw [eq]; exact tv)
  refine ⟨_, rfl, if_bl (fun c => ?_) (fun c => ?_)⟩
  · have c := of_decide_eq_true c
    have eq : pT e u = pP e u := by rw [ep, c]; rfl
    exact ⟨_, rfl, L, u, rfl, h1, wu, lu, ln, asP h1 b1 eq⟩
  have c := of_decide_eq_false c
  obtain ⟨z, r, rfl⟩ : ∃ z r, u = z :: r := by
    cases u with
    | nil => exact absurd rfl c
    | cons z r => exact ⟨z, r, rfl⟩
  have wz := wu z (List.mem_cons_self ..)
  refine ⟨_, rfl, L, _, _, _, rfl, rfl, SqL.of h1, atI_nat (j := 0) rfl, z, rfl, wz.1, fun H2 s2 => ?_⟩
  have h2 := s2 _ _ h1
  have b2 := b1.same s2
  have ep : pT e (z :: r) = (match numO z.cps.toList with
    | some k => if r.headD "" = "*" then (match pP e r.tail with
      | some (t2, r2) => some (.tm k t2, r2)
      | none => none) else pP e (z :: r)
    | none => pP e (z :: r)) := ep
  cases eo : numO z.cps.toList with
  | none =>
    rw [eo] at ep
    refine ⟨rfl, _, rfl, if_bl (fun _ => ?_) (fun z => nomatch z)⟩
    exact ⟨_, rfl, L, z :: r, rfl, h2, wu, lu, ln, asP h2 b2 ep⟩
  | some k =>
    rw [eo] at ep
    refine ⟨rfl, _, rfl, if_bl (fun z => nomatch z) (fun _ => ?_)⟩
    refine ⟨_, rfl, _, rfl, _, rfl, L, _, rfl, SqL.of h2, fun p3 np3 => ?_⟩
    have s3 : Same H2 (upd H2 p3 (.lst (cutV ((z :: r).map V.str) (some 1) (some 2)))) := same_new np3
    have hp3 : (upd H2 p3 (.lst (cutV ((z :: r).map V.str) (some 1) (some 2)))) p3 = some (.lst ((r.take 1).map V.str)) := by rw [upd_same, cut12]; rfl
    generalize upd H2 p3 (.lst (cutV ((z :: r).map V.str) (some 1) (some 2))) = H3 at s3 hp3 ⊢
    refine ⟨(by show 1 ≤ sizeLine; decide), fun p4 np4 => ?_⟩
    have s4 : Same H3 (upd H3 p4 (.lst [.str "*"])) := same_new np4
    have hp4 : (upd H3 p4 (.lst [.str "*"])) p4 = some (.lst (([("*" : Str)] : List Str).map V.str)) := upd_same
    generalize upd H3 p4 (.lst [.str "*"]) = H4 at s4 hp4 ⊢
    have h4 := s4 _ _ (s3 _ _ h2)
    have b4 := (b2.same s3).same s4
    have wr : WS r := wu.suf (Suf.tail (z :: r))
    refine ne_words (K := K) (s4 _ _ hp3) hp4 (fun y hy => (wr y (List.mem_of_mem_take hy)).2) (fun y hy => by rw [List.mem_singleton.mp hy]; decide +kernel) ?_
    rw [take1_eq (by decide)]
    by_cases cs : r.headD "" = "*"
    rotate_left
    · rw [decide_eq_false cs]
      refine ⟨_, rfl, if_bl (fun _ => ?_) (fun z => nomatch z)⟩
      exact ⟨_, rfl, L, z :: r, rfl, h4, wu, lu, ln, asP h4 b4 (ep.trans (if_neg cs))⟩
    rw [decide_eq_true cs]
    refine ⟨_, rfl, if_bl (fun z => nomatch z) (fun _ => ?_)⟩
    have ep : pT e (z :: r) = (match pP e r.tail with
      | some (t2, r2) => some (.tm k t2, r2)
      | none => none) := ep.trans (if_pos cs)
    refine ⟨_, rfl, L, z :: r, rfl, h4, wu, fun H5 h5 b5 => ?_⟩
    refine ⟨z, rfl, wz.1, fun H6 s6 => ?_⟩
    rw [eo]
    have h6 := s6 _ _ h5
    have b6 := (b4.trans b5).same s6
    refine ⟨_, rfl, L, r, rfl, h6, wr, fun H7 h7 b7 => ?_⟩
    have b07 := b6.trans b7
    have lt := tail_le r
    refine ⟨_, rfl, L, r.tail, rfl, h7, wr.suf (Suf.tail r), by rw [List.length_cons] at lu; omega, ln, fun v H8 b8 tv => ?_⟩
    have b08 := b07.trans b8
    cases e1 : pP e r.tail with
    | none =>
      obtain rfl := told_none e1 tv
      refine ⟨_, rfl, rfl, _, rfl, if_bl (fun _ => ?_) (fun z => nomatch z)⟩
      exact q .non H8 b08 (mk_none (by rw [ep, e1]))
    | some pr =>
      obtain ⟨t2, r2⟩ := pr
      obtain ⟨hv, h8⟩ := told_some e1 tv
      obtain ⟨a, rfl⟩ := hv.ref
      refine ⟨_, rfl, rfl, _, rfl, if_bl (fun z => nomatch z) (fun _ => ?_)⟩
      refine ⟨_, rfl, _, rfl, (by show 3 ≤ sizeLine; decide), fun p9 np9 => ?_⟩
      have s9 : Same H8 (upd H8 p9 (.tup [.str "times", .int k, .ref a])) := same_new np9
      exact q (.ref p9) _ (b08.same s9) (mk_some (t := .tm k t2) (r := r2) (by rw [ep, e1]) ⟨p9, .ref a, rfl, upd_same, hv.keep (TK.same s9)⟩ (s9 _ _ h8))
theorem law_e_step {C : Addr} {f : Addr} {fd : FuncData} (T : Top w K mg C) (n j i : Nat) (hj : 3 ≤ j) (ij : i ≤ j) (le : Less e) (se : SufE e) (GE : FnL P w K mg base "_law_e" s_law_e i (spL e n)) (GS : FnL P w K mg base "_law_s" s_law_s j (spL (pS e) (n + 1))) (F : Fun K "_law_e" "_law_e" s_law_e f fd) :
    FnOk P w K mg base CX0 (j + 1) f fd ["_law_words"] (spL (pE1 e) (n + 1)) := by
  obtain ⟨f_law_e, fd_law_e, F_law_e, b_law_e, m_law_e⟩ := T.d_law_e
  have G_law_e := GE f_law_e fd_law_e F_law_e
  obtain ⟨f_law_s, fd_law_s, F_law_s, b_law_s, m_law_s⟩ := T.d_law_s
  have G_law_s := GS f_law_s fd_law_s F_law_s
  obtain ⟨f_law_gone, fd_law_gone, F_law_gone, b_law_gone, m_law_gone⟩ := T.d_law_gone
  have G_law_gone := ok_law_gone (P := P) (w := w) (base := base) F_law_gone T
  obtain ⟨f_law_seen, fd_law_seen, F_law_seen, b_law_seen, m_law_seen⟩ := T.d_law_seen
  have G_law_seen := ok_law_seen (P := P) (w := w) (base := base) F_law_seen T
  refine F.ok sc_law_e (fun vs H Q E h => ?_) (fun cdv A outer s H vs Q E hr h => ?_)
  · obtain ⟨L, u, rfl, _⟩ := h
    rfl
  obtain ⟨L, u, rfl, hL, wu, lu, ln, q⟩ := h
  have G_law_e := fn_mono ij G_law_e
  refine ⟨_, (pss_cons (ps_if (pt_cmpR (op_eqDK K rfl hr.units) (pe_slice (sl_listK K rfl) (pv 0) po_none (po_some pe_int)) (pe_lst (pa_cons pe_str pa_nil)) (nomark _)) (pss_cons (ps_expr (pe_call G_law_gone (hr.mono (by omega)) (by rfl) m_law_gone F_law_gone.kp b_law_gone .nil pass0 (pa_cons (pv 0) pa_nil)))
      (pss_cons (ps_set (i := 1) sc_law_e.nd rfl (Or.inl rfl) (pe_call G_law_e (hr.mono (Nat.le_refl _)) (by rfl) m_law_e F_law_e.kp b_law_e .nil pass0 (pa_cons (pv 0) pa_nil)))
      (pss_cons (ps_if (pt_not (pt_val (pe_call G_law_seen (hr.mono (by omega)) (by rfl) m_law_seen F_law_seen.kp b_law_seen .nil pass0 (pa_cons (pv 1) (pa_cons (pv 0) (pa_cons pe_str pa_nil)))))) (pss_one (ps_ret pe_non)) pss_nil)
      (pss_cons (ps_set (i := 2) sc_law_e.nd rfl (Or.inl rfl) (pe_call G_law_e (hr.mono (Nat.le_refl _)) (by rfl) m_law_e F_law_e.kp b_law_e .nil pass0 (pa_cons (pv 0) pa_nil)))
      (pss_cons (ps_if (pt_not (pt_val (pe_call G_law_seen (hr.mono (by omega)) (by rfl) m_law_seen F_law_seen.kp b_law_seen .nil pass0 (pa_cons (pv 2) (pa_cons (pv 0) (pa_cons pe_str pa_nil)))))) (pss_one (ps_ret pe_non)) pss_nil)
      (pss_cons (ps_set (i := 3) sc_law_e.nd rfl (Or.inl rfl) (pe_call G_law_e (hr.mono (Nat.le_refl _)) (by rfl) m_law_e F_law_e.kp b_law_e .nil pass0 (pa_cons (pv 0) pa_nil)))
      (pss_cons (ps_if (pt_cmpR op_isN (pv 3) pe_non (nomark _)) (pss_one (ps_ret pe_non)) pss_nil)
      (pss_one (ps_ret (pe_tup (pa_cons pe_str (pa_cons (pv 1) (pa_cons (pv 2) (pa_cons (pv 3) pa_nil)))))))))))))) pss_nil)
      (pss_cons (ps_set (i := 1) sc_law_e.nd rfl (Or.inl rfl) (pe_call G_law_s (hr.mono (by omega)) (by rfl) m_law_s F_law_s.kp b_law_s .nil pass0 (pa_cons (pv 0) pa_nil)))
      (pss_cons (ps_if (PW.pt (pw_or (pt_cmpR op_isN (pv 1) pe_non (nomark _)) (pw_or1 (pt_cmpR (op_neDK K rfl hr.units) (pe_slice (sl_listK K rfl) (pv 0) po_none (po_some pe_int)) (pe_lst (pa_cons pe_str pa_nil)) (nomark _))))) (pss_one (ps_ret (pv 1))) pss_nil)
      (pss_cons (ps_expr (pe_call G_law_gone (hr.mono (by omega)) (by rfl) m_law_gone F_law_gone.kp b_law_gone .nil pass0 (pa_cons (pv 0) pa_nil)))
      (pss_cons (ps_set (i := 2) sc_law_e.nd rfl (Or.inl rfl) (pe_call G_law_s (hr.mono (by omega)) (by rfl) m_law_s F_law_s.kp b_law_s .nil pass0 (pa_cons (pv 0) pa_nil)))
      (pss_cons (ps_if (pt_cmpR op_isN (pv 2) pe_non (nomark _)) (pss_one (ps_ret pe_non)) pss_nil)
      (pss_one (ps_ret (pe_tup (pa_cons pe_str (pa_cons (pv 1) (pa_cons (pv 2) pa_nil)))))))))))), ?_⟩
  refine ⟨_, rfl, _, rfl, L, _, rfl, SqL.of hL, fun p np => ?_⟩
  have s1 : Same H (upd H p (.lst (cutV (u.map V.str) none (some 1)))) := same_new np
  have hp : (upd H p (.lst (cutV (u.map V.str) none (some 1)))) p = some (.lst ((u.take 1).map V.str)) := by rw [upd_same, cut1]
  generalize upd H p (.lst (cutV (u.map V.str) none (some 1))) = H1 at s1 hp ⊢
  refine ⟨(by show 1 ≤ sizeLine; decide), fun p2 np2 => ?_⟩
  have s2 : Same H1 (upd H1 p2 (.lst [.str "if"])) := same_new np2
  have hp2 : (upd H1 p2 (.lst [.str "if"])) p2 = some (.lst (([("if" : Str)] : List Str).map V.str)) := upd_same
  generalize upd H1 p2 (.lst [.str "if"]) = H2 at s2 hp2 ⊢
  have h2 := s2 _ _ (s1 _ _ hL)
  have b2 : But L H H2 := But.of (s1.trans s2)
  refine eq_words (K := K) (s2 _ _ hp) hp2 (fun z hz => (wu z (List.mem_of_mem_take hz)).2) (fun z hz => by rw [List.mem_singleton.mp hz]; decide +kernel) ?_
  rw [take1_eq (by decide)]
  have wt : WS u.tail := wu.suf (Suf.tail u)
  by_cases ci : u.headD "" = "if"
  · rw [decide_eq_true ci]
    refine ⟨_, rfl, if_bl (fun _ => ?_) (fun z => nomatch z)⟩
    have ep : pE1 e u = pIf e u := if_pos ci
    have lt := tail_lt (head_ne ci (by decide))
    refine ⟨_, rfl, L, u, rfl, h2, wu, fun H3 h3 b3 => ?_⟩
    have b03 := b2.trans b3
    refine ⟨_, rfl, L, u.tail, rfl, h3, wt, by omega, by omega, fun v H4 b4 tv => ?_⟩
    have b04 := b03.trans b4
    cases e1 : e u.tail with
    | none =>
      obtain rfl := told_none e1 tv
      refine ⟨_, rfl, _, rfl, .non, L, "then", rfl, .inl ⟨rfl, _, rfl, if_bl (fun _ => ?_) (fun z => nomatch z)⟩⟩
      exact q .non H4 b04 (mk_none (by rw [ep]; unfold pIf; rw [e1]))
    | some pr =>
    obtain ⟨ta, ra⟩ := pr
    obtain ⟨ha, h4⟩ := told_some e1 tv
    obtain ⟨aa, rfl⟩ := ha.ref
    have wra := wt.suf (se _ _ _ e1)
    have l1 := le _ _ _ e1
    refine ⟨_, rfl, _, rfl, .ref aa, L, "then", rfl, .inr ⟨aa, ra, rfl, h4, wra, fun H5 h5 b5 => ?_⟩⟩
    have k5 : TK H4 H5 := TK.ofBut b5 h4
    have b05 := b04.trans b5
    by_cases c2 : ra.headD "" = "then"
    rotate_left
    · rw [decide_eq_false c2]
      refine ⟨_, rfl, if_bl (fun _ => ?_) (fun z => nomatch z)⟩
      exact q .non H5 b05 (mk_none (by rw [ep]; unfold pIf; rw [e1]; exact if_neg c2))
    rw [decide_eq_true c2]
    refine ⟨_, rfl, if_bl (fun z => nomatch z) (fun _ => ?_)⟩
    have lt3 := tail_le ra
    have wrt := wra.suf (Suf.tail ra)
    refine ⟨_, rfl, L, ra.tail, rfl, h5, wrt, by omega, by omega, fun v2 H6 b6 tv2 => ?_⟩
    have b06 := b05.trans b6
    cases e2 : e ra.tail with
    | none =>
      obtain rfl := told_none e2 tv2
      refine ⟨_, rfl, _, rfl, .non, L, "else", rfl, .inl ⟨rfl, _, rfl, if_bl (fun _ => ?_) (fun z => nomatch z)⟩⟩
      exact q .non H6 b06 (mk_none (by rw [ep]; unfold pIf; rw [e1]; refine (if_pos c2).trans ?_; rw [e2]))
    | some pr =>
    obtain ⟨tb, rb⟩ := pr
    obtain ⟨hb, h6⟩ := told_some e2 tv2
    obtain ⟨bb, rfl⟩ := hb.ref
    have wrb := wrt.suf (se _ _ _ e2)
    have l2 := le _ _ _ e2
    refine ⟨_, rfl, _, rfl, .ref bb, L, "else", rfl, .inr ⟨bb, rb, rfl, h6, wrb, fun H7 h7 b7 => ?_⟩⟩
    have b07 := b06.trans b7
    by_cases c3 : rb.headD "" = "else"
    rotate_left
    · rw [decide_eq_false c3]
      refine ⟨_, rfl, if_bl (fun _ => ?_) (fun z => nomatch z)⟩
      exact q .non H7 b07 (mk_none (by rw [ep]; unfold pIf; rw [e1]; refine (if_pos c2).trans ?_; rw [e2]; exact if_neg c3))
    rw [decide_eq_true c3]
    refine ⟨_, rfl, if_bl (fun z => nomatch z) (fun _ => ?_)⟩
    have lt4 := tail_le rb
    have wrbt := wrb.suf (Suf.tail rb)
    refine ⟨_, rfl, L, rb.tail, rfl, h7, wrbt, by omega, by omega, fun v3 H8 b8 tv3 => ?_⟩
    have b08 := b07.trans b8
    cases e3 : e rb.tail with
    | none =>
      obtain rfl := told_none e3 tv3
      refine ⟨_, rfl, rfl, _, rfl, if_bl (fun _ => ?_) (fun z => nomatch z)⟩
      exact q .non H8 b08 (mk_none (by rw [ep]; unfold pIf; rw [e1]; refine (if_pos c2).trans ?_; rw [e2]; refine (if_pos c3).trans ?_; rw [e3]))
    | some pr =>
    obtain ⟨tc, rc⟩ := pr
    obtain ⟨hc, h8⟩ := told_some e3 tv3
    obtain ⟨cc, rfl⟩ := hc.ref
    refine ⟨_, rfl, rfl, _, rfl, if_bl (fun z => nomatch z) (fun _ => ?_)⟩
    refine ⟨_, rfl, _, rfl, _, rfl, (by show 4 ≤ sizeLine; decide), fun p9 np9 => ?_⟩
    have s9 : Same H8 (upd H8 p9 (.tup [.str "pick", .ref aa, .ref bb, .ref cc])) := same_new np9
    have k6 : TK H5 H6 := TK.ofBut b6 h5
    have k7 : TK H6 H7 := TK.ofBut b7 h6
    have k8 : TK H7 H8 := TK.ofBut b8 h7
    refine q (.ref p9) _ (b08.same s9) (mk_some (t := .o3 ta tb tc) (r := rc) (by rw [ep]; unfold pIf; rw [e1]; refine (if_pos c2).trans ?_; rw [e2]; refine (if_pos c3).trans ?_; rw [e3]) ⟨p9, .ref aa, .ref bb, .ref cc, rfl, upd_same, ((((ha.keep k5).keep k6).keep k7).keep k8).keep (TK.same s9), ((hb.keep k7).keep k8).keep (TK.same s9), hc.keep (TK.same s9)⟩ (s9 _ _ h8))
  · rw [decide_eq_false ci]
    refine ⟨_, rfl, if_bl (fun z => nomatch z) (fun _ => ?_)⟩
    refine ⟨_, rfl, L, u, rfl, h2, wu, lu, ln, fun v H3 b3 tv => ?_⟩
    have b03 := b2.trans b3
    cases e1 : pS e u with
    | none =>
      obtain rfl := told_none e1 tv
      refine ⟨_, rfl, rfl, _, rfl, if_bl (fun _ => ⟨_, rfl, ?_⟩) (fun z => nomatch z)⟩
      exact q .non H3 b03 (mk_none (by unfold pE1; refine (if_neg ci).trans ?_; rw [e1]))
    | some pr =>
    obtain ⟨ta, ra⟩ := pr
    obtain ⟨ha, h3⟩ := told_some e1 tv
    obtain ⟨aa, rfl⟩ := ha.ref
    have l1 := pS_less le _ _ _ e1
    have wra := wu.suf (pS_suf se _ _ _ e1)
    refine ⟨_, rfl, rfl, _, rfl, if_bl (fun z => nomatch z) (fun _ => ?_)⟩
    refine ⟨_, rfl, _, rfl, L, _, rfl, SqL.of h3, fun p3 np3 => ?_⟩
    have s4 : Same H3 (upd H3 p3 (.lst (cutV (ra.map V.str) none (some 1)))) := same_new np3
    have hp3 : (upd H3 p3 (.lst (cutV (ra.map V.str) none (some 1)))) p3 = some (.lst ((ra.take 1).map V.str)) := by rw [upd_same, cut1]
    generalize upd H3 p3 (.lst (cutV (ra.map V.str) none (some 1))) = H4 at s4 hp3 ⊢
    refine ⟨(by show 1 ≤ sizeLine; decide), fun p4 np4 => ?_⟩
    have s5 : Same H4 (upd H4 p4 (.lst [.str "<"])) := same_new np4
    have hp4 : (upd H4 p4 (.lst [.str "<"])) p4 = some (.lst (([("<" : Str)] : List Str).map V.str)) := upd_same
    generalize upd H4 p4 (.lst [.str "<"]) = H5 at s5 hp4 ⊢
    have s35 := s4.trans s5
    have h5 := s35 _ _ h3
    have b05 := b03.same s35
    refine ne_words (K := K) (s5 _ _ hp3) hp4 (fun y hy => (wra y (List.mem_of_mem_take hy)).2) (fun y hy => by rw [List.mem_singleton.mp hy]; decide +kernel) ?_
    rw [take1_eq (by decide)]
    by_cases cl : ra.headD "" = "<"
    rotate_left
    · rw [decide_eq_false cl]
      refine ⟨_, rfl, if_bl (fun _ => ⟨_, rfl, ?_⟩) (fun z => nomatch z)⟩
      exact q _ H5 b05 (mk_some (by unfold pE1; refine (if_neg ci).trans ?_; rw [e1]; exact if_neg cl) (ha.keep (TK.same s35)) h5)
    rw [decide_eq_true cl]
    refine ⟨_, rfl, if_bl (fun z => nomatch z) (fun _ => ?_)⟩
    refine ⟨_, rfl, L, ra, rfl, h5, wra, fun H6 h6 b6 => ?_⟩
    have lt := tail_le ra
    refine ⟨_, rfl, L, ra.tail, rfl, h6, wra.suf (Suf.tail ra), by omega, ln, fun v2 H7 b7 tv2 => ?_⟩
    have b07 := (b05.trans b6).trans b7
    cases e2 : pS e ra.tail with
    | none =>
      obtain rfl := told_none e2 tv2
      refine ⟨_, rfl, rfl, _, rfl, if_bl (fun _ => ?_) (fun z => nomatch z)⟩
      exact q .non H7 b07 (mk_none (by unfold pE1; refine (if_neg ci).trans ?_; rw [e1]; refine (if_pos cl).trans ?_; rw [e2]))
    | some pr =>
    obtain ⟨tb, rb⟩ := pr
    obtain ⟨hb, h7⟩ := told_some e2 tv2
    obtain ⟨bb, rfl⟩ := hb.ref
    refine ⟨_, rfl, rfl, _, rfl, if_bl (fun z => nomatch z) (fun _ => ?_)⟩
    refine ⟨_, rfl, _, rfl, (by show 3 ≤ sizeLine; decide), fun p9 np9 => ?_⟩
    have s9 : Same H7 (upd H7 p9 (.tup [.str "below", .ref aa, .ref bb])) := same_new np9
    have k6 : TK H5 H6 := TK.ofBut b6 h5
    have k7 : TK H6 H7 := TK.ofBut b7 h6
    exact q (.ref p9) _ (b07.same s9) (mk_some (t := .o2 .below ta tb) (r := rb) (by unfold pE1; refine (if_neg ci).trans ?_; rw [e1]; refine (if_pos cl).trans ?_; rw [e2]) ⟨p9, .ref aa, .ref bb, rfl, upd_same, (((ha.keep (TK.same s35)).keep k6).keep k7).keep (TK.same s9), hb.keep (TK.same s9)⟩ (s9 _ _ h7))
theorem law_s_step {C : Addr} {f : Addr} {fd : FuncData} (T : Top w K mg C) (n j : Nat) (hj : 3 ≤ j) (le : Less e) (se : SufE e) (GT : FnL P w K mg base "_law_t" s_law_t j (spL (pT e) n)) (F : Fun K "_law_s" "_law_s" s_law_s f fd) :
    FnOk P w K mg base CX0 (j + 1) f fd ["_law_words"] (spL (pS e) n) := by
  obtain ⟨f_law_t, fd_law_t, F_law_t, b_law_t, m_law_t⟩ := T.d_law_t
  have G_law_t := GT f_law_t fd_law_t F_law_t
  obtain ⟨f_law_gone, fd_law_gone, F_law_gone, b_law_gone, m_law_gone⟩ := T.d_law_gone
  have G_law_gone := ok_law_gone (P := P) (w := w) (base := base) F_law_gone T
  refine F.ok sc_law_s (fun vs H Q E h => ?_) (fun cdv A outer s H vs Q E hr h => ?_)
  · obtain ⟨L, u, rfl, _⟩ := h
    rfl
  obtain ⟨L, u, rfl, hL, wu, lu, ln, q⟩ := h
  refine ⟨_, (pss_cons (ps_set (i := 1) sc_law_s.nd rfl (Or.inl rfl) (pe_call G_law_t (hr.mono (by omega)) (by rfl) m_law_t F_law_t.kp b_law_t .nil pass0 (pa_cons (pv 0) pa_nil)))
      (pss_cons (ps_while PassesOwn.never (PW.pt (pw_and (pt_cmpR op_notN (pv 1) pe_non (nomark _)) (pw_and1 (pt_cmpR (op_inDTK K rfl (hu65 hr)) (pe_slice (sl_listK K rfl) (pv 0) po_none (po_some pe_int)) (pe_tup (pa_cons (pe_lst (pa_cons pe_str pa_nil)) (pa_cons (pe_lst (pa_cons pe_str pa_nil)) pa_nil))) (by with_unfolding_all rfl)))))
        (pss_cons (ps_set (i := 2) sc_law_s.nd rfl (Or.inl rfl) (pe_ix (ix_listK K rfl) (pe_lst (pa_cons pe_str (pa_cons pe_str pa_nil))) (pe_callTy call_int1 (by rfl) T.m_int (by decide +kernel) (pa_cons (pe_cmpR op_eq (pe_call G_law_gone (hr.mono (by omega)) (by rfl) m_law_gone F_law_gone.kp b_law_gone .nil pass0 (pa_cons (pv 0) pa_nil)) pe_str (nomark _)) pa_nil)) (fun _ _ => rfl)))
      (pss_cons (ps_set (i := 3) sc_law_s.nd rfl (Or.inl rfl) (pe_call G_law_t (hr.mono (by omega)) (by rfl) m_law_t F_law_t.kp b_law_t .nil pass0 (pa_cons (pv 0) pa_nil)))
      (pss_cons (ps_if (pt_cmpR op_isN (pv 3) pe_non (nomark _)) (pss_one (ps_ret pe_non)) pss_nil)
      (pss_one (ps_set (i := 1) sc_law_s.nd rfl (Or.inl rfl) (pe_tup (pa_cons (pv 2) (pa_cons (pv 1) (pa_cons (pv 3) pa_nil))))))))))
      (pss_one (ps_ret (pv 1))))), ?_⟩
  refine ⟨_, rfl, L, u, rfl, hL, wu, lu, ln, fun v H1 b1 tv => ?_⟩
  -- what goes on from a tree read, or from none
  let tot : PR := pS e u
  let W : Nat → L2.St → Hp → Prop := fun m σ H5 => But L H H5 ∧ ∃ (v : V) (v2 v3 : Option V), σ = [some (.ref L), some v, v2, v3] ∧
    ((v = .non ∧ pS e u = none ∧ m = 0) ∨ ∃ (t : Tr) (r : List Str) (i : Nat), TrAt H5 v t ∧ H5 L = some (.lst (r.map V.str)) ∧ r.length ≤ i ∧ pS e u = chn e i t r ∧ WS r ∧ r.length < n ∧ m = r.length + 1)
  have start : ∃ m, W m [some (.ref L), some v, none, none] H1 := by
    cases e1 : pT e u with
    | none =>
      obtain rfl := told_none e1 tv
      exact ⟨0, b1, _, none, none, rfl, .inl ⟨rfl, by unfold pS; rw [e1], rfl⟩⟩
    | some pr =>
      obtain ⟨t, r⟩ := pr
      obtain ⟨hv, h1⟩ := told_some e1 tv
      have l1 := pT_less le _ _ _ e1
      exact ⟨r.length + 1, b1, _, none, none, rfl, .inr ⟨t, r, u.length, hv, h1, by omega, by unfold pS; rw [e1], wu.suf (pT_suf se _ _ _ e1), by omega, rfl⟩⟩
  obtain ⟨m0, st⟩ := start
  refine ⟨W, ⟨m0, st⟩, ?_⟩
  clear st tv v b1
  rintro m σ H5 ⟨b5, v, v2, v3, rfl, h5⟩
  rcases h5 with ⟨rfl, epn, rfl⟩ | ⟨t, r, i, hv, h5, li, ep, wr, lr, rfl⟩
  · refine ⟨_, rfl, rfl, _, rfl, ?_⟩
    refine if_bl (fun z => nomatch z) (fun _ => ?_)
    exact ⟨_, rfl, q .non H5 b5 (mk_none epn)⟩
  obtain ⟨a, rfl⟩ := hv.ref
  refine ⟨_, rfl, rfl, _, rfl, ?_⟩
  refine if_bl (fun _ => ?_) (fun z => nomatch z)
  refine ⟨_, rfl, _, rfl, L, _, rfl, SqL.of h5, fun p np => ?_⟩
  have s6 : Same H5 (upd H5 p (.lst (cutV (r.map V.str) none (some 1)))) := same_new np
  have hp : (upd H5 p (.lst (cutV (r.map V.str) none (some 1)))) p = some (.lst ((r.take 1).map V.str)) := by rw [upd_same, cut1]
  generalize upd H5 p (.lst (cutV (r.map V.str) none (some 1))) = H6 at s6 hp ⊢
  refine ⟨(by show 1 ≤ sizeLine; decide), fun p1 np1 => ?_⟩
  have s7 : Same H6 (upd H6 p1 (.lst [.str "+"])) := same_new np1
  have hp1 : (upd H6 p1 (.lst [.str "+"])) p1 = some (.lst (([("+" : Str)] : List Str).map V.str)) := upd_same
  generalize upd H6 p1 (.lst [.str "+"]) = H7 at s7 hp1 ⊢
  refine ⟨(by show 1 ≤ sizeLine; decide), fun p2 np2 => ?_⟩
  have s8 : Same H7 (upd H7 p2 (.lst [.str "-"])) := same_new np2
  have hp2 : (upd H7 p2 (.lst [.str "-"])) p2 = some (.lst (([("-" : Str)] : List Str).map V.str)) := upd_same
  generalize upd H7 p2 (.lst [.str "-"]) = H8 at s8 hp2 ⊢
  refine ⟨(by show 2 ≤ sizeLine; decide), fun p3 np3 => ?_⟩
  have s9 : Same H8 (upd H8 p3 (.tup [.ref p1, .ref p2])) := same_new np3
  have hp3 : (upd H8 p3 (.tup [.ref p1, .ref p2])) p3 = some (.tup [.ref p1, .ref p2]) := upd_same
  generalize upd H8 p3 (.tup [.ref p1, .ref p2]) = H9 at s9 hp3 ⊢
  have s59 := s6.trans (s7.trans (s8.trans s9))
  have h9 := s59 _ _ h5
  have b9 := b5.same s59
  refine ⟨_, [.list ([("+" : Str)].map PyData.str), .list ([("-" : Str)].map PyData.str)], .lst (SqL.of ((s7.trans (s8.trans s9)) _ _ hp)) (dp_strs _), .tup (SqT.of hp3) (.cons (.lst (SqL.of ((s8.trans s9) _ _ hp1)) (dp_strs _)) (.cons (.lst (SqL.of (s9 _ _ hp2)) (dp_strs _)) .nil)), strs_sh (fun z hz => (wr z (List.mem_of_mem_take hz)).2), by decide +kernel, ?_⟩
  have ev : (([.list ([("+" : Str)].map PyData.str), .list ([("-" : Str)].map PyData.str)] : List PyData).any fun z => PyData.eqv z (.list ((r.take 1).map PyData.str))) = decide (r.headD "" = "+" ∨ r.headD "" = "-") := by
    rw [List.any_cons, List.any_cons, List.any_nil, Bool.or_false, strs_eqv, strs_eqv]
    have f : ∀ z : Str, z ≠ "" → decide ([z] = r.take 1) = decide (r.headD "" = z) := fun z nz => by
      rw [← take1_eq nz]
      by_cases c : r.take 1 = [z]
      · rw [decide_eq_true c, decide_eq_true c.symm]
      · rw [decide_eq_false c, decide_eq_false fun h => c h.symm]
    rw [f _ (by decide), f _ (by decide), Bool.decide_or]
  rw [ev]
  by_cases yes : r.headD "" = "+" ∨ r.headD "" = "-"
  · rw [decide_eq_true yes]
    refine ⟨_, rfl, if_bl (fun _ => ?_) (fun z => nomatch z)⟩
    obtain ⟨i', rfl, eg⟩ := chn_go (e := e) (t := t) yes li
    have lt := tail_lt (yes.elim (fun h => head_ne h (by decide)) (fun h => head_ne h (by decide)))
    refine ⟨fun σ' H' => ∃ m', m' < r.length + 1 ∧ W m' σ' H', fun _ _ z => z, ?_⟩
    have hidx : atI [V.str "sum", V.str "gap"] (if decide (V.str (r.headD "") = V.str "-") = true then 1 else 0) = some (.str (sgnW (r.headD "")).s) := by
      rcases yes with h | h
      · rw [h]; decide +kernel
      · rw [h]; decide +kernel
    refine ⟨(by show 2 ≤ sizeLine; decide), fun p4 np4 => ?_⟩
    have s10 : Same H9 (upd H9 p4 (.lst [.str "sum", .str "gap"])) := same_new np4
    have hp4 : (upd H9 p4 (.lst [.str "sum", .str "gap"])) p4 = some (.lst [.str "sum", .str "gap"]) := upd_same
    have p4L : p4 ≠ L := fun z => by rw [z, h9] at np4; cases np4
    generalize upd H9 p4 (.lst [.str "sum", .str "gap"]) = H10 at s10 hp4 ⊢
    have h10 := s10 _ _ h9
    refine ⟨_, rfl, L, r, rfl, h10, wr, fun H11 h11 b11 => ⟨rfl, .inr ⟨_, rfl, p4, _, _, _, rfl, rfl, SqL.of (b11 _ _ hp4 p4L), hidx, ?_⟩⟩⟩
    have b011 := (b9.same s10).trans b11
    generalize hsg : sgnW (r.headD "") = sg at eg ⊢
    refine ⟨_, rfl, L, r.tail, rfl, h11, wr.suf (Suf.tail r), by omega, ln, fun v4 H12 b12 tv4 => ?_⟩
    have b012 := b011.trans b12
    cases e2 : pT e r.tail with
    | none =>
      obtain rfl := told_none e2 tv4
      refine ⟨_, rfl, rfl, _, rfl, if_bl (fun _ => ?_) (fun z => nomatch z)⟩
      exact q .non H12 b012 (mk_none (by rw [ep, eg, e2]))
    | some pr =>
      obtain ⟨t2, r2⟩ := pr
      obtain ⟨hb, h12⟩ := told_some e2 tv4
      obtain ⟨bb, rfl⟩ := hb.ref
      have l2 := pT_less le _ _ _ e2
      refine ⟨_, rfl, rfl, _, rfl, if_bl (fun z => nomatch z) (fun _ => ?_)⟩
      refine ⟨_, rfl, _, rfl, _, rfl, (by show 3 ≤ sizeLine; decide), fun p9 np9 => ?_⟩
      have s13 : Same H12 (upd H12 p9 (.tup [.str sg.s, .ref a, .ref bb])) := same_new np9
      have k12 : TK H5 H12 := (TK.same (s59.trans s10)).trans ((TK.ofBut b11 h10).trans (TK.ofBut b12 h11))
      exact ⟨r2.length + 1, by omega, b012.same s13, .ref p9, _, _, rfl, .inr ⟨.o2 sg t t2, r2, i', ⟨p9, .ref a, .ref bb, rfl, upd_same, (hv.keep k12).keep (TK.same s13), hb.keep (TK.same s13)⟩, s13 _ _ h12, by omega, by rw [ep, eg, e2], (wr.suf (Suf.tail r)).suf (pT_suf se _ _ _ e2), by omega, rfl⟩⟩
  · rw [decide_eq_false yes]
    refine ⟨_, rfl, if_bl (fun z => nomatch z) (fun _ => ?_)⟩
    exact ⟨_, rfl, q _ H9 b9 (mk_some (ep.trans (chn_stop yes)) (hv.keep (TK.same s59)) h9)⟩
theorem law_e_all {C : Addr} (T : Top w K mg C) : ∀ n, n ≤ 900 → FnL P w K mg base "_law_e" s_law_e (4 * n + 3) (spL (pE n) n)
  | 0, _ => fun f fd F => fn_no fun vs H Q E ⟨_, _, _, _, _, l, _⟩ => absurd l (Nat.not_lt_zero _)
  | n + 1, h => by
    have W := law_e_all T n (by omega)
    have le := pE_less n
    have se := pE_suf n
    have GP : FnL P w K mg base "_law_p" s_law_p (4 * n + 4) (spL (pP (pE n)) (n + 1)) := fun f fd F => law_p_step T n (4 * n + 3) (by omega) le se W F
    have GT : FnL P w K mg base "_law_t" s_law_t (4 * n + 5) (spL (pT (pE n)) (n + 1)) := fun f fd F => law_t_step T (n + 1) (4 * n + 4) (by omega) GP F
    have GS : FnL P w K mg base "_law_s" s_law_s (4 * n + 6) (spL (pS (pE n)) (n + 1)) := fun f fd F => law_s_step T (n + 1) (4 * n + 5) (by omega) le se GT F
    exact fun f fd F => law_e_step T n (4 * n + 6) (4 * n + 3) (by omega) (by omega) le se W GS F
abbrev sp_law_e (_ : PySem.W.Frag) : Sp := spL (pE 40) 40
theorem ok_law_e {f : Addr} {fd : FuncData} (F : Fun K "_law_e" "_law_e" s_law_e f fd) {C : Addr} (T : Top w K mg C) : FnOk P w K mg base CX0 163 f fd ["_law_words"] (sp_law_e K) := law_e_all T 40 (by decide) f fd F
end
/-! ### the law's own reader of rows -/
def numV22 (z : Str) : V := numV (numO z.cps.toList)
theorem numsW_in : ∀ ws : List Str, inV .non (ws.map numV22) = (numsW ws).isNone
  | [] => rfl
  | z :: r => by
    have ih := numsW_in r
    rw [List.map_cons]
    cases e1 : numO z.cps.toList with
    | none =>
      rw [nums_none e1]
      unfold numV22
      rw [e1]
      rfl
    | some n =>
      rw [nums_step e1]
      have : inV .non (numV22 z :: r.map numV22) = inV .non (r.map numV22) := by
        unfold numV22
        rw [e1]
        rfl
      rw [this, ih]
      cases numsW r <;> rfl
theorem numsW_some : ∀ {ws : List Str} {ns : List Int}, numsW ws = some ns → ws.map numV22 = ns.map V.int
  | [], ns, h => by
    obtain rfl := Option.some.inj h
    rfl
  | z :: r, ns, h => by
    cases e1 : numO z.cps.toList with
    | none => rw [nums_none e1] at h; cases h
    | some n =>
      rw [nums_step e1] at h
      cases e2 : numsW r with
      | none => rw [e2] at h; cases h
      | some m =>
        rw [e2] at h
        obtain rfl := Option.some.inj h
        rw [List.map_cons, numsW_some e2]
        unfold numV22
        rw [e1]
        rfl
theorem numsW_flat (ws : List Str) : (ws.map numV22).all flatV = true := List.all_eq_true.mpr fun x hx => by
  obtain ⟨z, _, rfl⟩ := List.mem_map.mp hx
  unfold numV22
  cases numO z.cps.toList <;> rfl
theorem cutD (us : List Str) (k : Nat) : cutV (us.map V.str) (some ((k : Nat) : Int)) none = (us.drop k).map V.str := by
  rw [cut_drop, List.map_drop]
theorem nm_was22 : nameB "was" = false := by decide +kernel
theorem pE_nil (n : Nat) : pE n [] = none := by
  cases h : pE n [] with
  | none => rfl
  | some p =>
    obtain ⟨t, r⟩ := p
    exact absurd (pE_less n _ _ _ h) (Nat.not_lt_zero _)
theorem mid_short {u : List Str} (h : u.length ≤ 2) : midO u = none := by
  have e : u.tail.tail = [] := by
    apply List.eq_nil_of_length_eq_zero
    rw [List.length_tail, List.length_tail]
    omega
  unfold midO
  by_cases c : u.headD "" = "was"
  · rw [if_pos c]
    have : wasO u = none := by
      unfold wasO
      rw [if_pos c, e]
      by_cases d : nameB (u.tail.headD "") = true
      · rw [if_pos d]; exact if_neg (by decide)
      · rw [if_neg d]
    rw [this]; rfl
  · rw [if_neg c]
    have : ruleO u = none := by
      unfold ruleO
      rw [e]
      by_cases d : nameB (u.headD "") = true
      · rw [if_pos d]
        by_cases f : u.tail.headD "" = "="
        · rw [if_pos f, pE_nil]
        · rw [if_neg f]
      · rw [if_neg d]
    rw [this]; rfl
/-- what is told of a row -/
def RowV (H : Hp) (v : V) : Option Mid → Prop
  | none => v = .non
  | some (.inl p) => ∃ (a : Addr) (x : V), v = .ref a ∧ H a = some (.tup [.str "was", x]) ∧ WaAt H x p
  | some (.inr p) => ∃ (a : Addr) (x : V), v = .ref a ∧ H a = some (.tup [.str "rule", x]) ∧ RlAt H x p
section
variable {P : Program} {w : World} {K : PySem.W.Frag} {mg : Str → Option Value} {base : Heap}
theorem same_but {f : Addr} {H H1 H2 : Hp} (s : Same H H1) (n : H f = none) (b : But f H1 H2) : Same H H2 := fun x o e => b _ _ (s _ _ e) (fun z => by rw [z, n] at e; cases e)
def sp_law_row (K : PySem.W.Frag) : Sp := fun vs H Q _ => ∃ (L : Addr) (u : List Str), vs = [.ref L] ∧ H L = some (.lst (u.map V.str)) ∧ WS u ∧ u.length ≤ 40 ∧ ∀ (v : V) (H' : Hp), Same H H' → RowV H' v (midO u) → Q v H'
set_option maxHeartbeats 0 in
theorem ok_law_row {f : Addr} {fd : FuncData} (F : Fun K "_law_row" "_law_row" s_law_row f fd) {C : Addr} (T : Top w K mg C) : FnOk P w K mg base CX0 164 f fd ["_law_words"] (sp_law_row K) := by
  obtain ⟨f_law_is_name, fd_law_is_name, F_law_is_name, b_law_is_name, m_law_is_name⟩ := T.d_law_is_name
  have G_law_is_name := ok_law_is_name (P := P) (w := w) (base := base) F_law_is_name T
  obtain ⟨f_law_e, fd_law_e, F_law_e, b_law_e, m_law_e⟩ := T.d_law_e
  have G_law_e := ok_law_e (P := P) (w := w) (base := base) F_law_e T
  obtain ⟨f_law_number, fd_law_number, F_law_number, b_law_number, m_law_number⟩ := T.d_law_number
  have G_law_number := ok_law_number (P := P) (w := w) (base := base) F_law_number T
  refine F.ok sc_law_row (fun vs H Q E h => ?_) (fun cdv A outer s H vs Q E hr h => ?_)
  · obtain ⟨L, u, rfl, _⟩ := h
    rfl
  obtain ⟨L, u, rfl, hL, wu, lu, q⟩ := h
  let R1 : TS := fun D' σ' H' => D'.rt = Q ∧ ∃ v1 : Option V, σ' = [some (.ref L), v1, none, none, none] ∧ Same H H' ∧ (u.headD "" = "was" → midO u = none)
  have split : u.length ≤ 2 ∨ ∃ a b c r, u = a :: b :: c :: r := by
    match u with
    | [] => exact .inl (Nat.zero_le _)
    | [_] => exact .inl (by show 1 ≤ 2; decide)
    | [_, _] => exact .inl (by show 2 ≤ 2; decide)
    | a :: b :: c :: r => exact .inr ⟨a, b, c, r, rfl⟩
  refine ⟨_, (pss_cons (ps_if (PW.pt (pw_and (pt_cmpR op_gt (pe_callB (call_len_seqK K rfl) (by rfl) T.m_len (by decide +kernel) (pa_cons (pv 0) pa_nil)) pe_int (nomark _)) (pw_and (pt_cmpR op_eq (pe_ix (ix_listK K rfl) (pv 0) pe_int (fun _ _ => rfl)) pe_str (nomark _)) (pw_and (pt_val (pe_call G_law_is_name (hr.mono (by decide)) (by rfl) m_law_is_name F_law_is_name.kp b_law_is_name .nil pass0 (pa_cons (pe_ix (ix_listK K rfl) (pv 0) pe_int (fun _ _ => rfl)) pa_nil))) (pw_and1 (pt_cmpR op_eq (pe_ix (ix_listK K rfl) (pv 0) pe_int (fun _ _ => rfl)) pe_str (nomark _))))))) (pss_cons (ps_setLc (i := 1) (own := [("_law_word_here", 2)]) (g := gName 2) (tt := tYes) (by rfl) sc_law_row.nd rfl rfl (sw_true rfl rfl rfl (by decide +kernel)) (pi_listK K rfl (pe_slice (sl_listK K rfl) (pv 0) (po_some pe_int) po_none)) (blkOk_by (own := [("_law_word_here", 2)]) (N := N_law_row) (sc := defScope s_law_row) (by decide +kernel)) (fun _ _ _ _ _ => (pg_name (i := 2) sc_law_row.nd rfl (Or.inl rfl))) (fun _ _ _ _ _ => pts_nil) (fun _ _ _ _ _ => (pe_call G_law_number (hr.mono (by decide)) (by rfl) m_law_number F_law_number.kp b_law_number .nil pass0 (pa_cons (pv 2) pa_nil))))
      (pss_one (ps_if (pt_cmpR (op_notIn_seqK K rfl) pe_non (pv 1) (by with_unfolding_all rfl)) (pss_one (ps_ret (pe_tup (pa_cons pe_str (pa_cons (pe_tup (pa_cons (pe_ix (ix_listK K rfl) (pv 0) pe_int (fun _ _ => rfl)) (pa_cons (pe_callTy (call_tuple_ofK K rfl) (by rfl) T.m_tuple (by decide +kernel) (pa_cons (pv 1) pa_nil)) pa_nil))) pa_nil))))) pss_nil))) pss_nil)
      (PSs.to (pss_cons (ps_if (PW.pt (pw_and (pt_cmpR op_gt (pe_callB (call_len_seqK K rfl) (by rfl) T.m_len (by decide +kernel) (pa_cons (pv 0) pa_nil)) pe_int (nomark _)) (pw_and (pt_val (pe_call G_law_is_name (hr.mono (by decide)) (by rfl) m_law_is_name F_law_is_name.kp b_law_is_name .nil pass0 (pa_cons (pe_ix (ix_listK K rfl) (pv 0) pe_int (fun _ _ => rfl)) pa_nil))) (pw_and1 (pt_cmpR op_eq (pe_ix (ix_listK K rfl) (pv 0) pe_int (fun _ _ => rfl)) pe_str (nomark _)))))) (pss_cons (ps_set (i := 3) sc_law_row.nd rfl (Or.inl rfl) (pe_slice (sl_listK K rfl) (pv 0) (po_some pe_int) po_none))
      (pss_cons (ps_set (i := 4) sc_law_row.nd rfl (Or.inl rfl) (pe_call G_law_e (hr.mono (by decide)) (by rfl) m_law_e F_law_e.kp b_law_e .nil pass0 (pa_cons (pv 3) pa_nil)))
      (pss_one (ps_if (PW.pt (pw_and (pt_cmpR op_notN (pv 4) pe_non (nomark _)) (pw_and1 (pt_cmpR (op_eqDK K rfl hr.units) (pv 3) (pe_lst pa_nil) (nomark _))))) (pss_one (ps_ret (pe_tup (pa_cons pe_str (pa_cons (pe_tup (pa_cons (pe_ix (ix_listK K rfl) (pv 0) pe_int (fun _ _ => rfl)) (pa_cons (pv 4) pa_nil))) pa_nil))))) pss_nil)))) pss_nil)
      (pss_one (ps_ret pe_non))) R1 ?tail1)), ?_⟩
  case tail1 =>
    rintro D' σ' H1 ⟨eD, v1, rfl, s1, hw⟩
    have hL1 := s1 _ _ hL
    have no : ∀ {H2 : Hp}, Same H H2 → midO u = none → D'.rt .non H2 := fun {H2} s2 em => by
      rw [eD]
      exact q .non H2 s2 (by rw [em]; rfl)
    rcases split with c2 | ⟨a, b, c, r, rfl⟩
    · refine ⟨_, rfl, L, _, rfl, .inl (SqL.of hL1), _, _, rfl, rfl, _, rfl, if_bl (fun c => ?_) (fun _ => ?_)⟩
      · have c := of_decide_eq_true c
        rw [List.length_map] at c
        omega
      exact no s1 (mid_short c2)
    have wa := wu a (by simp)
    have wb := wu b (by simp)
    have l2 : decide ((((a :: b :: c :: r).map V.str).length : Int) > 2) = true := decide_eq_true (by simp only [List.map_cons, List.length_cons]; omega)
    refine ⟨_, rfl, L, _, rfl, .inl (SqL.of hL1), _, _, rfl, rfl, _, rfl, if_bl (fun _ => ?_) (fun z => by rw [l2] at z; cases z)⟩
    refine ⟨_, rfl, L, _, _, _, rfl, rfl, SqL.of hL1, atI_nat (j := 0) rfl, a, rfl, wa.1, fun H2 s2 => ⟨_, rfl, ?_⟩⟩
    have s02 := s1.trans s2
    have hL2 := s02 _ _ hL
    have em0 : ¬ a = "was" → midO (a :: b :: c :: r) = (ruleO (a :: b :: c :: r)).map .inr := fun h => if_neg h
    cases na : nameB a with
    | false =>
      refine if_bl (fun z => nomatch z) (fun _ => ?_)
      refine no s02 ?_
      by_cases cw : a = "was"
      · exact hw cw
      · rw [em0 cw]
        unfold ruleO
        rw [if_neg (show ¬ nameB ((a :: b :: c :: r).headD "") = true by show ¬ nameB a = true; rw [na]; exact Bool.false_ne_true)]
        rfl
    | true =>
    have cw : ¬ a = "was" := fun h => by rw [h, nm_was22] at na; cases na
    have em := em0 cw
    have er : ruleO (a :: b :: c :: r) = if b = "=" then (match pE 40 (c :: r) with
      | some (t, []) => some (a, t)
      | _ => none) else none := if_pos na
    refine if_bl (fun _ => ?_) (fun z => nomatch z)
    refine ⟨_, rfl, L, _, _, _, rfl, rfl, SqL.of hL2, atI_nat (j := 1) rfl, rfl, _, rfl, if_strE (fun cb => ?_) (fun cb => ?_)⟩
    rotate_left
    · exact no s02 (by rw [em, er, if_neg cb]; rfl)
    have er : ruleO (a :: b :: c :: r) = (match pE 40 (c :: r) with
      | some (t, []) => some (a, t)
      | _ => none) := er.trans (if_pos cb)
    refine ⟨_, rfl, _, rfl, L, _, rfl, SqL.of hL2, fun p np => ?_⟩
    have s3 : Same H2 (upd H2 p (.lst (cutV ((a :: b :: c :: r).map V.str) (some 2) none))) := same_new np
    have hp : (upd H2 p (.lst (cutV ((a :: b :: c :: r).map V.str) (some 2) none))) p = some (.lst ((c :: r).map V.str)) := by rw [upd_same, show (2 : Int) = ((2 : Nat) : Int) from rfl, cutD]; rfl
    generalize upd H2 p (.lst (cutV ((a :: b :: c :: r).map V.str) (some 2) none)) = H3 at s3 hp ⊢
    have s03 := s02.trans s3
    have wcr : WS (c :: r) := fun z hz => wu z (List.mem_cons_of_mem _ (List.mem_cons_of_mem _ hz))
    have np0 : H p = none := same_none s02 np
    refine ⟨_, rfl, p, c :: r, rfl, hp, wcr, by simp only [List.length_cons] at lu ⊢; omega, by decide, fun v H4 b4 tv => ?_⟩
    have s04 : Same H H4 := same_but s03 np0 b4
    cases e1 : pE 40 (c :: r) with
    | none =>
      obtain rfl := told_none e1 tv
      refine ⟨_, rfl, rfl, _, rfl, if_bl (fun z => nomatch z) (fun _ => ?_)⟩
      exact no s04 (by rw [em, er, e1]; rfl)
    | some pr =>
    obtain ⟨t, rr⟩ := pr
    obtain ⟨hv, h4⟩ := told_some e1 tv
    obtain ⟨aa, rfl⟩ := hv.ref
    refine ⟨_, rfl, rfl, _, rfl, if_bl (fun _ => ?_) (fun z => nomatch z)⟩
    refine ⟨_, rfl, (by show 0 ≤ sizeLine; decide), fun p5 np5 => ?_⟩
    have s5 : Same H4 (upd H4 p5 (.lst [])) := same_new np5
    have hp5 : (upd H4 p5 (.lst [])) p5 = some (.lst (([] : List Str).map V.str)) := upd_same
    generalize upd H4 p5 (.lst []) = H5 at s5 hp5 ⊢
    have s05 := s04.trans s5
    have wrr := wcr.suf (pE_suf 40 _ _ _ e1)
    refine eq_words (K := K) (s5 _ _ h4) hp5 (fun z hz => (wrr z hz).2) (fun _ h => nomatch h) ?_
    refine ⟨_, rfl, ?_⟩
    cases rr with
    | cons x y =>
      refine if_bl (fun h => absurd (of_decide_eq_true h) (fun z => nomatch z)) (fun _ => ?_)
      exact no s05 (by rw [em, er, e1]; rfl)
    | nil =>
      refine if_bl (fun _ => ?_) (fun h => absurd rfl (of_decide_eq_false h))
      have hL5 := s05 _ _ hL
      refine ⟨_, rfl, L, _, _, _, rfl, rfl, SqL.of hL5, atI_nat (j := 0) rfl, _, rfl, (by show 2 ≤ sizeLine; decide), fun p6 np6 => ?_⟩
      have s6 : Same H5 (upd H5 p6 (.tup [.str a, .ref aa])) := same_new np6
      have hp6 : (upd H5 p6 (.tup [.str a, .ref aa])) p6 = some (.tup [.str a, .ref aa]) := upd_same
      generalize upd H5 p6 (.tup [.str a, .ref aa]) = H6 at s6 hp6 ⊢
      refine ⟨(by show 2 ≤ sizeLine; decide), fun p7 np7 => ?_⟩
      have s7 : Same H6 (upd H6 p7 (.tup [.str "rule", .ref p6])) := same_new np7
      show D'.rt _ _
      rw [eD]
      refine q (.ref p7) _ (s05.trans (s6.trans s7)) ?_
      rw [em, er, e1]
      exact ⟨p7, .ref p6, rfl, upd_same, p6, .ref aa, rfl, s7 _ _ hp6, (hv.keep (TK.same s5)).keep (TK.same (s6.trans s7))⟩
  rcases split with c2 | ⟨a, b, c, r, rfl⟩
  · refine ⟨_, rfl, L, _, rfl, .inl (SqL.of hL), _, _, rfl, rfl, _, rfl, if_bl (fun c => ?_) (fun _ => ⟨rfl, none, rfl, (fun _ _ e => e), fun _ => mid_short c2⟩)⟩
    have c := of_decide_eq_true c
    rw [List.length_map] at c
    omega
  have wa := wu a (by simp)
  have wb := wu b (by simp)
  have l2 : decide ((((a :: b :: c :: r).map V.str).length : Int) > 2) = true := decide_eq_true (by simp only [List.map_cons, List.length_cons]; omega)
  refine ⟨_, rfl, L, _, rfl, .inl (SqL.of hL), _, _, rfl, rfl, _, rfl, if_bl (fun _ => ?_) (fun z => by rw [l2] at z; cases z)⟩
  refine ⟨_, rfl, L, _, _, _, rfl, rfl, SqL.of hL, atI_nat (j := 0) rfl, rfl, _, rfl, if_strE (fun cw => ?_) (fun cw => ⟨rfl, none, rfl, (fun _ _ e => e), fun h => absurd h cw⟩)⟩
  have em : midO (a :: b :: c :: r) = (wasO (a :: b :: c :: r)).map .inl := if_pos cw
  have ew : wasO (a :: b :: c :: r) = if nameB b = true then (if c = ":" then (match numsW r with
    | some l => some (b, l)
    | none => none) else none) else none := if_pos cw
  refine ⟨_, rfl, L, _, _, _, rfl, rfl, SqL.of hL, atI_nat (j := 1) rfl, b, rfl, wb.1, fun H2 s2 => ⟨_, rfl, ?_⟩⟩
  have hL2 := s2 _ _ hL
  cases nb : nameB b with
  | false => exact if_bl (fun z => nomatch z) (fun _ => ⟨rfl, none, rfl, s2, fun _ => by rw [em, ew, nb]; rfl⟩)
  | true =>
  have ew : wasO (a :: b :: c :: r) = if c = ":" then (match numsW r with
    | some l => some (b, l)
    | none => none) else none := ew.trans (if_pos nb)
  refine if_bl (fun _ => ?_) (fun z => nomatch z)
  refine ⟨_, rfl, L, _, _, _, rfl, rfl, SqL.of hL2, atI_nat (j := 2) rfl, rfl, _, rfl, if_strE (fun cc => ?_) (fun cc => ⟨rfl, none, rfl, s2, fun _ => by rw [em, ew, if_neg cc]; rfl⟩)⟩
  have ew : wasO (a :: b :: c :: r) = (match numsW r with
    | some l => some (b, l)
    | none => none) := ew.trans (if_pos cc)
  have wr : WS r := fun z hz => wu z (List.mem_cons_of_mem _ (List.mem_cons_of_mem _ (List.mem_cons_of_mem _ hz)))
  refine ⟨_, rfl, _, rfl, L, _, rfl, SqL.of hL2, fun p np => ?_⟩
  have s3 : Same H2 (upd H2 p (.lst (cutV ((a :: b :: c :: r).map V.str) (some 3) none))) := same_new np
  have hp : (upd H2 p (.lst (cutV ((a :: b :: c :: r).map V.str) (some 3) none))) p = some (.lst (r.map V.str)) := by rw [upd_same, show (3 : Int) = ((3 : Nat) : Int) from rfl, cutD]; rfl
  generalize upd H2 p (.lst (cutV ((a :: b :: c :: r).map V.str) (some 3) none)) = H3 at s3 hp ⊢
  have s03 := s2.trans s3
  have lr : r.length ≤ 40 := by simp only [List.length_cons] at lu; omega
  refine ⟨p, rfl, ⟨_, SqL.of hp⟩, fun D nD => lc_list (K := K) (a := p) (xs := r.map V.str) (fun i H5 => H5 D = some (.lst ((r.take i).map numV22)) ∧ Same H3 H5) ⟨upd_same, same_new nD⟩ (fun i H5 _ ⟨_, s5⟩ => SqL.of (s5 _ _ hp)) ?_ ?_⟩
  · rintro i x H5 hx ⟨hD, s5⟩
    rw [List.getElem?_map] at hx
    cases en : r[i]? with
    | none => rw [en] at hx; cases hx
    | some z =>
    rw [en] at hx
    obtain rfl : V.str z = x := Option.some.inj hx
    have il := (List.getElem?_eq_some_iff.mp en).1
    refine ⟨rfl, yes_in ⟨_, rfl, z, rfl, (wr z (List.mem_of_getElem? en)).1, fun H6 s6 => ⟨_, s6 _ _ hD, by rw [List.length_map, List.length_take]; exact small1000 (by omega), ?_, Same.own (s5.trans s6) nD⟩⟩⟩
    rw [upd_same, List.take_add_one, en, List.map_append]; rfl
  rintro H5 ⟨hD, s5⟩
  rw [List.length_map, List.take_length] at hD
  have s05 := s03.trans s5
  refine ⟨_, rfl, D, _, rfl, .inl (SqL.of hD), rfl, numsW_flat r, _, rfl, ?_⟩
  rw [if_pos rfl, numsW_in]
  cases en : numsW r with
  | none => exact if_bl (fun z => nomatch z) (fun _ => ⟨rfl, _, rfl, s05, fun _ => by rw [em, ew, en]; rfl⟩)
  | some ns =>
    rw [numsW_some en] at hD
    refine if_bl (fun _ => ?_) (fun z => nomatch z)
    have hL5 := s05 _ _ hL
    refine ⟨_, rfl, L, _, _, _, rfl, rfl, SqL.of hL5, atI_nat (j := 1) rfl, _, rfl, D, _, rfl, .inl ⟨SqL.of hD, fun t1 nt1 => ?_⟩⟩
    have s6 : Same H5 (upd H5 t1 (.tup (ns.map V.int))) := same_new nt1
    have ht1 : (upd H5 t1 (.tup (ns.map V.int))) t1 = some (.tup (ns.map V.int)) := upd_same
    generalize upd H5 t1 (.tup (ns.map V.int)) = H6 at s6 ht1 ⊢
    refine ⟨(by show 2 ≤ sizeLine; decide), fun t2 nt2 => ?_⟩
    have s7 : Same H6 (upd H6 t2 (.tup [.str b, .ref t1])) := same_new nt2
    have ht2 : (upd H6 t2 (.tup [.str b, .ref t1])) t2 = some (.tup [.str b, .ref t1]) := upd_same
    generalize upd H6 t2 (.tup [.str b, .ref t1]) = H7 at s7 ht2 ⊢
    refine ⟨(by show 2 ≤ sizeLine; decide), fun t3 nt3 => ?_⟩
    have s8 : Same H7 (upd H7 t3 (.tup [.str "was", .ref t2])) := same_new nt3
    refine q (.ref t3) _ (s05.trans (s6.trans (s7.trans s8))) ?_
    rw [em, ew, en]
    exact ⟨t3, .ref t2, rfl, upd_same, t2, t1, rfl, s8 _ _ ht2, s8 _ _ (s7 _ _ ht1)⟩
end
/-! ### what is due of a text -/
/-- what is told of a text, of its rows of words -/
def DueT (H : Hp) (v : V) (rws : List (List Str)) : Prop :=
  (∃ k p, k < rws.length ∧ badB rws k = true ∧ (∀ j, j < k → badB rws j = false) ∧ v = .ref p ∧ H p = some (.tup [.str "refused", nV k])) ∨
  ((∀ k, k < rws.length → badB rws k = false) ∧ ∃ p x, v = .ref p ∧ H p = some (.tup [.str "told", .ref x]) ∧ FmAt H x (fmF rws))
theorem names_none {wd : Str} {u : List Str} : (namesO wd u).isNone = (!decide (u.headD "" = wd) || !(u.tail.all nameB)) := by
  unfold namesO
  by_cases c : u.headD "" = wd
  · rw [if_pos c, decide_eq_true c]
    by_cases d : u.tail.all nameB = true
    · rw [if_pos d, d]; rfl
    · rw [if_neg d, Bool.eq_false_iff.mpr d]; rfl
  · rw [if_neg c, decide_eq_false c]
    rfl
abbrev kvP (wl rl : Addr) : List (Key × V) := [(Sum.inr "was", .ref wl), (Sum.inr "rule", .ref rl)]
/-- a test, and what is known where it is not so -/
theorem if_know {c : Bool} {K A N : Prop} (h1 : c = true → (K → N) → A) (h2 : c = false → K) (n : K → N) : if c = true then A else N := by
  cases c
  · rw [if_neg Bool.false_ne_true]; exact n (h2 rfl)
  · rw [if_pos rfl]; exact h1 rfl n
theorem at_last (xs : List V) (x : V) : atI (xs ++ [x]) (-1) = some x := by
  unfold atI ixN
  rw [if_neg (by decide), if_pos (by rw [List.length_append]; show -((xs.length + 1 : Nat) : Int) ≤ -1; omega)]
  show (xs ++ [x])[(-1 + (((xs ++ [x]).length : Nat) : Int)).toNat]? = some x
  rw [List.length_append, show (-1 + ((xs.length + [x].length : Nat) : Int)).toNat = xs.length by show (-1 + ((xs.length + 1 : Nat) : Int)).toNat = _; omega]
  rw [List.getElem?_append_right (Nat.le_refl _), Nat.sub_self]
  rfl
theorem dint_nat (i j : Nat) : decide (V.int ((i : Nat) : Int) = V.int ((j : Nat) : Int)) = decide (i = j) := by
  by_cases c : i = j
  · rw [c, decide_eq_true rfl, decide_eq_true rfl]
  · rw [decide_eq_false c, decide_eq_false fun z => c (by have := V.int.inj z; omega)]
section
variable {P : Program} {w : World} {K : PySem.W.Frag} {mg : Str → Option Value} {base : Heap}
def sp_law_due (K : PySem.W.Frag) : Sp := fun vs H Q _ => ∃ (a : Str) (rs : List Str) (rws : List (List Str)), vs = [.str a] ∧ TB a rs rws ∧ (∀ u ∈ rws, WS u ∧ u ≠ [] ∧ u.length ≤ 8000001) ∧ ∀ (v : V) (H' : Hp), DueT H' v rws → Same H H' → Q v H'
set_option maxHeartbeats 0 in
theorem ok_law_due {f : Addr} {fd : FuncData} (F : Fun K "_law_due" "_law_due" s_law_due f fd) {C : Addr} (T : Top w K mg C) : FnOk P w K mg base CX0 165 f fd ["_law_text_here"] (sp_law_due K) := by
  obtain ⟨f_law_row, fd_law_row, F_law_row, b_law_row, m_law_row⟩ := T.d_law_row
  have G_law_row := ok_law_row (P := P) (w := w) (base := base) F_law_row T
  obtain ⟨f_law_is_name, fd_law_is_name, F_law_is_name, b_law_is_name, m_law_is_name⟩ := T.d_law_is_name
  have G_law_is_name := ok_law_is_name (P := P) (w := w) (base := base) F_law_is_name T
  refine F.ok sc_law_due (fun vs H Q E h => ?_) (fun cdv A outer s H vs Q E hr h => ?_)
  · obtain ⟨a, rs, rws, rfl, _⟩ := h
    rfl
  obtain ⟨a, rs, rws, rfl, tx, wsn, q⟩ := h
  have sr := tx.sr
  have lrs : rs.length = rws.length := sr.length
  have few := tx.few
  have la := tx.la
  obtain ⟨n, en⟩ : ∃ n, rws.length = n + 1 := ⟨rws.length - 1, by have := List.length_pos_iff.mpr tx.ne; omega⟩
  refine ⟨_, (pss_cons (ps_setLc (i := 1) (own := [("_law_row_here", 2)]) (g := gName 2) (tt := tYes) (by rfl) sc_law_due.nd rfl rfl (sw_true rfl rfl rfl (by decide +kernel)) (pi_listK K rfl (pe_bmK K rfl PySem.F.plainAttrs_str PySem.F.slot_str_split PySem.F.type_str_split mt_split (pv 0) (pa_cons pe_str pa_nil))) (blkOk_by (own := [("_law_row_here", 2)]) (N := N_law_due) (sc := defScope s_law_due) (by decide +kernel)) (fun _ _ _ _ _ => (pg_name (i := 2) sc_law_due.nd rfl (Or.inl rfl))) (fun _ _ _ _ _ => pts_nil) (fun _ _ _ _ _ => (pe_bmK K rfl PySem.F.plainAttrs_str PySem.F.slot_str_split PySem.F.type_str_split mt_split (pv 2) (pa_cons pe_str pa_nil))))
      (pss_cons (ps_set (i := 3) sc_law_due.nd rfl (Or.inl rfl) (pe_disp (pps_cons pe_str (pe_lst pa_nil) (pps_cons pe_str (pe_lst pa_nil) pps_nil)) (by rfl) (by rfl) (fun z => by cases z) (by decide)))
      (pss_cons (ps_for PassesOwn.never rfl (pi_enumK K rfl (by rfl) T.m_enumerate (pa_cons (pv 1) pa_nil)) (pg_tupK K rfl rfl (pgs_cons (pg_name (i := 4) sc_law_due.nd rfl (Or.inl rfl)) (pgs_cons (pg_name (i := 5) sc_law_due.nd rfl (Or.inl rfl)) pgs_nil)))
        (pss_cons (ps_set (i := 6) sc_law_due.nd rfl (Or.inl rfl) (pe_callB (cr_allK K rfl rfl) (by rfl) T.m_all (by decide +kernel) (pa_cons (pe_lc (own := [("_law_word_here", 7)]) (g := gName 7) (tt := tYes) (by rfl) sc_law_due.nd (pi_listK K rfl (pe_slice (sl_listK K rfl) (pv 5) (po_some pe_int) po_none)) (blkOk_by (own := [("_law_word_here", 7)]) (N := N_law_due) (sc := defScope s_law_due) (by decide +kernel)) (fun _ _ _ _ _ => (pg_name (i := 7) sc_law_due.nd rfl (Or.inl rfl))) (fun _ _ _ _ _ => pts_nil) (fun _ _ _ _ _ => (pe_call G_law_is_name (hr.mono (by decide)) (by rfl) m_law_is_name F_law_is_name.kp b_law_is_name .nil pass0 (pa_cons (pv 7) pa_nil)))) pa_nil)))
      (pss_cons (ps_if (PW.pt (pw_or (pt_cmpR op_gt (pe_callB (call_len_seqK K rfl) (by rfl) T.m_len (by decide +kernel) (pa_cons (pv 5) pa_nil)) pe_int (nomark _)) (pw_or1 (PW.pt (pw_and (pt_cmpR op_eq (pv 4) pe_int (nomark _)) (pw_and1 (PW.pt (pw_or (pt_cmpR op_ne (pe_ix (ix_listK K rfl) (pv 5) pe_int (fun _ _ => rfl)) pe_str (nomark _)) (pw_or1 (pt_not (pt_val (pv 6)))))))))))) (pss_one (ps_ret (pe_tup (pa_cons pe_str (pa_cons (pv 4) pa_nil))))) pss_nil)
      (pss_cons (ps_if (PW.pt (pw_and (pt_cmpR op_eq (pv 4) (pe_op op_sub (pe_callB (call_len_seqK K rfl) (by rfl) T.m_len (by decide +kernel) (pa_cons (pv 1) pa_nil)) pe_int) (nomark _)) (pw_and1 (PW.pt (pw_or (pt_cmpR op_ne (pe_ix (ix_listK K rfl) (pv 5) pe_int (fun _ _ => rfl)) pe_str (nomark _)) (pw_or1 (pt_not (pt_val (pv 6))))))))) (pss_one (ps_ret (pe_tup (pa_cons pe_str (pa_cons (pv 4) pa_nil))))) pss_nil)
      (pss_one (ps_if (pt_chain op_lt op_lt pe_int (pv 4) (pe_op op_sub (pe_callB (call_len_seqK K rfl) (by rfl) T.m_len (by decide +kernel) (pa_cons (pv 1) pa_nil)) pe_int)) (pss_cons (ps_set (i := 8) sc_law_due.nd rfl (Or.inl rfl) (pe_call G_law_row (hr.mono (by decide)) (by rfl) m_law_row F_law_row.kp b_law_row .nil pass0 (pa_cons (pv 5) pa_nil)))
      (pss_cons (ps_if (pt_cmpR op_isN (pv 8) pe_non (nomark _)) (pss_one (ps_ret (pe_tup (pa_cons pe_str (pa_cons (pv 4) pa_nil))))) pss_nil)
      (pss_one (ps_expr (pe_bmK K rfl PySem.F.plainAttrs_list PySem.F.slot_list_append PySem.F.type_list_append mt_append (pe_dget (hu_of hr) (pv 3) (pe_ix (ix_tupK K rfl) (pv 8) pe_int (fun _ _ => rfl)) (fun _ _ => rfl)) (pa_cons (pe_ix (ix_tupK K rfl) (pv 8) pe_int (fun _ _ => rfl)) pa_nil)))))) pss_nil))))))
      (pss_cons (ps_set (i := 8) sc_law_due.nd rfl (Or.inl rfl) (pe_tup (pa_cons (pe_callTy (call_tuple_ofK K rfl) (by rfl) T.m_tuple (by decide +kernel) (pa_cons (pe_slice (sl_listK K rfl) (pe_ix (ix_listK K rfl) (pv 1) pe_int (fun _ _ => rfl)) (po_some pe_int) po_none) pa_nil)) (pa_cons (pe_callTy (call_tuple_ofK K rfl) (by rfl) T.m_tuple (by decide +kernel) (pa_cons (pe_dget (hu_of hr) (pv 3) pe_str (fun _ _ => rfl)) pa_nil)) (pa_cons (pe_callTy (call_tuple_ofK K rfl) (by rfl) T.m_tuple (by decide +kernel) (pa_cons (pe_dget (hu_of hr) (pv 3) pe_str (fun _ _ => rfl)) pa_nil)) (pa_cons (pe_callTy (call_tuple_ofK K rfl) (by rfl) T.m_tuple (by decide +kernel) (pa_cons (pe_slice (sl_listK K rfl) (pe_ix (ix_listK K rfl) (pv 1) (pe_un un_neg pe_int) (fun _ _ => rfl)) (po_some pe_int) po_none) pa_nil)) pa_nil))))))
      (pss_one (ps_ret (pe_tup (pa_cons pe_str (pa_cons (pv 8) pa_nil))))))))), ?_⟩
  refine ⟨_, rfl, rfl, _, _, rfl, rfl, by decide +kernel, Nat.le_trans (show a.length + 2 ≤ 8000002 by omega) (by decide), fun p0 np0 => ?_⟩
  have s1 : Same H (upd H p0 (.lst ((Txt.split a "\n").map V.str))) := same_new np0
  have hp0 : (upd H p0 (.lst ((Txt.split a "\n").map V.str))) p0 = some (.lst (rs.map V.str)) := by rw [upd_same, tx.sp]
  generalize upd H p0 (.lst ((Txt.split a "\n").map V.str)) = H1 at s1 hp0 ⊢
  refine ⟨p0, rfl, ⟨_, SqL.of hp0⟩, fun D nD => ?_⟩
  have nD0 := same_none s1 nD
  refine lc_list (K := K) (a := p0) (xs := rs.map V.str) (fun i H9 => ∃ lv, H9 D = some (.lst lv) ∧ All2 (LsAt D H9) lv (rws.take i) ∧ Same H1 H9) ⟨[], upd_same, by rw [List.take_zero]; exact .nil, same_new nD⟩ (fun i H9 _ ⟨_, _, _, s9⟩ => SqL.of (s9 _ _ hp0)) ?_ ?_
  · rintro i v H9 hx ⟨lv, hD, al, s9⟩
    rw [List.getElem?_map] at hx
    cases hk : rs[i]? with
    | none => rw [hk] at hx; cases hx
    | some r =>
    rw [hk] at hx
    obtain rfl : V.str r = v := Option.some.inj hx
    obtain ⟨u, hu, eu, lr⟩ := sr.getL hk
    have il := (List.getElem?_eq_some_iff.mp hk).1
    have lal := al.length
    rw [List.length_take] at lal
    refine ⟨rfl, yes_in ⟨_, rfl, rfl, _, _, rfl, rfl, by decide +kernel, Nat.le_trans (show r.length + 2 ≤ 8000002 by omega) (by decide), fun L nL => ?_⟩⟩
    have s10 : Same H9 (upd H9 L (.lst ((Txt.split r " ").map V.str))) := same_new nL
    have hL : (upd H9 L (.lst ((Txt.split r " ").map V.str))) L = some (.lst (u.map V.str)) := by rw [upd_same, eu]
    have LD : L ≠ D := fun z => by rw [z, hD] at nL; cases nL
    generalize upd H9 L (.lst ((Txt.split r " ").map V.str)) = H10 at s10 hL ⊢
    refine ⟨lv, s10 _ _ hD, small1000 (by omega), lv ++ [.ref L], upd_same, ?_, Same.own (s9.trans s10) nD⟩
    rw [List.take_add_one, hu]
    refine (al.imp fun x y z => ?_).snoc ⟨L, rfl, LD, by rw [upd_ne LD]; exact hL⟩
    obtain ⟨L2', e, nn, g⟩ := z
    exact ⟨L2', e, nn, by rw [upd_ne nn]; exact s10 _ _ g⟩
  rintro H2 ⟨lv, hD, al, s2⟩
  rw [List.length_map, List.take_of_length_le (by omega)] at al
  have llv : lv.length = n + 1 := by rw [al.length, en]
  have s02 := s1.trans s2
  have rowAt : ∀ {i : Nat}, i < n + 1 → ∃ L : Addr, lv[i]? = some (.ref L) ∧ H2 L = some (.lst ((rwAt rws i).map V.str)) := fun {i} hi => by
    have e : rws[i]? = some (rwAt rws i) := by
      rw [rwAt, List.getD_eq_getElem?_getD, List.getElem?_eq_getElem (by omega)]; rfl
    obtain ⟨v, ev, L, rfl, _, g⟩ := al.get e
    exact ⟨L, ev, g⟩
  have wkAt : ∀ {i : Nat}, i < n + 1 → WS (rwAt rws i) ∧ rwAt rws i ≠ [] ∧ (rwAt rws i).length ≤ 8000001 := fun {i} hi => by
    have e : rws[i]? = some (rwAt rws i) := by
      rw [rwAt, List.getD_eq_getElem?_getD, List.getElem?_eq_getElem (by omega)]; rfl
    exact wsn _ (List.mem_of_getElem? e)
  -- the parts
  refine fun d nd => ?_
  have s2d : Same H2 (upd H2 d (.dK [])) := same_new nd
  have hd0 : (upd H2 d (.dK [])) d = some (.dK []) := upd_same
  generalize upd H2 d (.dK []) = Hd at s2d hd0 ⊢
  refine ⟨(by show 0 ≤ sizeLine; decide), fun wl nwl => ?_⟩
  have s3 : Same Hd (upd Hd wl (.lst [])) := same_new nwl
  have hwl : (upd Hd wl (.lst [])) wl = some (.lst []) := upd_same
  have nwl2 := same_none s2d nwl
  generalize upd Hd wl (.lst []) = H3 at s3 hwl ⊢
  refine ⟨(by show 0 ≤ sizeLine; decide), fun rl nrl => ?_⟩
  have s4 : Same H3 (upd H3 rl (.lst [])) := same_new nrl
  have hrl : (upd H3 rl (.lst [])) rl = some (.lst []) := upd_same
  have nrl2 := same_none (s2d.trans s3) nrl
  have rwl : rl ≠ wl := fun z => by rw [z, hwl] at nrl; cases nrl
  generalize upd H3 rl (.lst []) = H4 at s4 hrl ⊢
  have hd4 := (s3.trans s4) _ _ hd0
  refine ⟨hd4, kvP wl rl, rfl, (by show 2 ≤ 15; decide), ?_⟩
  have s24 := s2d.trans (s3.trans s4)
  have dwl : d ≠ wl := fun z => by rw [← z, hd0] at nwl; cases nwl
  have drl : d ≠ rl := fun z => by rw [← z, s3 _ _ hd0] at nrl; cases nrl
  have s25 : Same H2 (upd H4 d (.dK (mergeK [] (kvP wl rl)))) := Same.own s24 nd
  have hd5 : (upd H4 d (.dK (mergeK [] (kvP wl rl)))) d = some (.dK (kvP wl rl)) := upd_same
  have hwl5 : (upd H4 d (.dK (mergeK [] (kvP wl rl)))) wl = some (.lst []) := by rw [upd_ne dwl.symm]; exact s4 _ _ hwl
  have hrl5 : (upd H4 d (.dK (mergeK [] (kvP wl rl)))) rl = some (.lst []) := by rw [upd_ne drl.symm]; exact hrl
  generalize upd H4 d (.dK (mergeK [] (kvP wl rl))) = H5 at s25 hd5 hwl5 hrl5 ⊢
  let INV : Nat → L2.St → Hp → Prop := fun i σ H6 => ∃ (v4 v5 v6 v8 : Option V) (wv rv : List V), σ = [some (.str a), some (.ref D), none, some (.ref d), v4, v5, v6, none, v8] ∧ Same H2 H6 ∧ H6 d = some (.dK (kvP wl rl)) ∧ H6 wl = some (.lst wv) ∧ H6 rl = some (.lst rv) ∧ All2 (WaAt H6) wv (wasF rws (min (i - 1) (n - 1))) ∧ All2 (RlAt H6) rv (rlsF rws (min (i - 1) (n - 1))) ∧ wv.length ≤ i ∧ rv.length ≤ i ∧ ∀ j, j < i → badB rws j = false
  refine ⟨_, rfl, D, _, rfl, SqL.of (s25 _ _ hD), for_it (n := n + 1) INV ⟨none, none, none, none, [], [], rfl, s25, hd5, hwl5, hrl5, by rw [Nat.zero_sub, Nat.zero_min]; exact .nil, by rw [Nat.zero_sub, Nat.zero_min]; exact .nil, Nat.le_refl _, Nat.le_refl _, fun j h => absurd h (Nat.not_lt_zero _)⟩ ?_ ?_ ?_ ?_⟩
  · rintro i σ H6 hi ⟨_, _, _, _, _, _, rfl, s6, _⟩
    exact ⟨_, _, SqL.of (s6 _ _ hD), List.getElem?_eq_getElem (by omega)⟩
  · rintro σ H6 ⟨_, _, _, _, _, _, rfl, s6, _⟩
    exact ⟨_, SqL.of (s6 _ _ hD), by omega⟩
  · rintro i x σ H6 H7 hi ⟨v4, v5, v6, v8, wv, rv, rfl, s6, hd, hw, hr, aw, ar, lw, lr, pre⟩ ⟨t, y, rfl, nt, rfl, fy⟩
    obtain ⟨L, eL, hL⟩ := rowAt (i := i) hi
    obtain ⟨wsu, une, ulen⟩ := wkAt (i := i) hi
    obtain rfl : y = V.ref L := by
      have := fy _ (SqL.of (s6 _ _ hD))
      rw [eL] at this
      exact (Option.some.inj this).symm
    generalize hu : rwAt rws i = u at hL wsu une ulen
    have s67 : Same H6 (upd H6 t (.tup [V.int ((i : Nat) : Int), V.ref L])) := same_new nt
    have ht7 : (upd H6 t (.tup [V.int ((i : Nat) : Int), V.ref L])) t = some (.tup [V.int ((i : Nat) : Int), V.ref L]) := upd_same
    generalize upd H6 t (.tup [V.int ((i : Nat) : Int), V.ref L]) = H7 at s67 ht7 ⊢
    refine ⟨t, _, rfl, SqT.of ht7, rfl, _, _, rfl, _, _, rfl, rfl, ?_⟩
    have hL7 := s67 _ _ (s6 _ _ hL)
    refine ⟨_, rfl, _, rfl, L, _, rfl, SqL.of hL7, fun p np => ?_⟩
    have s8 : Same H7 (upd H7 p (.lst (cutV (u.map V.str) (some 1) none))) := same_new np
    have hp : (upd H7 p (.lst (cutV (u.map V.str) (some 1) none))) p = some (.lst (u.tail.map V.str)) := by rw [upd_same, show (1 : Int) = ((1 : Nat) : Int) from rfl, cutD, List.drop_one]
    generalize upd H7 p (.lst (cutV (u.map V.str) (some 1) none)) = H8 at s8 hp ⊢
    have wt := wsu.suf (Suf.tail u)
    refine ⟨p, rfl, ⟨_, SqL.of hp⟩, fun E nE => lc_list (K := K) (a := p) (xs := u.tail.map V.str) (fun k H9 => H9 E = some (.lst (((u.tail.take k).map nameB).map V.bl)) ∧ Same H8 H9) ⟨upd_same, same_new nE⟩ (fun k H9 _ ⟨_, s9⟩ => SqL.of (s9 _ _ hp)) ?_ ?_⟩
    · rintro k z H9 hz ⟨hE, s9⟩
      rw [List.getElem?_map] at hz
      cases en : u.tail[k]? with
      | none => rw [en] at hz; cases hz
      | some y =>
      rw [en] at hz
      obtain rfl : V.str y = z := Option.some.inj hz
      have kl := (List.getElem?_eq_some_iff.mp en).1
      refine ⟨rfl, yes_in ⟨_, rfl, y, rfl, (wt y (List.mem_of_getElem? en)).1, fun H10 s10 => ⟨_, s10 _ _ hE, ?_, ?_, Same.own (s9.trans s10) nE⟩⟩⟩
      · rw [List.length_tail] at kl
        rw [List.length_map, List.length_map, List.length_take]
        exact Nat.lt_of_lt_of_le (show _ < 8000002 by omega) (by decide)
      · rw [upd_same, List.take_add_one, en, List.map_append, List.map_append]; rfl
    rintro H9 ⟨hE, s9⟩
    rw [List.length_map, List.take_length] at hE
    refine ⟨E, _, rfl, SqL.of hE, ?_⟩
    have enb : ((u.tail.map nameB).all id) = u.tail.all nameB := by rw [List.all_map]; rfl
    rw [enb]
    generalize hnb : u.tail.all nameB = nb
    have s29 : Same H2 H9 := s6.trans (s67.trans (s8.trans s9))
    have s09 : Same H H9 := s02.trans s29
    have s69 : Same H6 H9 := s67.trans (s8.trans s9)
    have hL9 := s29 _ _ hL
    have hD9 := s29 _ _ hD
    have hb : badB rws i = (decide (40 < u.length) || (decide (i = 0) && (!decide (u.headD "" = "in") || !nb)) || (decide (i + 1 = rws.length) && (!decide (u.headD "" = "out") || !nb)) || (decide (0 < i) && decide (i + 1 < rws.length) && (midO u).isNone)) := by
      unfold badB
      rw [hu, names_none, names_none, hnb]
    obtain ⟨z0, r0, hu0⟩ : ∃ z r, u = z :: r := by
      cases u with
      | nil => exact absurd rfl une
      | cons z r => exact ⟨z, r, rfl⟩
    have at0 : atI (u.map V.str) ((0 : Nat) : Int) = some (.str (u.headD "")) := atI_nat (by rw [hu0]; rfl)
    have ret : ∀ {H10 : Hp}, Same H H10 → badB rws i = true → ∀ p, H10 p = none → Q (.ref p) (upd H10 p (.tup [.str "refused", .int ((i : Nat) : Int)])) := fun {H10} s hbad p np => q (.ref p) _ (.inl ⟨i, p, by omega, hbad, pre, rfl, upd_same⟩) (s.trans (same_new np))
    -- too many words
    refine ⟨_, rfl, L, _, rfl, .inl (SqL.of hL9), _, _, rfl, rfl, _, rfl, if_bl (fun c => ?_) (fun c => ?_)⟩
    · have c := of_decide_eq_true c
      rw [List.length_map] at c
      exact ⟨_, rfl, (by show 2 ≤ sizeLine; decide), ret s09 (by rw [hb, decide_eq_true (show 40 < u.length by omega)]; rfl)⟩
    have c := of_decide_eq_false c
    rw [List.length_map] at c
    have l40 : ¬ 40 < u.length := by omega
    rw [decide_eq_false l40, Bool.false_or] at hb
    refine ⟨_, rfl, rfl, _, rfl, ?_⟩
    have e0 : decide (V.int ((i : Nat) : Int) = V.int 0) = decide (i = 0) := dint_nat i 0
    show (if decide (V.int ((i : Nat) : Int) = V.int 0) = true then _ else _)
    rw [e0]
    refine if_know (K := i = 0 → u.headD "" = "in" ∧ nb = true) (fun c n => ?_) (fun c h => absurd h (of_decide_eq_false c)) (fun hin => ?_)
    · have c := of_decide_eq_true c
      rw [decide_eq_true c, Bool.true_and] at hb
      refine ⟨_, rfl, L, _, _, _, rfl, rfl, SqL.of hL9, at0, rfl, _, rfl, if_strN (fun ne => ?_) (fun eq => ?_)⟩
      · exact ⟨_, rfl, (by show 2 ≤ sizeLine; decide), ret s09 (by rw [hb, decide_eq_false ne]; rfl)⟩
      refine ⟨_, rfl, nb, rfl, ?_⟩
      cases hnb' : nb with
      | true => exact if_bl (fun z => nomatch z) (fun _ => hnb' ▸ n fun _ => ⟨eq, hnb'⟩)
      | false =>
        refine if_bl (fun _ => ?_) (fun z => nomatch z)
        exact ⟨_, rfl, (by show 2 ≤ sizeLine; decide), ret s09 (by rw [hb, hnb']; simp)⟩
    -- the last row
    have elast : ((lv.length : Nat) : Int) - 1 = ((n : Nat) : Int) := by rw [llv]; omega
    refine ⟨_, rfl, _, rfl, D, _, rfl, .inl (SqL.of hD9), _, _, rfl, rfl, rfl, _, rfl, ?_⟩
    show (if decide (V.int ((i : Nat) : Int) = V.int (((lv.length : Nat) : Int) - 1)) = true then _ else _)
    rw [elast, dint_nat]
    refine if_know (K := i = n → u.headD "" = "out" ∧ nb = true) (fun c nx => ?_) (fun c h => absurd h (of_decide_eq_false c)) (fun hout => ?_)
    · have c := of_decide_eq_true c
      have hb : badB rws i = true ∨ (u.headD "" = "out" ∧ nb = true) := by
        by_cases g : u.headD "" = "out" ∧ nb = true
        · exact .inr g
        · refine .inl ?_
          have g2 : (!decide (u.headD "" = "out") || !nb) = true := by
            by_cases g1 : u.headD "" = "out"
            · cases h : nb with
              | true => exact absurd ⟨g1, h⟩ g
              | false => rw [Bool.not_false, Bool.or_true]
            · rw [decide_eq_false g1]; rfl
          rw [hb, g2, decide_eq_true (show i + 1 = rws.length by omega), Bool.true_and, Bool.or_true, Bool.true_or]
      refine ⟨_, rfl, L, _, _, _, rfl, rfl, SqL.of hL9, at0, rfl, _, rfl, if_strN (fun ne => ?_) (fun eq => ?_)⟩
      · exact ⟨_, rfl, (by show 2 ≤ sizeLine; decide), ret s09 (hb.resolve_right fun h => ne h.1)⟩
      refine ⟨_, rfl, nb, rfl, ?_⟩
      cases hnb' : nb with
      | true => exact if_bl (fun z => nomatch z) (fun _ => hnb' ▸ nx fun _ => ⟨eq, hnb'⟩)
      | false =>
        refine if_bl (fun _ => ?_) (fun z => nomatch z)
        exact ⟨_, rfl, (by show 2 ≤ sizeLine; decide), ret s09 (hb.resolve_right fun h => by rw [hnb'] at h; exact Bool.false_ne_true h.2)⟩
    -- a row amid
    refine if_bl (fun z => nomatch z) (fun _ => ?_)
    have hw9 := s69 _ _ hw
    have hr9 := s69 _ _ hr
    have hd9 := s69 _ _ hd
    have k69 : TK H6 H9 := TK.same s69
    have prest : badB rws i = false → ∀ j, j < i + 1 → badB rws j = false := fun h j hj => by
      by_cases c : j = i
      · rw [c]; exact h
      · exact pre j (by omega)
    have hbf : (midO u).isNone = false ∨ ¬ (0 < i ∧ i < n) → badB rws i = false := fun hm => by
      have e1 : (decide (i = 0) && (!decide (u.headD "" = "in") || !nb)) = false := by
        by_cases c : i = 0
        · rw [(hin c).2, decide_eq_true (hin c).1, Bool.not_true, Bool.or_false, Bool.and_false]
        · rw [decide_eq_false c, Bool.false_and]
      have e2 : (decide (i + 1 = rws.length) && (!decide (u.headD "" = "out") || !nb)) = false := by
        by_cases c : i + 1 = rws.length
        · rw [(hout (by omega)).2, decide_eq_true (hout (by omega)).1, Bool.not_true, Bool.or_false, Bool.and_false]
        · rw [decide_eq_false c, Bool.false_and]
      have e3 : (decide (0 < i) && decide (i + 1 < rws.length) && (midO u).isNone) = false := by
        rcases hm with h | h
        · rw [h, Bool.and_false]
        · by_cases c : 0 < i
          · rw [decide_eq_false (show ¬ i + 1 < rws.length by omega), Bool.and_false, Bool.false_and]
          · rw [decide_eq_false c, Bool.false_and, Bool.false_and]
      rw [hb, e1, e2, e3]
      rfl
    have fin0 : ¬ (0 < i ∧ i < n) → INV (i + 1) [some (.str a), some (.ref D), none, some (.ref d), some (nV i), some (.ref L), some (.bl nb), none, v8] H9 := fun h => by
      have em : min (i + 1 - 1) (n - 1) = min (i - 1) (n - 1) := by omega
      refine ⟨_, _, _, v8, wv, rv, rfl, s29, hd9, hw9, hr9, ?_, ?_, by omega, by omega, prest (hbf (.inr h))⟩
      · rw [em]; exact aw.imp fun _ _ z => z.keep k69
      · rw [em]; exact ar.imp fun _ _ z => z.keep k69
    refine ⟨_, rfl, _, _, rfl, rfl, _, rfl, if_bl (fun c1 => ?_) (fun c1 => ⟨_, rfl, if_bl (fun z => nomatch z) (fun _ => fin0 fun h => of_decide_eq_false c1 (by omega))⟩)⟩
    have c1 := of_decide_eq_true c1
    refine ⟨_, rfl, D, _, rfl, .inl (SqL.of hD9), _, _, rfl, rfl, _, _, rfl, rfl, _, rfl, if_bl (fun c2 => ?_) (fun c2 => fin0 fun h => of_decide_eq_false c2 (by omega))⟩
    have c2 := of_decide_eq_true c2
    obtain ⟨i', rfl⟩ : ∃ i', i = i' + 1 := ⟨i - 1, by omega⟩
    have hin : i' + 1 < n := by omega
    refine ⟨_, rfl, L, u, rfl, hL9, wsu, by omega, fun v H10 s10 rv10 => ?_⟩
    have s010 := s09.trans s10
    have s210 := s29.trans s10
    have s610 := s69.trans s10
    cases em : midO u with
    | none =>
      rw [em] at rv10
      obtain rfl : v = .non := rv10
      refine ⟨_, rfl, rfl, _, rfl, if_bl (fun _ => ?_) (fun z => nomatch z)⟩
      exact ⟨_, rfl, (by show 2 ≤ sizeLine; decide), ret s010 (by rw [hb, em, decide_eq_true (show 0 < i' + 1 by omega), decide_eq_true (show i' + 1 + 1 < rws.length by omega)]; simp)⟩
    | some m =>
      have em2 : midO (rwAt rws (i' + 1)) = some m := by rw [hu, em]
      have good := prest (hbf (.inl (by rw [em]; rfl)))
      have mn : min (i' + 1 - 1) (n - 1) = i' := by omega
      have mn2 : min (i' + 1 + 1 - 1) (n - 1) = i' + 1 := by omega
      rw [mn] at aw ar
      have hw10 := s610 _ _ hw
      have hr10 := s610 _ _ hr
      have hd10 := s610 _ _ hd
      have k610 : TK H6 H10 := TK.same s610
      cases m with
      | inl p =>
        rw [em] at rv10
        obtain ⟨a', x, rfl, ha', hx⟩ := rv10
        refine ⟨_, rfl, rfl, _, rfl, if_bl (fun z => nomatch z) (fun _ => ?_)⟩
        have dg : DGet H10 d (.str "was") (some (.ref wl)) := by
          have := DGet.k (k := Sum.inr "was") hd10
          rwa [show valV (kvP wl rl) (Sum.inr "was") = some (.ref wl) from rfl] at this
        have kd : TK H10 (upd H10 wl (.lst (wv ++ [x]))) := TK.lst hw10
        refine ⟨_, rfl, _, rfl, a', _, _, _, rfl, rfl, SqT.of ha', atI_nat (j := 0) rfl, d, .ref wl, rfl, dg, .inl ⟨rfl, _, SqL.of hw10⟩, _, rfl, a', _, _, _, rfl, rfl, SqT.of ha', atI_nat (j := 1) rfl, wl, _, _, rfl, rfl, hw10, small1000 (by omega), ?_⟩
        refine ⟨_, _, _, _, wv ++ [x], rv, rfl, Same.own s210 nwl2, by rw [upd_ne dwl]; exact hd10, upd_same, by rw [upd_ne rwl]; exact hr10, ?_, ?_, by rw [List.length_append]; show _ + 1 ≤ _; omega, by omega, good⟩
        · rw [mn2, wasF_succ em2]
          exact (aw.imp fun _ _ z => (z.keep k610).keep kd).snoc (hx.keep kd)
        · rw [mn2, rlsF_succ em2]
          show All2 _ _ (_ ++ [])
          rw [List.append_nil]
          exact ar.imp fun _ _ z => (z.keep k610).keep kd
      | inr p =>
        rw [em] at rv10
        obtain ⟨a', x, rfl, ha', hx⟩ := rv10
        refine ⟨_, rfl, rfl, _, rfl, if_bl (fun z => nomatch z) (fun _ => ?_)⟩
        have dg : DGet H10 d (.str "rule") (some (.ref rl)) := by
          have := DGet.k (k := Sum.inr "rule") hd10
          rwa [show valV (kvP wl rl) (Sum.inr "rule") = some (.ref rl) from rfl] at this
        have kd : TK H10 (upd H10 rl (.lst (rv ++ [x]))) := TK.lst hr10
        refine ⟨_, rfl, _, rfl, a', _, _, _, rfl, rfl, SqT.of ha', atI_nat (j := 0) rfl, d, .ref rl, rfl, dg, .inl ⟨rfl, _, SqL.of hr10⟩, _, rfl, a', _, _, _, rfl, rfl, SqT.of ha', atI_nat (j := 1) rfl, rl, _, _, rfl, rfl, hr10, small1000 (by omega), ?_⟩
        refine ⟨_, _, _, _, wv, rv ++ [x], rfl, Same.own s210 nrl2, by rw [upd_ne drl]; exact hd10, by rw [upd_ne rwl.symm]; exact hw10, upd_same, ?_, ?_, by omega, by rw [List.length_append]; show _ + 1 ≤ _; omega, good⟩
        · rw [mn2, wasF_succ em2]
          show All2 _ _ (_ ++ [])
          rw [List.append_nil]
          exact aw.imp fun _ _ z => (z.keep k610).keep kd
        · rw [mn2, rlsF_succ em2]
          exact (ar.imp fun _ _ z => (z.keep k610).keep kd).snoc (hx.keep kd)
  · rintro σ H6 ⟨v4, v5, v6, v8, wv, rv, rfl, s6, hd, hw, hr, aw, ar, lw, lr, pre⟩
    have k6 : Same H2 H6 := s6
    obtain ⟨L0, eL0, hL0⟩ := rowAt (i := 0) (by omega)
    obtain ⟨Ln, eLn, hLn⟩ := rowAt (i := n) (by omega)
    have hD6 := s6 _ _ hD
    have bad0 : ∀ j, j < rws.length → badB rws j = false := fun j h => pre j (by omega)
    have lastAt : atI lv (-1) = some (.ref Ln) := by
      obtain ⟨xs, x, rfl⟩ : ∃ xs x, lv = xs ++ [x] := by
        rcases List.eq_nil_or_concat lv with h | ⟨xs, x, h⟩
        · rw [h] at llv; cases llv
        · exact ⟨xs, x, by rw [h, List.concat_eq_append]⟩
      rw [at_last]
      rw [List.length_append] at llv
      have : xs.length = n := by simpa using llv
      rw [List.getElem?_append_right (by omega), this, Nat.sub_self] at eLn
      exact eLn
    have dgw : ∀ {H' : Hp}, H' d = some (.dK (kvP wl rl)) → DGet H' d (.str "was") (some (.ref wl)) := fun {H'} h => by
      have := DGet.k (k := Sum.inr "was") h
      rwa [show valV (kvP wl rl) (Sum.inr "was") = some (.ref wl) from rfl] at this
    have dgr : ∀ {H' : Hp}, H' d = some (.dK (kvP wl rl)) → DGet H' d (.str "rule") (some (.ref rl)) := fun {H'} h => by
      have := DGet.k (k := Sum.inr "rule") h
      rwa [show valV (kvP wl rl) (Sum.inr "rule") = some (.ref rl) from rfl] at this
    refine ⟨_, rfl, D, _, _, _, rfl, rfl, SqL.of hD6, atI_nat (j := 0) eL0, _, rfl, L0, _, rfl, SqL.of (s6 _ _ hL0), fun p1 np1 => ?_⟩
    have u1 : Same H6 (upd H6 p1 (.lst (cutV ((rwAt rws 0).map V.str) (some 1) none))) := same_new np1
    have hp1 : (upd H6 p1 (.lst (cutV ((rwAt rws 0).map V.str) (some 1) none))) p1 = some (.lst ((rwAt rws 0).tail.map V.str)) := by rw [upd_same, show (1 : Int) = ((1 : Nat) : Int) from rfl, cutD, List.drop_one]
    generalize upd H6 p1 (.lst (cutV ((rwAt rws 0).map V.str) (some 1) none)) = J1 at u1 hp1 ⊢
    refine ⟨p1, _, rfl, .inl ⟨SqL.of hp1, fun t1 nt1 => ?_⟩⟩
    have u2 : Same J1 (upd J1 t1 (.tup ((rwAt rws 0).tail.map V.str))) := same_new nt1
    have ht1 : (upd J1 t1 (.tup ((rwAt rws 0).tail.map V.str))) t1 = some (.tup ((rwAt rws 0).tail.map V.str)) := upd_same
    generalize upd J1 t1 (.tup ((rwAt rws 0).tail.map V.str)) = J2 at u2 ht1 ⊢
    have u02 := u1.trans u2
    refine ⟨_, rfl, d, .ref wl, rfl, dgw (u02 _ _ hd), wl, _, rfl, .inl ⟨SqL.of (u02 _ _ hw), fun t2 nt2 => ?_⟩⟩
    have u3 : Same J2 (upd J2 t2 (.tup wv)) := same_new nt2
    have ht2 : (upd J2 t2 (.tup wv)) t2 = some (.tup wv) := upd_same
    generalize upd J2 t2 (.tup wv) = J3 at u3 ht2 ⊢
    have u03 := u02.trans u3
    refine ⟨_, rfl, d, .ref rl, rfl, dgr (u03 _ _ hd), rl, _, rfl, .inl ⟨SqL.of (u03 _ _ hr), fun t3 nt3 => ?_⟩⟩
    have u4 : Same J3 (upd J3 t3 (.tup rv)) := same_new nt3
    have ht3 : (upd J3 t3 (.tup rv)) t3 = some (.tup rv) := upd_same
    generalize upd J3 t3 (.tup rv) = J4 at u4 ht3 ⊢
    have u04 := u03.trans u4
    refine ⟨_, rfl, _, rfl, D, _, _, _, rfl, rfl, SqL.of (u04 _ _ hD6), lastAt, _, rfl, Ln, _, rfl, SqL.of (u04 _ _ (s6 _ _ hLn)), fun p5 np5 => ?_⟩
    have u5 : Same J4 (upd J4 p5 (.lst (cutV ((rwAt rws n).map V.str) (some 1) none))) := same_new np5
    have hp5 : (upd J4 p5 (.lst (cutV ((rwAt rws n).map V.str) (some 1) none))) p5 = some (.lst ((rwAt rws n).tail.map V.str)) := by rw [upd_same, show (1 : Int) = ((1 : Nat) : Int) from rfl, cutD, List.drop_one]
    generalize upd J4 p5 (.lst (cutV ((rwAt rws n).map V.str) (some 1) none)) = J5 at u5 hp5 ⊢
    refine ⟨p5, _, rfl, .inl ⟨SqL.of hp5, fun t6 nt6 => ?_⟩⟩
    have u6 : Same J5 (upd J5 t6 (.tup ((rwAt rws n).tail.map V.str))) := same_new nt6
    have ht6 : (upd J5 t6 (.tup ((rwAt rws n).tail.map V.str))) t6 = some (.tup ((rwAt rws n).tail.map V.str)) := upd_same
    generalize upd J5 t6 (.tup ((rwAt rws n).tail.map V.str)) = J6 at u6 ht6 ⊢
    refine ⟨(by show 4 ≤ sizeLine; decide), fun t7 nt7 => ?_⟩
    have u7 : Same J6 (upd J6 t7 (.tup [.ref t1, .ref t2, .ref t3, .ref t6])) := same_new nt7
    have ht7 : (upd J6 t7 (.tup [.ref t1, .ref t2, .ref t3, .ref t6])) t7 = some (.tup [.ref t1, .ref t2, .ref t3, .ref t6]) := upd_same
    generalize upd J6 t7 (.tup [.ref t1, .ref t2, .ref t3, .ref t6]) = J7 at u7 ht7 ⊢
    refine ⟨_, rfl, (by show 2 ≤ sizeLine; decide), fun t8 nt8 => ?_⟩
    have u8 : Same J7 (upd J7 t8 (.tup [.str "told", .ref t7])) := same_new nt8
    have w7 := u7.trans u8
    have w6 := u6.trans w7
    have w5 := u5.trans w6
    have w4 := u4.trans w5
    have w3 := u3.trans w4
    have w08 := u02.trans w3
    have e2 : rws.length - 2 = min (n + 1 - 1) (n - 1) := by omega
    have e3 : rws.length - 1 = n := by omega
    refine q (.ref t8) _ (.inr ⟨bad0, t8, t7, rfl, upd_same, t1, t2, t3, t6, wv, rv, u8 _ _ ht7, w3 _ _ ht1, w4 _ _ ht2, ?_, w5 _ _ ht3, ?_, ?_⟩) ((s02.trans s6).trans w08)
    · show All2 _ _ (wasF rws (rws.length - 2))
      rw [e2]
      exact aw.imp fun _ _ z => z.keep (TK.same w08)
    · show All2 _ _ (rlsF rws (rws.length - 2))
      rw [e2]
      exact ar.imp fun _ _ z => z.keep (TK.same w08)
    · show _ = some (HO.tup ((rwAt rws (rws.length - 1)).tail.map V.str))
      rw [e3]
      exact w7 _ _ ht6
end
/-! ### what is told -/
section
variable {P : Program} {w : World} {K : PySem.W.Frag} {mg : Str → Option Value} {base : Heap}
variable {cN cF : Addr} {PT : Addr × Addr} [TN : TabN K mg base cN PT] [TF : TabF K mg base cF PT]
def sp_law_told (K : PySem.W.Frag) (C : Addr) (PT : Addr × Addr) : Sp := fun vs H Q _ => ∃ (a : Str) (rs : List Str) (rws : List (List Str)), vs = [.str a] ∧ TB a rs rws ∧ Tb2 PT H ∧ ∀ (v : V) (H' : Hp), DueT H' v rws → LamX.ExtN H H' → Tb2 PT H' → Q v H'
include TN TF in
theorem ok_law_told {f : Addr} {fd : FuncData} (F : Fun K "_law_told" "_law_told" s_law_told f fd) {C : Addr} (T : Top w K mg C) : FnOk P w K mg base CX0 210 f fd ["_law_text_here"] (sp_law_told K C PT) := by
  obtain ⟨f_read_formulas, fd_read_formulas, F_read_formulas, b_read_formulas, m_read_formulas⟩ := T.d_read_formulas
  have G_read_formulas := ok_read_formulas (P := P) (w := w) (base := base) F_read_formulas T
  obtain ⟨fdI, N⟩ := T.x_ns
  have GI := ok_NsInit (P := P) (w := w) (base := base) N
  refine F.ok sc_law_told (fun vs H Q E h => ?_) (fun cdv A outer s H vs Q E hr h => ?_)
  · obtain ⟨a, rs, rws, rfl, _⟩ := h
    rfl
  obtain ⟨a, rs, rws, rfl, tx, tb, q⟩ := h
  refine ⟨_, (pss_cons (ps_set (i := 1) sc_law_told.nd rfl (Or.inl rfl) (pe_tup (pa_cons pe_str pa_nil)))
      (pss_cons (ps_try_as (i := 2) rfl rfl sc_law_told.nd rfl rfl ⟨by rfl, by decide, .inl N.gC⟩ takes0
        (fun W pn xe tk _ => (pss_one (ps_set (i := 1) sc_law_told.nd rfl (Or.inl rfl) (pe_tup (pa_cons pe_str (pa_cons (pe_callS G_read_formulas (hr.mono (by decide)) (by rfl) m_read_formulas F_read_formulas.kp b_read_formulas (fun σ => passAt tk σ) (pa_cons (pv 0) pa_nil)) pa_nil))))))
        (fun a oe cls d pn hz hf => (pss_cons (ps_set (i := 1) sc_law_told.nd rfl (Or.inl rfl) (pe_tup (pa_cons pe_str (pa_cons (pe_xf N.xf N.nr hz hf (pv 2)) pa_nil))))
      (pss_one (ps_if (PW.pt (pw_or (pt_not (pt_val (pe_callB (call_isF N.is_ hz hf) (by rfl) T.m_isinstance (by decide +kernel) (pa_cons (pv 2) (pa_cons (pe_glob (v := .ref (He.ga K "BeltError")) (by rfl) N.gB rfl) pa_nil))))) (pw_or1 (pt_val (pe_callB (call_isFT N.is_ hz hf) (by rfl) T.m_isinstance (by decide +kernel) (pa_cons (pv 2) (pa_cons (pe_tup (pa_cons (pe_glob (v := .ref (He.ga K "NoFormula")) (by rfl) T.x_NoFormula rfl) (pa_cons (pe_glob (v := .ref (He.ga K "NoRoom")) (by rfl) T.x_NoRoom rfl) (pa_cons (pe_glob (v := .ref (He.ga K "NoShift")) (by rfl) T.x_NoShift rfl) (pa_cons (pe_glob (v := .ref (He.ga K "NoName")) (by rfl) T.x_NoName rfl) (pa_cons (pe_glob (v := .ref (He.ga K "NoRow")) (by rfl) T.x_NoRow rfl) pa_nil)))))) pa_nil))))))) (pss_one (ps_set (i := 1) sc_law_told.nd rfl (Or.inl rfl) (pe_tup (pa_cons pe_str pa_nil)))) pss_nil)))))
      (pss_one (ps_ret (pv 1))))), ?_⟩
  refine ⟨(by show 1 ≤ sizeLine; decide), fun p0 np0 => ?_⟩
  have s1 : Same H (upd H p0 (.tup [.str "other"])) := same_new np0
  have tb1 := tb.same s1
  generalize upd H p0 (.tup [.str "other"]) = H1 at s1 tb1 ⊢
  have x1 := ext_same s1
  refine ⟨_, rfl, a, rs, rws, rfl, tx, tb1, fun r H2 good hF x2 tb2 => ?_, fun k d H2 hk bad pre hd x2 tb2 => ?_⟩
  · refine ⟨(by show 2 ≤ sizeLine; decide), fun p np => ?_⟩
    have s3 : Same H2 (upd H2 p (.tup [.str "told", .ref r])) := same_new np
    refine ⟨_, rfl, ?_⟩
    exact q (.ref p) _ (.inr ⟨good, p, r, rfl, upd_same, hF.keep (TK.same s3)⟩) ((x1.trans x2).trans (ext_same s3)) (tb2.same s3)
  · refine ⟨true, N.tc, fun _ a' na => ?_, fun z => nomatch z⟩
    refine ⟨_, rfl, rfl, rfl, d, _, nV k, rfl, hd, rfl, (by show 2 ≤ sizeLine; decide), fun p np => ?_⟩
    have u0 : Same H2 (upd H2 p (.tup [.str "refused", nV k])) := same_new np
    have hp : (upd H2 p (.tup [.str "refused", nV k])) p = some (.tup [.str "refused", nV k]) := upd_same
    have hd0 := u0 _ _ hd
    refine ⟨_, rfl, rfl, ⟨d, _, rfl, hd0⟩, V.ref (He.ga K "BeltError"), .ref (He.ga K "BeltError"), true, rfl, fun u r => r, N.kb, _, rfl, if_bl (fun z => nomatch z) (fun _ => ?_)⟩
    refine ⟨_, rfl, (by show 5 ≤ sizeLine; decide), fun tp ntp => ?_⟩
    have u1 := same_new (o := .tup [V.ref (He.ga K "NoFormula"), V.ref (He.ga K "NoRoom"), V.ref (He.ga K "NoShift"), V.ref (He.ga K "NoName"), V.ref (He.ga K "NoRow")]) ntp
    have hd1 := u1 _ _ hd0
    refine ⟨rfl, ⟨d, _, rfl, hd1⟩, tp, _, _, false, rfl, upd_same, .cons (.own _) (.cons (.own _) (.cons (.own _) (.cons (.own _) (.cons (.own _) .nil)))), N.ko, _, rfl, if_bl (fun z => nomatch z) (fun _ => ?_)⟩
    refine ⟨_, rfl, ?_⟩
    exact q (.ref p) _ (.inl ⟨k, p, hk, bad, pre, rfl, u1 _ _ hp⟩) ((x1.trans x2).trans (ext_same (u0.trans u1))) (tb2.same (u0.trans u1))
end
/-! ### what is read can be shown -/
theorem numO_small {l : List Nat} {i : Int} (h : numO l = some i) : i.natAbs < 10 ^ 9 := by
  obtain ⟨l9, _, ad, e⟩ := numO_some h
  have := digVal_le 9 (figL l) (fun c hc => (ad c hc).2) l9
  rw [e]
  split <;> omega
theorem name_nm {z : Str} (h : nameB z = true) : Nm z := by
  unfold nameB at h
  split at h
  · cases h
  · rename_i c
    rw [Bool.and_eq_true, List.all_eq_true] at h
    refine ⟨?_, ?_⟩
    · have : PyData.strOk z = true := by
        unfold PyData.strOk
        rw [Array.all_eq_true_iff_forall_mem]
        intro d hd
        have := (letters_ok d (of_decide_eq_true (h.2 d (Array.mem_toList_iff.mpr hd)))).2
        exact decide_eq_true (by omega)
      simp [PyData.canLay0, this]
    · show z.length ≤ 9
      omega
/-- a tree that can be shown -/
def Tr.nice : Tr → Prop
  | .nm n k => Nm n ∧ k < 10 ^ 9
  | .no i => i.natAbs < 10 ^ 9
  | .tm k t => k.natAbs < 10 ^ 9 ∧ t.nice
  | .o2 _ a b => a.nice ∧ b.nice
  | .o3 a b c => a.nice ∧ b.nice ∧ c.nice
theorem nice_neat : ∀ {t : Tr}, t.nice → Neat (trD t) t.dep (100 * t.parts.length) := by
  intro t
  induction t with
  | nm n k =>
    intro h
    have h : Nm n ∧ k < 10 ^ 9 := h
    exact (Neat.tup (.cons (Neat.str (x := "name") (n := 4) (dp := 0) (by decide +kernel) (by decide +kernel)) (.cons (Neat.str h.1.lay h.1.few) (.cons (Neat.int (i := ((k : Nat) : Int)) (by have := h.2; omega)) .nil)))).mono (Nat.le_refl _) (by show _ ≤ 100 * 1; decide)
  | no i =>
    intro h
    have h : i.natAbs < 10 ^ 9 := h
    exact (Neat.tup (.cons (Neat.str (x := "number") (n := 6) (dp := 0) (by decide +kernel) (by decide +kernel)) (.cons (Neat.int (i := i) (by omega)) .nil))).mono (Nat.le_refl _) (by show _ ≤ 100 * 1; decide)
  | tm k t ih =>
    intro h
    have h : k.natAbs < 10 ^ 9 ∧ t.nice := h
    have i1 := ih h.2
    refine (Neat.tup (.cons (Neat.str (x := "times") (n := 5) (dp := t.dep) (by decide +kernel) (by decide +kernel)) (.cons (Neat.int (i := k) (by have := h.1; omega)) (.cons i1 .nil)))).mono (Nat.le_refl _) ?_
    rw [Tr.parts, List.length_append]
    show _ ≤ 100 * (_ + 1)
    omega
  | o2 w a b iha ihb =>
    intro h
    have h : a.nice ∧ b.nice := h
    have i1 := (iha h.1).mono (Nat.le_max_left a.dep b.dep) (Nat.le_refl _)
    have i2 := (ihb h.2).mono (Nat.le_max_right a.dep b.dep) (Nat.le_refl _)
    refine (Neat.tup (.cons (Neat.str (x := w.s) (n := 9) (dp := max a.dep b.dep) w.nm.lay w.nm.few) (.cons i1 (.cons i2 .nil)))).mono (Nat.le_refl _) ?_
    rw [Tr.parts, List.length_append, List.length_append]
    show _ ≤ 100 * (_ + 1)
    omega
  | o3 a b c iha ihb ihc =>
    intro h
    have h : a.nice ∧ b.nice ∧ c.nice := h
    have i1 := (iha h.1).mono (Nat.le_max_left a.dep (max b.dep c.dep)) (Nat.le_refl _)
    have i2 := (ihb h.2.1).mono (Nat.le_trans (Nat.le_max_left b.dep c.dep) (Nat.le_max_right a.dep (max b.dep c.dep))) (Nat.le_refl _)
    have i3 := (ihc h.2.2).mono (Nat.le_trans (Nat.le_max_right b.dep c.dep) (Nat.le_max_right a.dep (max b.dep c.dep))) (Nat.le_refl _)
    refine (Neat.tup (.cons (Neat.str (x := "pick") (n := 9) (dp := max a.dep (max b.dep c.dep)) (by decide +kernel) (by decide +kernel)) (.cons i1 (.cons i2 (.cons i3 .nil))))).mono (Nat.le_refl _) ?_
    rw [Tr.parts, List.length_append, List.length_append, List.length_append]
    show _ ≤ 100 * (_ + 1)
    omega
/-- what a reader tells can be shown, and is no more than its words -/
def Nice (e : List Str → PR) : Prop := ∀ u t r, e u = some (t, r) → t.nice ∧ t.parts.length + r.length ≤ u.length
theorem tl_len {u : List Str} (h : 0 < u.length) : u.tail.length + 1 = u.length := by rw [List.length_tail]; omega
theorem pAgo_small {u r : List Str} {k : Nat} (h : pAgo u = some (k, r)) : k < 10 ^ 9 := by
  unfold pAgo at h
  split at h
  · split at h
    · rename_i i ei
      have := numO_small ei
      split at h
      · cases h
      · obtain ⟨rfl, _⟩ := Prod.mk.inj (Option.some.inj h)
        omega
    · cases h
  · obtain ⟨rfl, _⟩ := Prod.mk.inj (Option.some.inj h)
    decide
theorem pBr_nice {e : List Str → PR} (l : Nice e) : ∀ u t r, u.headD "" = ("(" : Str) → pBr e u = some (t, r) → t.nice ∧ t.parts.length + r.length ≤ u.length := fun u t r hd h => by
  have lu := tl_len (head_ne hd (by decide))
  unfold pBr at h
  split at h
  · rename_i t1 r1 e1
    split at h
    · obtain ⟨rfl, rfl⟩ := Prod.mk.inj (Option.some.inj h)
      obtain ⟨g1, g2⟩ := l _ _ _ e1
      have := tail_le r1
      exact ⟨g1, by omega⟩
    · cases h
  · cases h
theorem pTwo_nice {e : List Str → PR} (l : Nice e) : ∀ u t r, pTwo e u = some (t, r) → t.nice ∧ t.parts.length + r.length ≤ u.length := fun u t r h => by
  unfold pTwo at h
  split at h
  · rename_i c
    have l1 := tl_len (head_ne c (by decide))
    have l0 := tail_le u
    split at h
    · rename_i a r1 e1
      obtain ⟨g1, g2⟩ := l _ _ _ e1
      split at h
      · rename_i c1
        have l2 := tl_len (head_ne c1 (by decide))
        split at h
        · rename_i b r2 e2
          obtain ⟨g3, g4⟩ := l _ _ _ e2
          split at h
          · obtain ⟨rfl, rfl⟩ := Prod.mk.inj (Option.some.inj h)
            have := tail_le r2
            refine ⟨⟨g1, g3⟩, ?_⟩
            rw [Tr.parts, List.length_append, List.length_append]
            show _ + _ + 1 + _ ≤ _
            omega
          · cases h
        · cases h
      · cases h
    · cases h
  · cases h
theorem pP_nice {e : List Str → PR} (l : Nice e) : Nice (pP e) := fun u t r h => by
  unfold pP at h
  split at h
  · rename_i c
    exact pBr_nice l u t r c h
  · split at h
    · exact pTwo_nice l u t r h
    · split at h
      · rename_i i ei
        obtain ⟨rfl, rfl⟩ := Prod.mk.inj (Option.some.inj h)
        have := tl_len (u := u) (head_ne rfl fun z => by rw [z, no_empty] at ei; cases ei)
        exact ⟨numO_small ei, by show 1 + _ ≤ _; omega⟩
      · split at h
        · rename_i c
          have lu := tl_len (u := u) (head_ne rfl fun z => by rw [z, nm_empty] at c; cases c)
          split at h
          · rename_i k r1 e1
            obtain ⟨rfl, rfl⟩ := Prod.mk.inj (Option.some.inj h)
            have := pAgo_le e1
            exact ⟨⟨name_nm c, pAgo_small e1⟩, by show 1 + _ ≤ _; omega⟩
          · cases h
        · cases h
theorem pT_nice {e : List Str → PR} (l : Nice e) : Nice (pT e) := fun u t r h => by
  unfold pT at h
  split at h
  · rename_i t1 r1 e1
    obtain ⟨g1, g2⟩ := pP_nice l _ _ _ e1
    split at h
    · rename_i k ek
      split at h
      · rename_i c
        have l2 := tl_len (head_ne c (by decide))
        split at h
        · rename_i t2 r2 e2
          obtain ⟨rfl, rfl⟩ := Prod.mk.inj (Option.some.inj h)
          obtain ⟨g3, g4⟩ := pP_nice l _ _ _ e2
          refine ⟨⟨numO_small ek, g3⟩, ?_⟩
          rw [Tr.parts, List.length_append]
          show _ + 1 + _ ≤ _
          omega
        · cases h
      · obtain ⟨rfl, rfl⟩ := Prod.mk.inj (Option.some.inj h)
        exact ⟨g1, g2⟩
    · obtain ⟨rfl, rfl⟩ := Prod.mk.inj (Option.some.inj h)
      exact ⟨g1, g2⟩
  · cases h
theorem chn_nice {e : List Str → PR} (l : Nice e) : ∀ n t0 u t r, t0.nice → chn e n t0 u = some (t, r) → t.nice ∧ t.parts.length + r.length ≤ t0.parts.length + u.length
  | 0, t0, u, t, r, g, h => by
    obtain ⟨rfl, rfl⟩ := Prod.mk.inj (Option.some.inj h)
    exact ⟨g, Nat.le_refl _⟩
  | n + 1, t0, u, t, r, g, h => by
    unfold chn at h
    split at h
    · rename_i c
      have l2 := tl_len (c.elim (fun h => head_ne h (by decide)) (fun h => head_ne h (by decide)))
      split at h
      · rename_i t2 r2 e2
        obtain ⟨g3, g4⟩ := pT_nice l _ _ _ e2
        obtain ⟨g5, g6⟩ := chn_nice l n _ _ _ _ (show (Tr.o2 _ t0 t2).nice from ⟨g, g3⟩) h
        rw [Tr.parts, List.length_append, List.length_append] at g6
        have g6 : _ ≤ t0.parts.length + t2.parts.length + 1 + r2.length := g6
        exact ⟨g5, by omega⟩
      · cases h
    · obtain ⟨rfl, rfl⟩ := Prod.mk.inj (Option.some.inj h)
      exact ⟨g, Nat.le_refl _⟩
theorem pS_nice {e : List Str → PR} (l : Nice e) : Nice (pS e) := fun u t r h => by
  unfold pS at h
  split at h
  · rename_i t1 r1 e1
    obtain ⟨g1, g2⟩ := pT_nice l _ _ _ e1
    obtain ⟨g3, g4⟩ := chn_nice l _ _ _ _ _ g1 h
    exact ⟨g3, by omega⟩
  · cases h
theorem pIf_nice {e : List Str → PR} (l : Nice e) : ∀ u t r, u.headD "" = ("if" : Str) → pIf e u = some (t, r) → t.nice ∧ t.parts.length + r.length ≤ u.length := fun u t r hd h => by
  have lu := tl_len (head_ne hd (by decide))
  unfold pIf at h
  split at h
  · rename_i a r1 e1
    obtain ⟨g1, g2⟩ := l _ _ _ e1
    split at h
    · have l1 := tail_le r1
      split at h
      · rename_i b r2 e2
        obtain ⟨g3, g4⟩ := l _ _ _ e2
        split at h
        · have l2 := tail_le r2
          split at h
          · rename_i c r3 e3
            obtain ⟨g5, g6⟩ := l _ _ _ e3
            obtain ⟨rfl, rfl⟩ := Prod.mk.inj (Option.some.inj h)
            refine ⟨⟨g1, g3, g5⟩, ?_⟩
            rw [Tr.parts, List.length_append, List.length_append, List.length_append]
            show _ + _ + _ + 1 + _ ≤ _
            omega
          · cases h
        · cases h
      · cases h
    · cases h
  · cases h
theorem pE1_nice {e : List Str → PR} (l : Nice e) : Nice (pE1 e) := fun u t r h => by
  unfold pE1 at h
  split at h
  · rename_i c
    exact pIf_nice l u t r c h
  · split at h
    · rename_i a r1 e1
      obtain ⟨g1, g2⟩ := pS_nice l _ _ _ e1
      split at h
      · rename_i c
        have l1 := tl_len (head_ne c (by decide))
        split at h
        · rename_i b r2 e2
          obtain ⟨g3, g4⟩ := pS_nice l _ _ _ e2
          obtain ⟨rfl, rfl⟩ := Prod.mk.inj (Option.some.inj h)
          refine ⟨⟨g1, g3⟩, ?_⟩
          rw [Tr.parts, List.length_append, List.length_append]
          show _ + _ + 1 + _ ≤ _
          omega
        · cases h
      · obtain ⟨rfl, rfl⟩ := Prod.mk.inj (Option.some.inj h)
        exact ⟨g1, g2⟩
    · cases h
theorem pE_nice : ∀ n, Nice (pE n)
  | 0 => fun _ _ _ h => nomatch h
  | n + 1 => pE1_nice (pE_nice n)
theorem nums_small : ∀ {u : List Str} {l : List Int}, numsW u = some l → l.length = u.length ∧ ∀ i ∈ l, i.natAbs < 10 ^ 9
  | [], l, h => by
    obtain rfl := Option.some.inj h
    exact ⟨rfl, fun _ h => nomatch h⟩
  | z :: r, l, h => by
    cases e1 : numO z.cps.toList with
    | none => rw [nums_none e1] at h; cases h
    | some i =>
      rw [nums_step e1] at h
      cases e2 : numsW r with
      | none => rw [e2] at h; cases h
      | some m =>
        rw [e2] at h
        obtain rfl := Option.some.inj h
        obtain ⟨g1, g2⟩ := nums_small e2
        refine ⟨by rw [List.length_cons, List.length_cons, g1], fun j hj => ?_⟩
        rcases List.mem_cons.mp hj with rfl | hj
        · exact numO_small e1
        · exact g2 j hj
theorem was_nice {u : List Str} {p : Str × List Int} (h : wasO u = some p) (lu : u.length ≤ 40) : Nm p.1 ∧ p.2.length ≤ 40 ∧ ∀ i ∈ p.2, i.natAbs < 10 ^ 9 := by
  unfold wasO at h
  split at h
  · split at h
    · rename_i c
      split at h
      · split at h
        · rename_i l el
          obtain rfl := Option.some.inj h
          obtain ⟨g1, g2⟩ := nums_small el
          refine ⟨name_nm c, ?_, g2⟩
          show l.length ≤ 40
          rw [g1, List.length_tail, List.length_tail, List.length_tail]
          omega
        · cases h
      · cases h
    · cases h
  · cases h
theorem rule_nice {u : List Str} {p : Str × Tr} (h : ruleO u = some p) (lu : u.length ≤ 40) : Nm p.1 ∧ p.2.nice ∧ p.2.parts.length ≤ 40 := by
  unfold ruleO at h
  split at h
  · rename_i c
    split at h
    · split at h
      · rename_i t et
        obtain rfl := Option.some.inj h
        obtain ⟨g1, g2⟩ := pE_nice 40 _ _ _ et
        refine ⟨name_nm c, g1, ?_⟩
        rw [List.length_tail, List.length_tail] at g2
        show t.parts.length ≤ 40
        omega
      · cases h
    · cases h
  · cases h
/-! ### formulas read can be shown -/
theorem names_nice {wd : Str} {u zs : List Str} (h : namesO wd u = some zs) : zs = u.tail ∧ ∀ z ∈ zs, Nm z := by
  unfold namesO at h
  split at h
  · split at h
    · rename_i c
      obtain rfl := Option.some.inj h
      exact ⟨rfl, fun z hz => name_nm (List.all_eq_true.mp c z hz)⟩
    · cases h
  · cases h
theorem wasF_mem {rws : List (List Str)} {i : Nat} {p : Str × List Int} (h : p ∈ wasF rws i) : ∃ j, j < i ∧ wasO (rwAt rws (j + 1)) = some p := by
  unfold wasF at h
  obtain ⟨j, hj, e⟩ := List.mem_filterMap.mp h
  refine ⟨j, List.mem_range.mp hj, ?_⟩
  unfold midO at e
  split at e
  · cases ew : wasO (rwAt rws (j + 1)) with
    | none => rw [ew] at e; cases e
    | some q => rw [ew] at e; exact e
  · cases ew : ruleO (rwAt rws (j + 1)) with
    | none => rw [ew] at e; cases e
    | some q => rw [ew] at e; cases e
theorem rlsF_mem {rws : List (List Str)} {i : Nat} {p : Str × Tr} (h : p ∈ rlsF rws i) : ∃ j, j < i ∧ ruleO (rwAt rws (j + 1)) = some p := by
  unfold rlsF at h
  obtain ⟨j, hj, e⟩ := List.mem_filterMap.mp h
  refine ⟨j, List.mem_range.mp hj, ?_⟩
  unfold midO at e
  split at e
  · cases ew : wasO (rwAt rws (j + 1)) with
    | none => rw [ew] at e; cases e
    | some q => rw [ew] at e; cases e
  · cases ew : ruleO (rwAt rws (j + 1)) with
    | none => rw [ew] at e; cases e
    | some q => rw [ew] at e; exact e
theorem wasF_len (rws : List (List Str)) (i : Nat) : (wasF rws i).length ≤ i ∧ (rlsF rws i).length ≤ i := by
  refine ⟨Nat.le_trans (List.length_filterMap_le ..) ?_, Nat.le_trans (List.length_filterMap_le ..) ?_⟩ <;> rw [List.length_range] <;> exact Nat.le_refl _
def dueD (rws : List (List Str)) : PyData := match (List.range rws.length).find? (badB rws) with
  | some k => .tuple [.str "refused", .int ((k : Nat) : Int)]
  | none => .tuple [.str "told", fmD (fmF rws)]
theorem DueT.dp {K : PySem.W.Frag} {H : Hp} {v : V} {rws : List (List Str)} (h : DueT H v rws) : Dp K H v (dueD rws) := by
  rcases h with ⟨k, p, hk, bad, pre, rfl, e⟩ | ⟨good, p, x, rfl, e, hF⟩
  · have : (List.range rws.length).find? (badB rws) = some k := by
      rw [List.find?_range_eq_some]
      exact ⟨bad, List.mem_range.mpr hk, fun j hj => by rw [pre j hj]; rfl⟩
    unfold dueD
    rw [this]
    exact .tup (SqT.of e) (.cons (.str _) (.cons (.int _) .nil))
  · have : (List.range rws.length).find? (badB rws) = none := by
      rw [List.find?_eq_none]
      intro j hj
      rw [good j (List.mem_range.mp hj)]
      exact Bool.false_ne_true
    unfold dueD
    rw [this]
    exact .tup (SqT.of e) (.cons (.str _) (.cons hF.dp .nil))
theorem due_say {rws : List (List Str)} (few : rws.length ≤ 100) (ne : rws ≠ []) : SayD (dueD rws) := by
  unfold dueD
  cases h : (List.range rws.length).find? (badB rws) with
  | some k =>
    have hk : k < rws.length := List.mem_range.mp (List.mem_of_find?_eq_some h)
    have : Neat (.tuple [.str "refused", .int ((k : Nat) : Int)]) 1 100 := (Neat.tup (.cons (Neat.str (x := "refused") (n := 9) (dp := 0) (by decide +kernel) (by decide +kernel)) (.cons (Neat.int (by omega)) .nil))).mono (by decide) (by decide)
    exact this.sayD (by decide) (by decide)
  | none =>
    have good : ∀ k, k < rws.length → badB rws k = false := fun k hk => by
      have := List.find?_eq_none.mp h k (List.mem_range.mpr hk)
      exact Bool.eq_false_iff.mpr this
    have ln := List.length_pos_iff.mpr ne
    have l40 : ∀ k, k < rws.length → (rwAt rws k).length ≤ 40 := fun k hk => by
      have := good k hk
      unfold badB at this
      rw [Bool.or_eq_false_iff, Bool.or_eq_false_iff, Bool.or_eq_false_iff] at this
      have := of_decide_eq_false this.1.1.1
      omega
    have nin : ∀ z ∈ (rwAt rws 0).tail, Nm z := by
      have := good 0 ln
      unfold badB at this
      rw [Bool.or_eq_false_iff, Bool.or_eq_false_iff, Bool.or_eq_false_iff] at this
      have := this.1.1.2
      rw [decide_eq_true rfl, Bool.true_and] at this
      cases e : namesO "in" (rwAt rws 0) with
      | none => rw [e] at this; cases this
      | some zs =>
        obtain ⟨rfl, g⟩ := names_nice e
        exact g
    have nout : ∀ z ∈ (rwAt rws (rws.length - 1)).tail, Nm z := by
      have := good (rws.length - 1) (by omega)
      unfold badB at this
      rw [Bool.or_eq_false_iff, Bool.or_eq_false_iff, Bool.or_eq_false_iff] at this
      have := this.1.2
      rw [decide_eq_true (show rws.length - 1 + 1 = rws.length by omega), Bool.true_and] at this
      cases e : namesO "out" (rwAt rws (rws.length - 1)) with
      | none => rw [e] at this; cases this
      | some zs =>
        obtain ⟨rfl, g⟩ := names_nice e
        exact g
    obtain ⟨lw, lr⟩ := wasF_len rws (rws.length - 2)
    have s1 : ∀ l : List Str, (∀ z ∈ l, Nm z) → l.length ≤ 40 → Neat (.tuple (l.map PyData.str)) 50 1000 := fun l h ll =>
      (Neat.tup (NeatAll.map (f := PyData.str) (dp := 49) (n := 9) fun z hz => Neat.str (h z hz).lay (h z hz).few)).mono (Nat.le_refl _) (by omega)
    have s2 : Neat (.tuple ((wasF rws (rws.length - 2)).map waD)) 50 200000 := by
      refine (Neat.tup (NeatAll.map (f := waD) (dp := 49) (n := 1800) fun p hp => ?_)).mono (Nat.le_refl _) (by omega)
      obtain ⟨j, hj, e⟩ := wasF_mem hp
      obtain ⟨g1, g2, g3⟩ := was_nice e (l40 _ (by omega))
      have t1 := Neat.tup (NeatAll.map (f := PyData.int) (dp := 47) (n := 41) (l := p.2) fun x hx => Neat.int (by have := g3 x hx; omega))
      exact (Neat.tup (.cons (Neat.str (dp := 48) g1.lay g1.few) (.cons t1 .nil))).mono (Nat.le_refl _) (by omega)
    have s3 : Neat (.tuple ((rlsF rws (rws.length - 2)).map rlD)) 50 450000 := by
      refine (Neat.tup (NeatAll.map (f := rlD) (dp := 49) (n := 4100) fun p hp => ?_)).mono (Nat.le_refl _) (by omega)
      obtain ⟨j, hj, e⟩ := rlsF_mem hp
      obtain ⟨g1, g2, g3⟩ := rule_nice e (l40 _ (by omega))
      have t1 := (nice_neat g2).mono (c := 48) (e := 4000) (by have := p.2.dep_parts; omega) (by omega)
      exact (Neat.tup (.cons (Neat.str (dp := 48) g1.lay g1.few) (.cons t1 .nil))).mono (Nat.le_refl _) (by omega)
    have lt0 : (rwAt rws 0).tail.length ≤ 40 := by have := l40 0 ln; rw [List.length_tail]; omega
    have ltn : (rwAt rws (rws.length - 1)).tail.length ≤ 40 := by have := l40 (rws.length - 1) (by omega); rw [List.length_tail]; omega
    have sF : Neat (fmD (fmF rws)) 51 700000 := (Neat.tup (.cons (s1 _ nin lt0) (.cons s2 (.cons s3 (.cons (s1 _ nout ltn) .nil))))).mono (Nat.le_refl _) (by decide)
    have : Neat (.tuple [.str "told", fmD (fmF rws)]) 52 800000 := (Neat.tup (.cons (Neat.str (x := "told") (n := 9) (dp := 51) (by decide +kernel) (by decide +kernel)) (.cons sF .nil))).mono (Nat.le_refl _) (by decide)
    exact this.sayD (by decide) (by decide)
/-! ### texts parted -/
theorem mem_joinL {c : Nat} : ∀ {ps : List (List Nat)} {p : List Nat}, p ∈ ps → p.length ≤ (joinL c ps).length ∧ ∀ x ∈ p, x ∈ joinL c ps
  | [], _, h => nomatch h
  | [q], p, h => by
    rw [List.mem_singleton.mp h]
    exact ⟨Nat.le_refl _, fun _ h => h⟩
  | q :: r :: s, p, h => by
    show p.length ≤ (q ++ c :: joinL c (r :: s)).length ∧ ∀ x ∈ p, x ∈ q ++ c :: joinL c (r :: s)
    rw [List.length_append, List.length_cons]
    rcases List.mem_cons.mp h with rfl | h
    · exact ⟨by omega, fun x hx => List.mem_append.mpr (.inl hx)⟩
    · obtain ⟨g1, g2⟩ := mem_joinL (c := c) h
      exact ⟨by omega, fun x hx => List.mem_append.mpr (.inr (List.mem_cons_of_mem _ (g2 x hx)))⟩
theorem splitL_count (c : Nat) : ∀ l : List Nat, (splitL c l).length = l.count c + 1
  | [] => rfl
  | d :: l => by
    have ih := splitL_count c l
    by_cases h : d = c
    · subst h
      show (if d = d then [] :: splitL d l else _).length = _
      rw [if_pos rfl, List.length_cons, ih, List.count_cons_self]
    · obtain ⟨p, r, e1, e2⟩ := splitL_cons (l := l) h
      rw [e2, List.length_cons]
      rw [e1, List.length_cons] at ih
      rw [ih, List.count_cons_of_ne h]
/-- a text with few rows, of signs -/
structure TxS (a : Str) (n L : Nat) : Prop where
  len : a.length ≤ L
  few : a.cps.toList.count 10 ≤ n
  ok : PyData.strOk a = true
theorem strOk_iff {a : Str} : PyData.strOk a = true ↔ ∀ c ∈ a.cps.toList, c < 1114112 := by
  unfold PyData.strOk
  rw [Array.all_eq_true_iff_forall_mem]
  exact ⟨fun h c hc => of_decide_eq_true (h c (Array.mem_toList_iff.mp hc)), fun h c hc => decide_eq_true (h c (Array.mem_toList_iff.mpr hc))⟩
theorem split_piece {a z : Str} {c : Nat} (hc : c < 256) (h : z ∈ Txt.split a ⟨#[c]⟩) : z.length ≤ a.length ∧ (∀ x ∈ z.cps.toList, x ∈ a.cps.toList) := by
  have e := split_one a hc
  have m : z.cps.toList ∈ splitL c a.cps.toList := by rw [← e]; exact List.mem_map.mpr ⟨z, h, rfl⟩
  have := mem_joinL (c := c) m
  rw [joinL_split] at this
  rw [strlen, strlen]
  exact this
theorem split_len (a : Str) {c : Nat} (hc : c < 256) : (Txt.split a ⟨#[c]⟩).length = a.cps.toList.count c + 1 := by
  rw [← splitL_count, ← split_one a hc, List.length_map]
def rowsOf (a : Str) : List (List Str) := (Txt.split a ⟨#[10]⟩).map fun r => Txt.split r ⟨#[32]⟩
theorem TxS.tb {a : Str} {n L : Nat} (h : TxS a n L) (hn : n ≤ 90) (hL : L ≤ 8000000) : TB a (Txt.split a ⟨#[10]⟩) (rowsOf a) ∧ (∀ u ∈ rowsOf a, WS u ∧ u ≠ [] ∧ u.length ≤ 8000001) ∧ (rowsOf a).length ≤ 100 ∧ rowsOf a ≠ [] := by
  have lr : (rowsOf a).length = a.cps.toList.count 10 + 1 := by unfold rowsOf; rw [List.length_map, split_len a (by decide)]
  have few := h.few
  have len := h.len
  have ok := strOk_iff.mp h.ok
  have rok : ∀ u ∈ rowsOf a, WS u ∧ u ≠ [] ∧ u.length ≤ 8000001 := fun u hu => by
    obtain ⟨r, hr, rfl⟩ := List.mem_map.mp hu
    obtain ⟨g1, g2⟩ := split_piece (by decide) hr
    refine ⟨fun z hz => ?_, fun e => ?_, ?_⟩
    · obtain ⟨g3, g4⟩ := split_piece (by decide) hz
      exact ⟨by omega, strOk_iff.mpr fun c hc => ok c (g2 c (g4 c hc))⟩
    · have := split_len r (c := 32) (by decide)
      rw [e] at this
      cases this
    · rw [split_len r (by decide)]
      have := List.count_le_length (a := 32) (l := r.cps.toList)
      rw [strlen] at g1
      omega
  refine ⟨⟨by omega, by rw [nl10], ?_, ?_, by omega, fun u hu z hz => ((rok u hu).1 z hz).1⟩, rok, by omega, ?_⟩
  · have base : ∀ l : List Str, (∀ r ∈ l, r.length ≤ 8000000) → All2 (fun r ws => Txt.split r " " = ws ∧ r.length ≤ 8000000) l (l.map fun r => Txt.split r ⟨#[32]⟩) := by
      intro l
      induction l with
      | nil => intro _; exact .nil
      | cons r s ih => intro g; exact .cons ⟨by rw [sp32], g r (List.mem_cons_self ..)⟩ (ih fun y hy => g y (List.mem_cons_of_mem _ hy))
    exact base _ fun r hr => by have := (split_piece (by decide) hr).1; omega
  · intro e; rw [e] at lr; cases lr
  · intro e; rw [e] at lr; cases lr
/-! ### texts spoilt: what stays small -/
theorem drop_sum {α : Type} (xs : List α) (g : α → Nat) (k : Nat) : ((xs.drop (k + 1)).map g).sum ≤ ((xs.drop k).map g).sum := by
  by_cases h : k < xs.length
  · rw [List.drop_eq_getElem_cons h, List.map_cons, List.sum_cons]
    omega
  · rw [List.drop_eq_nil_of_le (show xs.length ≤ k + 1 by omega)]
    exact Nat.zero_le _
theorem Put.sum {α : Type} {xs ys : List α} {y : α} (h : Put xs y ys) (g : α → Nat) : (ys.map g).sum ≤ (xs.map g).sum + g y := by
  obtain ⟨k, hk, e⟩ := h
  have s : (xs.map g).sum = ((xs.take k).map g).sum + ((xs.drop k).map g).sum := by
    rw [← List.sum_append, ← List.map_append, List.take_append_drop]
  have d := drop_sum xs g k
  rcases e with rfl | rfl | rfl
  · rw [List.map_append, List.sum_append, List.map_cons, List.sum_cons]; omega
  · rw [List.map_append, List.sum_append, List.map_cons, List.sum_cons]; omega
  · rw [List.map_append, List.sum_append]; omega
theorem Put.map {α β : Type} (f : α → β) {xs : List α} {y : α} {ys : List β} (h : Put (xs.map f) (f y) ys) : ∃ zs, ys = zs.map f ∧ Put xs y zs := by
  obtain ⟨k, hk, e⟩ := h
  rw [List.length_map] at hk
  rcases e with rfl | rfl | rfl
  · exact ⟨xs.take k ++ y :: xs.drop k, by rw [List.map_append, List.map_cons, List.map_take, List.map_drop], k, hk, .inl rfl⟩
  · exact ⟨xs.take k ++ y :: xs.drop (k + 1), by rw [List.map_append, List.map_cons, List.map_take, List.map_drop], k, hk, .inr (.inl rfl)⟩
  · exact ⟨xs.take k ++ xs.drop (k + 1), by rw [List.map_append, List.map_take, List.map_drop], k, hk, .inr (.inr rfl)⟩
theorem Put.all2 {α β : Type} {R : α → β → Prop} {xs ys : List α} {as : List β} {y : α} {a : β} (h : Put xs y ys) (al : All2 R xs as) (r : R y a) : ∃ bs, Put as a bs ∧ All2 R ys bs := by
  obtain ⟨k, hk, e⟩ := h
  have hk2 : k ≤ as.length := by rw [← al.length]; exact hk
  rcases e with rfl | rfl | rfl
  · exact ⟨as.take k ++ a :: as.drop k, ⟨k, hk2, .inl rfl⟩, (al.take k).app (.cons r (al.drop k))⟩
  · exact ⟨as.take k ++ a :: as.drop (k + 1), ⟨k, hk2, .inr (.inl rfl)⟩, (al.take k).app (.cons r (al.drop (k + 1)))⟩
  · exact ⟨as.take k ++ as.drop (k + 1), ⟨k, hk2, .inr (.inr rfl)⟩, (al.take k).app (al.drop (k + 1))⟩
theorem sum_set {α : Type} (g : α → Nat) (x : α) : ∀ (l : List α) (k : Nat) (y : α), l[k]? = some y → ((l.set k x).map g).sum + g y = (l.map g).sum + g x
  | [], _, _, h => nomatch h
  | a :: r, 0, y, h => by
    obtain rfl : a = y := Option.some.inj h
    show ((x :: r).map g).sum + g a = _
    rw [List.map_cons, List.map_cons, List.sum_cons, List.sum_cons]
    omega
  | a :: r, k + 1, y, h => by
    have ih := sum_set g x r k y h
    show ((a :: r.set k x).map g).sum + g y = _
    rw [List.map_cons, List.map_cons, List.sum_cons, List.sum_cons]
    omega
def wW (u : List Str) : Nat := (u.map fun z => z.length + 1).sum
def sizeR (rws : List (List Str)) : Nat := (rws.map fun u => wW u + 1).sum
/-- a word that stays in its row -/
def GW (z : Str) : Prop := 10 ∉ z.cps.toList ∧ PyData.strOk z = true
theorem split_size (c : Nat) : ∀ l : List Nat, ((splitL c l).map fun p => p.length + 1).sum = l.length + 1
  | [] => rfl
  | d :: l => by
    have ih := split_size c l
    by_cases h : d = c
    · subst h
      show ((if d = d then [] :: splitL d l else _).map _).sum = _
      rw [if_pos rfl, List.map_cons, List.sum_cons, ih, List.length_cons]
      show 0 + 1 + _ = _
      omega
    · obtain ⟨p, r, e1, e2⟩ := splitL_cons (l := l) h
      rw [e2, List.map_cons, List.sum_cons, List.length_cons, List.length_cons]
      rw [e1, List.map_cons, List.sum_cons] at ih
      omega
theorem split_sz (a : Str) {c : Nat} (hc : c < 256) : ((Txt.split a ⟨#[c]⟩).map fun z => z.length + 1).sum = a.length + 1 := by
  have := split_size c a.cps.toList
  rw [← split_one a hc, List.map_map] at this
  rw [strlen a, ← this]
  congr 1
theorem rows_size (a : Str) : sizeR (rowsOf a) = a.length + 1 + (rowsOf a).length := by
  unfold sizeR rowsOf
  have h := split_sz a (c := 10) (by decide)
  generalize Txt.split a ⟨#[10]⟩ = rs at h
  have e : ∀ l : List Str, ((l.map fun r => Txt.split r ⟨#[32]⟩).map fun u => wW u + 1).sum = (l.map fun z => z.length + 1).sum + l.length := by
    intro l
    induction l with
    | nil => rfl
    | cons r s ih =>
      simp only [List.map_cons, List.sum_cons, List.length_cons]
      have w : wW (Txt.split r ⟨#[32]⟩) = r.length + 1 := split_sz r (by decide)
      rw [w, ih]
      omega
  rw [e, h, List.length_map]
theorem rows_words {a : Str} {n L : Nat} (h : TxS a n L) : ∀ u ∈ rowsOf a, ∀ z ∈ u, GW z := fun u hu z hz => by
  obtain ⟨r, hr, rfl⟩ := List.mem_map.mp hu
  obtain ⟨g1, g2⟩ := split_piece (by decide) hr
  obtain ⟨g3, g4⟩ := split_piece (by decide) hz
  have ok := strOk_iff.mp h.ok
  refine ⟨fun m => ?_, strOk_iff.mpr fun c hc => ok c (g2 c (g4 c hc))⟩
  have e := split_one a (c := 10) (by decide)
  have : r.cps.toList ∈ splitL 10 a.cps.toList := by rw [← e]; exact List.mem_map.mpr ⟨r, hr, rfl⟩
  exact splitL_no _ this (g4 10 m)
theorem joinL_le (c : Nat) : ∀ ps : List (List Nat), (joinL c ps).length ≤ (ps.map fun p => p.length + 1).sum
  | [] => Nat.le_refl _
  | [p] => by
    show p.length ≤ p.length + 1 + 0
    omega
  | p :: q :: r => by
    have ih := joinL_le c (q :: r)
    show (p ++ c :: joinL c (q :: r)).length ≤ _
    rw [List.length_append, List.length_cons, List.map_cons, List.sum_cons]
    omega
theorem joinL_mem {c x : Nat} : ∀ {ps : List (List Nat)}, x ∈ joinL c ps → x = c ∨ ∃ p ∈ ps, x ∈ p
  | [], h => nomatch h
  | [p], h => .inr ⟨p, List.mem_singleton.mpr rfl, h⟩
  | p :: q :: r, h => by
    have h : x ∈ p ++ c :: joinL c (q :: r) := h
    rcases List.mem_append.mp h with h | h
    · exact .inr ⟨p, List.mem_cons_self .., h⟩
    · rcases List.mem_cons.mp h with h | h
      · exact .inl h
      · rcases joinL_mem h with h | ⟨y, hy, g⟩
        · exact .inl h
        · exact .inr ⟨y, List.mem_cons_of_mem _ hy, g⟩
theorem joinL_cnt {c : Nat} : ∀ {ps : List (List Nat)}, (∀ p ∈ ps, c ∉ p) → (joinL c ps).count c ≤ ps.length - 1
  | [], _ => Nat.le_refl _
  | [p], h => by
    show p.count c ≤ 0
    rw [List.count_eq_zero.mpr (h p (List.mem_singleton.mpr rfl))]
    exact Nat.le_refl _
  | p :: q :: r, h => by
    have ih := joinL_cnt (ps := q :: r) fun y hy => h y (List.mem_cons_of_mem _ hy)
    show (p ++ c :: joinL c (q :: r)).count c ≤ _
    rw [List.count_append, List.count_eq_zero.mpr (h p (List.mem_cons_self ..)), List.count_cons_self]
    simp only [List.length_cons] at ih ⊢
    omega
theorem row_len (u : List Str) : (Txt.join ⟨#[32]⟩ u).length ≤ wW u := by
  rw [strlen, join_one]
  refine Nat.le_trans (joinL_le 32 _) ?_
  rw [List.map_map]
  unfold wW
  refine Nat.le_of_eq ?_
  congr 1
theorem text_of_rows {rws : List (List Str)} (h : ∀ u ∈ rws, ∀ z ∈ u, GW z) {m s : Nat} (lm : rws.length ≤ m + 1) (ls : sizeR rws ≤ s) : TxS (Txt.join ⟨#[10]⟩ (rws.map (Txt.join ⟨#[32]⟩))) m s := by
  have e : (Txt.join ⟨#[10]⟩ (rws.map (Txt.join ⟨#[32]⟩))).cps.toList = joinL 10 (rws.map fun u => joinL 32 (u.map fun z => z.cps.toList)) := by
    rw [join_one, List.map_map]
    congr 1
    exact List.map_congr_left fun u _ => by show (Txt.join ⟨#[32]⟩ u).cps.toList = _; rw [join_one]
  refine ⟨?_, ?_, ?_⟩
  · rw [strlen, join_one]
    refine Nat.le_trans (joinL_le 10 _) (Nat.le_trans ?_ ls)
    rw [List.map_map, List.map_map]
    unfold sizeR
    have g : ∀ l : List (List Str), (l.map ((fun p : List Nat => p.length + 1) ∘ (fun z : Str => z.cps.toList) ∘ Txt.join ⟨#[32]⟩)).sum ≤ (l.map fun u => wW u + 1).sum := by
      intro l
      induction l with
      | nil => exact Nat.le_refl _
      | cons u r ih =>
        rw [List.map_cons, List.map_cons, List.sum_cons, List.sum_cons]
        have := row_len u
        rw [strlen] at this
        show (Txt.join ⟨#[32]⟩ u).cps.toList.length + 1 + _ ≤ _
        omega
    exact g rws
  · rw [e]
    refine Nat.le_trans (joinL_cnt fun p hp => ?_) (by rw [List.length_map]; omega)
    obtain ⟨u, hu, rfl⟩ := List.mem_map.mp hp
    intro m
    rcases joinL_mem m with q | ⟨p, hp, g⟩
    · cases q
    · obtain ⟨z, hz, rfl⟩ := List.mem_map.mp hp
      exact (h u hu z hz).1 g
  · rw [strOk_iff, e]
    intro x hx
    rcases joinL_mem hx with rfl | ⟨p, hp, g⟩
    · decide
    · obtain ⟨u, hu, rfl⟩ := List.mem_map.mp hp
      rcases joinL_mem g with rfl | ⟨p, hp, g⟩
      · decide
      · obtain ⟨z, hz, rfl⟩ := List.mem_map.mp hp
        exact strOk_iff.mp (h u hu z hz).2 x g
theorem wW_mem {u : List Str} {rws : List (List Str)} (h : u ∈ rws) : wW u + 1 ≤ sizeR rws := by
  unfold sizeR
  induction rws with
  | nil => cases h
  | cons a r ih =>
    rw [List.map_cons, List.sum_cons]
    rcases List.mem_cons.mp h with rfl | h
    · omega
    · have := ih h; omega
theorem len_wW (u : List Str) : (u.map (·.length)).sum + u.length * 1 = wW u := by
  unfold wW
  induction u with
  | nil => rfl
  | cons a r ih => rw [List.map_cons, List.map_cons, List.sum_cons, List.sum_cons, List.length_cons]; omega
/-- a text's signs, one put in, left out or in another one's place -/
theorem put_sign {a : Str} {n L : Nat} (h : TxS a n L) {sg : Str} (s1 : sg.length = 1) (s2 : PyData.strOk sg = true) {zs : List Str} (p : Put (a.cps.toList.map fun c => (⟨#[c]⟩ : Str)) sg zs) : TxS (Txt.join "" zs) (n + 1) (L + 1) ∧ (zs.map (·.length)).sum ≤ L + 1 := by
  have e := join_cps zs
  have sl : ((a.cps.toList.map fun c => (⟨#[c]⟩ : Str)).map (·.length)).sum = a.length := by
    rw [strlen, List.map_map]
    generalize a.cps.toList = l
    induction l with
    | nil => rfl
    | cons x r ih => rw [List.map_cons, List.sum_cons, ih]; show 1 + _ = _; rw [List.length_cons]; omega
  have sc : ((a.cps.toList.map fun c => (⟨#[c]⟩ : Str)).map fun z => z.cps.toList.count 10).sum = a.cps.toList.count 10 := by
    rw [List.map_map]
    generalize a.cps.toList = l
    induction l with
    | nil => rfl
    | cons x r ih =>
      rw [List.map_cons, List.sum_cons, ih, List.count_cons]
      show List.count 10 [x] + _ = _
      rw [List.count_cons, List.count_nil]
      omega
  have l1 := p.sum (·.length)
  have c1 := p.sum fun z => z.cps.toList.count 10
  have len := h.len
  have few := h.few
  have sum1 : (zs.map (·.length)).sum ≤ L + 1 := by rw [sl] at l1; have : Str.length sg = 1 := s1; omega
  refine ⟨⟨?_, ?_, ?_⟩, sum1⟩
  · rw [join_len]; exact sum1
  · have : (Txt.join "" zs).cps.toList.count 10 = (zs.map fun z => z.cps.toList.count 10).sum := by
      have e : (Txt.join "" zs).cps.toList = zs.flatMap cps := e
      rw [e, List.count_flatMap]
      rfl
    rw [this]
    rw [sc] at c1
    have : sg.cps.toList.count 10 ≤ 1 := by
      have := List.count_le_length (a := 10) (l := sg.cps.toList)
      rw [strlen] at s1
      omega
    have c1 : (zs.map fun z => z.cps.toList.count 10).sum ≤ a.cps.toList.count 10 + sg.cps.toList.count 10 := c1
    omega
  · rw [strOk_iff]
    intro x hx
    have e : (Txt.join "" zs).cps.toList = zs.flatMap cps := e
    rw [e] at hx
    obtain ⟨z, hz, g⟩ := List.mem_flatMap.mp hx
    rcases p.mem z hz with m | rfl
    · obtain ⟨c, hc, rfl⟩ := List.mem_map.mp m
      have g : x ∈ [c] := g
      rw [List.mem_singleton.mp g]
      exact strOk_iff.mp h.ok c hc
    · exact strOk_iff.mp s2 x g
/-! ### texts spoilt -/
abbrev w17 : List Str := ["in", "out", "was", ":", "=", "if", "then", "else", "<", "+", "-", "*", "@", "(", ")", ",", "most"]
abbrev w12 : List Str := ["0", "-0", "01", "+1", "1234567890", "1_0", "-3", "abcdefg", "x", "A", "", "xx"]
theorem w29_ok : ∀ z ∈ w17 ++ w12, GW z ∧ z.length ≤ 10 := by
  unfold GW
  decide +kernel
/-- rows of words at addresses -/
def RwAt (f : Addr) (H : Hp) (v : V) (u : List Str) : Prop := ∃ L : Addr, v = .ref L ∧ L ≠ f ∧ H L = some (.lst (u.map V.str))
theorem RwAt.keepS {f : Addr} {H H' : Hp} {v : V} {u : List Str} (h : RwAt f H v u) (s : Same H H') : RwAt f H' v u := by
  obtain ⟨L, rfl, n, e⟩ := h
  exact ⟨L, rfl, n, s _ _ e⟩
theorem RwAt.keepB {f : Addr} {H H' : Hp} {v : V} {u : List Str} (h : RwAt f H v u) (b : But f H H') : RwAt f H' v u := by
  obtain ⟨L, rfl, n, e⟩ := h
  exact ⟨L, rfl, n, b _ _ e n⟩
abbrev w5 : List Str := ["\n", " ", "\nout", " out", "\n\n"]
theorem w5_ok : ∀ z ∈ w5, z.length ≤ 4 ∧ z.cps.toList.count 10 ≤ 2 ∧ PyData.strOk z = true := by
  decide +kernel
theorem app22 (a b : Str) : (a ++ b).cps.toList = a.cps.toList ++ b.cps.toList := by
  show (a.cps ++ b.cps).toList = _
  rw [Array.toList_append]
theorem rep_strs (k : Nat) : (List.replicate k [V.str "+", V.str "x"]).flatten = ((List.replicate k [("+" : Str), "x"]).flatten).map V.str ∧ wW ((List.replicate k [("+" : Str), "x"]).flatten) = 4 * k ∧ (∀ z ∈ (List.replicate k [("+" : Str), "x"]).flatten, GW z) ∧ ((List.replicate k [("+" : Str), "x"]).flatten).length = 2 * k := by
  induction k with
  | zero => exact ⟨rfl, rfl, (fun _ h => nomatch h), rfl⟩
  | succ k ih =>
    obtain ⟨g1, g2, g3, g4⟩ := ih
    rw [List.replicate_succ, List.replicate_succ, List.flatten_cons, List.flatten_cons, g1]
    refine ⟨by rw [List.map_append]; rfl, ?_, fun z hz => ?_, by rw [List.length_append, g4]; show 2 + _ = _; omega⟩
    · unfold wW at g2 ⊢
      rw [List.map_append, List.sum_append, g2]
      have : ((([("+" : Str), "x"] : List Str)).map fun z => z.length + 1).sum = 4 := by decide +kernel
      rw [this]
      omega
    · rcases List.mem_append.mp hz with h | h
      · simp only [List.mem_cons, List.not_mem_nil, or_false] at h
        rcases h with rfl | rfl <;> (unfold GW; decide +kernel)
      · exact g3 z h
theorem all2_set {α β : Type} {R : α → β → Prop} {y : α} {b : β} (r : R y b) : ∀ {xs : List α} {as : List β}, All2 R xs as → ∀ k, All2 R (xs.set k y) (as.set k b)
  | _, _, .nil, k => .nil
  | _, _, .cons h t, 0 => .cons r t
  | _, _, .cons h t, k + 1 => .cons h (all2_set r t k)
section
variable {P : Program} {w : World} {K : PySem.W.Frag} {mg : Str → Option Value} {base : Heap}
def sp_law_spoilt (K : PySem.W.Frag) : Sp := fun vs H Q _ => ∃ (f c : Addr) (a : Str) (n m : Nat), vs = [.ref f, .str a] ∧ TxS a n m ∧ n ≤ 80 ∧ m ≤ 2001000 ∧ Flow H f c ∧ ∀ (b : Str) (H' : Hp), TxS b (n + 2) (2 * m + 300) → Flow H' f c → But f H H' → Q (.str b) H'
set_option maxHeartbeats 0 in
theorem ok_law_spoilt {f : Addr} {fd : FuncData} (F : Fun K "_law_spoilt" "_law_spoilt" s_law_spoilt f fd) {C : Addr} (T : Top w K mg C) : FnOk P w K mg base CX0 3 f fd ["_law_flow_here", "_law_text_here"] (sp_law_spoilt K) := by
  obtain ⟨f_law_pick, fd_law_pick, F_law_pick, b_law_pick, m_law_pick⟩ := T.d_law_pick
  have G_law_pick := ok_law_pick (P := P) (w := w) (base := base) F_law_pick T
  obtain ⟨f_law_put, fd_law_put, F_law_put, b_law_put, m_law_put⟩ := T.d_law_put
  have G_law_put := ok_law_put (P := P) (w := w) (base := base) F_law_put T
  obtain ⟨f_law_signs, fd_law_signs, F_law_signs, b_law_signs, m_law_signs⟩ := T.d_law_signs
  have G_law_signs := ok_law_signs (P := P) (w := w) (base := base) F_law_signs T
  refine F.ok sc_law_spoilt (fun vs H Q E h => ?_) (fun cdv A outer s H vs Q E hr h => ?_)
  · obtain ⟨f, c, a, n, m, rfl, _⟩ := h
    rfl
  obtain ⟨f, c, a, n, m, rfl, ta, n80, m2, F0, q⟩ := h
  have la := ta.len
  have more : ∀ {b : Str} {n' m' : Nat}, TxS b n' m' → n' ≤ n + 2 → m' ≤ 2 * m + 300 → TxS b (n + 2) (2 * m + 300) := fun t h1 h2 => ⟨Nat.le_trans t.len h2, Nat.le_trans t.few h1, t.ok⟩
  let R1 : TS := fun D' σ' H' => D'.rt = Q ∧ ∃ (wy : Int) (D : Addr) (lv : List V) (k : Nat), σ' = [some (.ref f), some (.str a), some (.int wy), none, none, some (.ref D), none, some (nV k), none, none] ∧ 0 ≤ wy ∧ wy < 8 ∧ H' D = some (.lst lv) ∧ All2 (LsAt D H') lv (rowsOf a) ∧ k < (rowsOf a).length ∧ D ≠ f ∧ D ≠ c ∧ Flow H' f c ∧ But f H H' ∧ H D = none
  let R2 : TS := fun D' σ' H' => D'.rt = Q ∧ ∃ (wy : Int) (D : Addr) (lv : List V) (rws : List (List Str)) (k : Nat) (v8 : Option V), σ' = [some (.ref f), some (.str a), some (.int wy), none, none, some (.ref D), none, some (nV k), v8, none] ∧ H' D = some (.lst lv) ∧ All2 (RwAt f H') lv rws ∧ (∀ u ∈ rws, ∀ z ∈ u, GW z) ∧ rws.length ≤ n + 2 ∧ sizeR rws ≤ 2 * m + 300 ∧ Flow H' f c ∧ But f H H'
  refine ⟨_, (pss_cons (ps_set (i := 2) sc_law_spoilt.nd rfl (Or.inl rfl) (pe_call G_law_pick (hr.mono (by decide)) (by rfl) m_law_pick F_law_pick.kp b_law_pick .nil pass0 (pa_cons (pv 0) (pa_cons pe_int pa_nil))))
      (pss_cons (ps_if (PW.pt (pw_and (pt_cmpR op_lt (pv 2) pe_int (nomark _)) (pw_and1 (pt_cmpR op_ne (pv 1) pe_str (nomark _))))) (pss_cons (ps_set (i := 3) sc_law_spoilt.nd rfl (Or.inl rfl) (pe_op op_add_str (pe_call0 G_law_signs (hr.mono (by decide)) (by rfl) m_law_signs F_law_signs.kp b_law_signs .nil pass0) pe_str))
      (pss_cons (ps_set (i := 4) sc_law_spoilt.nd rfl (Or.inl rfl) (pe_ix (ix_listK K rfl) (pe_lst (pa_cons (pe_ix ix_str (pv 3) (pe_call G_law_pick (hr.mono (by decide)) (by rfl) m_law_pick F_law_pick.kp b_law_pick .nil pass0 (pa_cons (pv 0) (pa_cons (pe_callB call_len_str (by rfl) T.m_len (by decide +kernel) (pa_cons (pv 3) pa_nil)) pa_nil))) (fun _ _ => rfl)) (pa_cons (pe_ix ix_str pe_str (pe_call G_law_pick (hr.mono (by decide)) (by rfl) m_law_pick F_law_pick.kp b_law_pick .nil pass0 (pa_cons (pv 0) (pa_cons pe_int pa_nil))) (fun _ _ => rfl)) pa_nil))) (pv 2) (fun _ _ => rfl)))
      (pss_one (ps_ret (pe_join pe_str (pe_call G_law_put (hr.mono (by decide)) (by rfl) m_law_put F_law_put.kp b_law_put .nil pass0 (pa_cons (pv 0) (pa_cons (pe_callTy (call_list_strK rfl) (by rfl) T.m_list (by decide +kernel) (pa_cons (pv 1) pa_nil)) (pa_cons (pv 4) pa_nil))))))))) pss_nil)
      (pss_cons (ps_setLc (i := 5) (own := [("_law_row_here", 6)]) (g := gName 6) (tt := tYes) (by rfl) sc_law_spoilt.nd rfl rfl (sw_true rfl rfl rfl (by decide +kernel)) (pi_listK K rfl (pe_bmK K rfl PySem.F.plainAttrs_str PySem.F.slot_str_split PySem.F.type_str_split mt_split (pv 1) (pa_cons pe_str pa_nil))) (blkOk_by (own := [("_law_row_here", 6)]) (N := N_law_spoilt) (sc := defScope s_law_spoilt) (by decide +kernel)) (fun _ _ _ _ _ => (pg_name (i := 6) sc_law_spoilt.nd rfl (Or.inl rfl))) (fun _ _ _ _ _ => pts_nil) (fun _ _ _ _ _ => (pe_bmK K rfl PySem.F.plainAttrs_str PySem.F.slot_str_split PySem.F.type_str_split mt_split (pv 6) (pa_cons pe_str pa_nil))))
      (pss_cons (ps_set (i := 7) sc_law_spoilt.nd rfl (Or.inl rfl) (pe_call G_law_pick (hr.mono (by decide)) (by rfl) m_law_pick F_law_pick.kp b_law_pick .nil pass0 (pa_cons (pv 0) (pa_cons (pe_callB (call_len_seqK K rfl) (by rfl) T.m_len (by decide +kernel) (pa_cons (pv 5) pa_nil)) pa_nil))))
      (PSs.to (pss_cons (ps_if (pt_cmpR op_lt (pv 2) pe_int (nomark _)) (pss_cons (ps_set (i := 8) sc_law_spoilt.nd rfl (Or.inl rfl) (pe_lst (pa_cons pe_str (pa_cons pe_str (pa_cons pe_str (pa_cons pe_str (pa_cons pe_str (pa_cons pe_str (pa_cons pe_str (pa_cons pe_str (pa_cons pe_str (pa_cons pe_str (pa_cons pe_str (pa_cons pe_str (pa_cons pe_str (pa_cons pe_str (pa_cons pe_str (pa_cons pe_str (pa_cons pe_str pa_nil)))))))))))))))))))
      (pss_cons (ps_set (i := 8) sc_law_spoilt.nd rfl (Or.inl rfl) (pe_op op_cat (pv 8) (pe_lst (pa_cons pe_str (pa_cons pe_str (pa_cons pe_str (pa_cons pe_str (pa_cons pe_str (pa_cons pe_str (pa_cons pe_str (pa_cons pe_str (pa_cons pe_str (pa_cons pe_str (pa_cons pe_str (pa_cons pe_str pa_nil)))))))))))))))
      (pss_one (ps_asg (pe_call G_law_put (hr.mono (by decide)) (by rfl) m_law_put F_law_put.kp b_law_put .nil pass0 (pa_cons (pv 0) (pa_cons (pe_ix (ix_listK K rfl) (pv 5) (pv 7) (fun _ _ => rfl)) (pa_cons (pe_ix (ix_listK K rfl) (pv 8) (pe_call G_law_pick (hr.mono (by decide)) (by rfl) m_law_pick F_law_pick.kp b_law_pick .nil pass0 (pa_cons (pv 0) (pa_cons pe_int pa_nil))) (fun _ _ => rfl)) pa_nil)))) (pg_sub (pv 5) (pv 7) set_list))))) (pss_one (ps_if (pt_cmpR op_eq (pv 2) pe_int (nomark _)) (pss_one (ps_set (i := 5) sc_law_spoilt.nd rfl (Or.inl rfl) (pe_call G_law_put (hr.mono (by decide)) (by rfl) m_law_put F_law_put.kp b_law_put .nil pass0 (pa_cons (pv 0) (pa_cons (pv 5) (pa_cons (pe_ix (ix_listK K rfl) (pv 5) (pe_call G_law_pick (hr.mono (by decide)) (by rfl) m_law_pick F_law_pick.kp b_law_pick .nil pass0 (pa_cons (pv 0) (pa_cons (pe_callB (call_len_seqK K rfl) (by rfl) T.m_len (by decide +kernel) (pa_cons (pv 5) pa_nil)) pa_nil))) (fun _ _ => rfl)) pa_nil)))))) (pss_one (ps_if (pt_cmpR op_eq (pv 2) pe_int (nomark _)) (pss_one (ps_asg (pe_op op_cat (pe_ix (ix_listK K rfl) (pv 5) (pv 7) (fun _ _ => rfl)) (pe_op op_rep (pe_lst (pa_cons pe_str (pa_cons pe_str pa_nil))) (pe_ix (ix_listK K rfl) (pe_lst (pa_cons pe_int (pa_cons pe_int (pa_cons (pe_op op_fdiv (pe_op op_sub pe_int (pe_callB (call_len_seqK K rfl) (by rfl) T.m_len (by decide +kernel) (pa_cons (pe_ix (ix_listK K rfl) (pv 5) (pv 7) (fun _ _ => rfl)) pa_nil))) pe_int) pa_nil)))) (pe_call G_law_pick (hr.mono (by decide)) (by rfl) m_law_pick F_law_pick.kp b_law_pick .nil pass0 (pa_cons (pv 0) (pa_cons pe_int pa_nil))) (fun _ _ => rfl)))) (pg_sub (pv 5) (pv 7) set_list))) (pss_one (ps_ret (pe_op op_add_str (pv 1) (pe_ix (ix_listK K rfl) (pe_lst (pa_cons pe_str (pa_cons pe_str (pa_cons pe_str (pa_cons pe_str (pa_cons pe_str pa_nil)))))) (pe_call G_law_pick (hr.mono (by decide)) (by rfl) m_law_pick F_law_pick.kp b_law_pick .nil pass0 (pa_cons (pv 0) (pa_cons pe_int pa_nil))) (fun _ _ => rfl))))))))))
      (PSs.to (pss_one (ps_ret (pe_join pe_str (pe_lc (own := [("_law_words", 9)]) (g := gName 9) (tt := tYes) (by rfl) sc_law_spoilt.nd (pi_listK K rfl (pv 5)) (blkOk_by (own := [("_law_words", 9)]) (N := N_law_spoilt) (sc := defScope s_law_spoilt) (by decide +kernel)) (fun _ _ _ _ _ => (pg_name (i := 9) sc_law_spoilt.nd rfl (Or.inl rfl))) (fun _ _ _ _ _ => pts_nil) (fun _ _ _ _ _ => (pe_joinK K rfl pe_str (pv 9))))))) R2 ?tail2)) R1 ?tail1))))), ?_⟩
  case tail2 =>
    rintro D' σ' H1 ⟨eD, wy, D, lv, rws, k, v8, rfl, hD, al, gw, lr, sz, F1, B1⟩
    have lal := al.length
    refine ⟨⟨_, rfl⟩, _, rfl, D, rfl, ⟨_, SqL.of hD⟩, fun E nE => ?_⟩
    refine lc_list (K := K) (a := D) (xs := lv) (fun i H14 => H14 E = some (.lst (((rws.map (Txt.join ⟨#[32]⟩)).take i).map V.str)) ∧ Same H1 H14) ⟨upd_same, same_new nE⟩ (fun i H14 _ ⟨_, s14⟩ => SqL.of (s14 _ _ hD)) ?_ ?_
    · rintro i x H14 hx ⟨hE, s14⟩
      obtain ⟨u, eu, L, rfl, _, eL⟩ := al.getL hx
      have iu := (List.getElem?_eq_some_iff.mp eu).1
      have wu := wW_mem (List.mem_of_getElem? eu)
      have eW := len_wW u
      refine ⟨rfl, yes_in ⟨⟨_, rfl⟩, _, rfl, _, L, u, rfl, rfl, .inl (SqL.of (s14 _ _ eL)), by rw [show Str.length " " = 1 by decide +kernel, eW]; omega, _, hE, by rw [List.length_map, List.length_take]; exact small1000 (by omega), ?_, Same.own s14 nE⟩⟩
      rw [upd_same, List.take_add_one, List.getElem?_map, eu, List.map_append, sp32]
      rfl
    rintro H14 ⟨hE, s14⟩
    rw [List.take_of_length_le (by rw [List.length_map]; omega)] at hE
    have tx := text_of_rows gw (m := n + 1) (by omega) sz
    refine ⟨_, E, rws.map (Txt.join ⟨#[32]⟩), rfl, rfl, .inl (SqL.of hE), ?_, ?_⟩
    · rw [show Str.length "\n" = 1 by decide +kernel]
      have g : ∀ l : List (List Str), ((l.map (Txt.join ⟨#[32]⟩)).map (·.length)).sum + (l.map (Txt.join ⟨#[32]⟩)).length * 1 ≤ sizeR l := by
        intro l
        unfold sizeR
        induction l with
        | nil => exact Nat.le_refl _
        | cons u r ih =>
          simp only [List.map_cons, List.sum_cons, List.length_cons]
          have := row_len u
          omega
      have := g rws
      omega
    · show D'.rt _ _
      rw [eD, nl10]
      exact q _ H14 (more tx (by omega) (Nat.le_refl _)) (F1.same s14) (B1.same s14)
  case tail1 =>
    rintro D' σ' H1 ⟨eD, wy, D, lv, k, rfl, w0, w8, hD, al, hk, Df, Dc, F1, B1, nD⟩
    have lal := al.length
    have lrw : (rowsOf a).length ≤ n + 1 := by
      unfold rowsOf
      rw [List.length_map, split_len a (by decide)]
      have := ta.few
      omega
    have sz0 : sizeR (rowsOf a) ≤ m + n + 2 := by rw [rows_size]; omega
    have gw0 := rows_words ta
    obtain ⟨tb0, rok, _, _⟩ := ta.tb (by omega) (by omega)
    obtain ⟨u, hu⟩ : ∃ u, (rowsOf a)[k]? = some u := ⟨_, List.getElem?_eq_getElem hk⟩
    have um := List.mem_of_getElem? hu
    obtain ⟨v, hv, L, rfl, LD, hL⟩ := al.get hu
    have Lf := F1.neS hL
    have hix : ixN lv.length ((k : Nat) : Int) = some k := by
      unfold ixN
      rw [if_pos (by omega), if_pos (by omega)]
      rfl
    have lenW : ∀ y : List Str, y.length ≤ wW y := fun y => by
      have := len_wW y
      omega
    have wu := wW_mem um
    -- a row in its place
    have fin : ∀ {H2 : Hp} {L' : Addr} {u' : List Str} (v8 : Option V), H2 D = some (.lst lv) → Same H1 H2 ∨ But f H1 H2 → Flow H2 f c → But f H H2 → H2 L' = some (.lst (u'.map V.str)) → L' ≠ D → (∀ z ∈ u', GW z) → wW u' ≤ wW u + 200 →
        R2 D' [some (.ref f), some (.str a), some (.int wy), none, none, some (.ref D), none, some (nV k), v8, none] (upd H2 D (.lst (lv.set k (.ref L')))) := fun {H2 L' u'} v8 hD2 sb F2 B2 h2 nD2 gu wu2 => by
      have al2 : All2 (LsAt D H2) lv (rowsOf a) := by
        rcases sb with s | b
        · exact al.imp fun _ _ z => z.keepS s
        · exact al.imp fun _ _ z => z.keepB F1 b
      have F3 : Flow (upd H2 D (.lst (lv.set k (.ref L')))) f c := F2.lst Df Dc
      have al3 : All2 (LsAt D (upd H2 D (.lst (lv.set k (.ref L'))))) (lv.set k (.ref L')) ((rowsOf a).set k u') := all2_set ⟨L', rfl, nD2, by rw [upd_ne nD2]; exact h2⟩ (al2.imp fun _ _ z => z.keepD) k
      refine ⟨eD, wy, D, _, _, k, v8, rfl, upd_same, al3.imp fun _ _ z => ?_, fun x hx z hz => ?_, by rw [List.length_set]; omega, ?_, F3, B2.own nD⟩
      · obtain ⟨M, rfl, nM, e⟩ := z
        exact ⟨M, rfl, F3.neS e, e⟩
      · rcases List.mem_or_eq_of_mem_set hx with hx | rfl
        · exact gw0 x hx z hz
        · exact gu z hz
      · have e := sum_set (fun y => wW y + 1) u' (rowsOf a) k u hu
        have e : sizeR ((rowsOf a).set k u') + (wW u + 1) = sizeR (rowsOf a) + (wW u' + 1) := e
        omega
    refine ⟨_, rfl, _, _, rfl, rfl, _, rfl, if_bl (fun c5 => ?_) (fun c5 => ?_)⟩
    · -- a word of a row
      refine ⟨(by show 17 ≤ sizeLine; decide), fun p1 np1 => ?_⟩
      generalize hH2 : upd H1 p1 _ = H2
      have s2 : Same H1 H2 := by rw [← hH2]; exact same_new np1
      have hp1 : H2 p1 = some (.lst (w17.map V.str)) := by rw [← hH2, upd_same]; rfl
      clear hH2
      refine ⟨_, rfl, (by show 12 ≤ sizeLine; decide), fun p2 np2 => ?_⟩
      generalize hH3 : upd H2 p2 _ = H3
      have s3 : Same H2 H3 := by rw [← hH3]; exact same_new np2
      have hp2 : H3 p2 = some (.lst (w12.map V.str)) := by rw [← hH3, upd_same]; rfl
      clear hH3
      refine cat_strs (s3 _ _ hp1) hp2 (by decide) fun p3 H4 np3 hp3 s4 => ?_
      have s14 := s2.trans (s3.trans s4)
      have F4 := F1.same s14
      have hD4 := s14 _ _ hD
      refine ⟨_, rfl, _, rfl, _, rfl, D, _, _, _, rfl, rfl, SqL.of hD4, atI_nat hv, _, rfl, _, rfl, f, c, 29, rfl, by decide, by decide +kernel, F4, fun x H5 x0 x1 F5 B5 => ?_⟩
      obtain ⟨xn, rfl⟩ : ∃ xn : Nat, x = (xn : Int) := ⟨x.toNat, by omega⟩
      have p3f := F4.neS hp3
      obtain ⟨wd, hwd⟩ : ∃ wd, (w17 ++ w12)[xn]? = some wd := ⟨_, List.getElem?_eq_getElem (show xn < (w17 ++ w12).length by show xn < 29; omega)⟩
      obtain ⟨gwd, lwd⟩ := w29_ok wd (List.mem_of_getElem? hwd)
      have hL5 := B5 _ _ (s14 _ _ hL) (F4.neS (s14 _ _ hL))
      have lu := lenW u
      have une : u ≠ [] := (rok u um).2.1
      refine ⟨p3, _, _, _, rfl, rfl, SqL.of (B5 _ _ hp3 p3f), atI_nat (by rw [List.getElem?_map, hwd]; rfl), f, c, L, u.map V.str, .str wd, rfl, hL5, Lf, (fun e => une (List.map_eq_nil_iff.mp e)), by rw [List.length_map]; omega, F5, fun p6 ys H6 put np6 p6f hp6 F6 B6 => ?_⟩
      obtain ⟨u', rfl, put'⟩ := Put.map V.str put
      have hD6 := B6 _ _ (B5 _ _ hD4 Df) Df
      have ps := put'.sum fun z => z.length + 1
      have ps : wW u' ≤ wW u + (wd.length + 1) := ps
      refine ⟨_, rfl, _, rfl, D, _, _, k, rfl, rfl, hD6, hix, ?_⟩
      refine fin _ hD6 (.inr (((But.of s14).trans B5).trans B6)) F6 (((B1.same s14).trans B5).trans B6) hp6 (fun z => by rw [z, B5 _ _ hD4 Df] at np6; cases np6) (fun z hz => ?_) (by omega)
      rcases put'.mem z hz with h | rfl
      · exact gw0 u um z h
      · exact gwd
    refine ⟨_, rfl, rfl, _, rfl, ?_⟩
    show (if decide (V.int wy = V.int 5) = true then _ else _)
    have lv0 : 0 < lv.length := by omega
    refine if_bl (fun _ => ?_) (fun _ => ?_)
    · -- a row elsewhere
      refine ⟨_, rfl, _, rfl, _, rfl, _, rfl, _, rfl, D, _, rfl, .inl (SqL.of hD), f, c, ((lv.length : Nat) : Int), rfl, by omega, log_8 (by omega), F1, fun x H2 x0 x1 F2 B2 => ?_⟩
      obtain ⟨xn, rfl⟩ : ∃ xn : Nat, x = (xn : Int) := ⟨x.toNat, by omega⟩
      have hD2 := B2 _ _ hD Df
      obtain ⟨u2, hu2⟩ : ∃ u2, (rowsOf a)[xn]? = some u2 := ⟨_, List.getElem?_eq_getElem (show xn < (rowsOf a).length by omega)⟩
      obtain ⟨v2, hv2, L2', rfl, L2D, hL2⟩ := al.get hu2
      refine ⟨D, _, _, _, rfl, rfl, SqL.of hD2, atI_nat hv2, f, c, D, lv, .ref L2', rfl, hD2, Df, (fun e => by rw [e] at lv0; cases lv0), by omega, F2, fun p6 ys H3 put np6 p6f hp6 F3 B3 => ?_⟩
      have al3 : All2 (RwAt f H3) lv (rowsOf a) := al.imp fun x y z => by
        obtain ⟨M, rfl, nM, e⟩ := z
        have Mf := F1.neS e
        exact ⟨M, rfl, Mf, B3 _ _ (B2 _ _ e Mf) Mf⟩
      have r3 : RwAt f H3 (.ref L2') u2 := by
        have Mf := F1.neS hL2
        exact ⟨L2', rfl, Mf, B3 _ _ (B2 _ _ hL2 Mf) Mf⟩
      obtain ⟨bs, pb, alb⟩ := put.all2 al3 r3
      have lb := pb.len
      have sb := pb.sum fun y => wW y + 1
      have w2 := wW_mem (List.mem_of_getElem? hu2)
      have sb : sizeR bs ≤ sizeR (rowsOf a) + (wW u2 + 1) := sb
      refine ⟨eD, wy, p6, ys, bs, k, _, rfl, hp6, alb, fun x hx z hz => ?_, by omega, by omega, F3, (B1.trans B2).trans B3⟩
      rcases pb.mem x hx with h | rfl
      · exact gw0 x h z hz
      · exact gw0 _ (List.mem_of_getElem? hu2) z hz
    refine ⟨_, rfl, rfl, _, rfl, ?_⟩
    show (if decide (V.int wy = V.int 6) = true then _ else _)
    refine if_bl (fun _ => ?_) (fun _ => ?_)
    · -- a row made longer
      refine ⟨_, rfl, _, rfl, D, _, _, _, rfl, rfl, SqL.of hD, atI_nat hv, (by show 2 ≤ sizeLine; decide), fun p1 np1 => ?_⟩
      generalize hH2 : upd H1 p1 _ = H2
      have s2 : Same H1 H2 := by rw [← hH2]; exact same_new np1
      have hp1 : H2 p1 = some (.lst [V.str "+", V.str "x"]) := by rw [← hH2, upd_same]
      clear hH2
      refine ⟨_, rfl, _, rfl, D, _, _, _, rfl, rfl, SqL.of (s2 _ _ hD), atI_nat hv, L, _, rfl, .inl (SqL.of (s2 _ _ hL)), _, _, rfl, rfl, ?_⟩
      have lu := lenW u
      refine ⟨_, _, rfl, rfl, ⟨by decide, by decide⟩, (by show 3 ≤ sizeLine; decide), fun p2 np2 => ?_⟩
      generalize hH3 : upd H2 p2 _ = H3
      have s3 : Same H2 H3 := by rw [← hH3]; exact same_new np2
      have hp2 : H3 p2 = some (.lst [.int 1, .int 22, .int ((41 - (((u.map V.str).length : Nat) : Int)) / 2)]) := by rw [← hH3, upd_same]
      clear hH3
      rw [List.length_map] at hp2
      have s13 := s2.trans s3
      have F3 := F1.same s13
      have p1f := F3.neS (p := p1) (zs := ["+", "x"]) (s3 _ _ hp1)
      refine ⟨_, rfl, f, c, 3, rfl, by decide, by decide +kernel, F3, fun x H4 x0 x1 F4 B4 => ?_⟩
      obtain ⟨xn, rfl⟩ : ∃ xn : Nat, x = (xn : Int) := ⟨x.toNat, by omega⟩
      have p2f : p2 ≠ f := fun z => by
        obtain ⟨_, _, _, _, _, e1, _⟩ := F3
        rw [z, e1] at hp2
        cases hp2
      obtain ⟨m3, hm3, m3a, m3b⟩ : ∃ m3 : Int, ([.int 1, .int 22, .int ((41 - ((u.length : Nat) : Int)) / 2)] : List V)[xn]? = some (.int m3) ∧ m3 ≤ 22 ∧ -10000000 ≤ m3 := by
        match xn, x1 with
        | 0, _ => exact ⟨1, rfl, by decide, by decide⟩
        | 1, _ => exact ⟨22, rfl, by decide, by decide⟩
        | 2, _ => exact ⟨_, rfl, by omega, by omega⟩
      refine ⟨p2, _, _, _, rfl, rfl, SqL.of (B4 _ _ hp2 p2f), atI_nat hm3, ?_⟩
      have hp14 := B4 _ _ (s3 _ _ hp1) p1f
      refine ⟨p1, m3, _, rfl, rfl, hp14, by omega, by omega, Nat.le_trans (show 2 * m3.toNat ≤ 16000000 by omega) (by decide), fun p3 np3 => ?_⟩
      obtain ⟨g1, g2, g3, g4⟩ := rep_strs m3.toNat
      rw [g1]
      generalize (List.replicate m3.toNat [("+" : Str), "x"]).flatten = ex at g2 g3 g4
      have s5 : Same H4 (upd H4 p3 (.lst (ex.map V.str))) := same_new np3
      have hp3 : (upd H4 p3 (.lst (ex.map V.str))) p3 = some (.lst (ex.map V.str)) := upd_same
      generalize upd H4 p3 (.lst (ex.map V.str)) = H5 at s5 hp3 ⊢
      have hL5 := s5 _ _ (B4 _ _ (s13 _ _ hL) (F3.neS (s13 _ _ hL)))
      refine ⟨L, p3, _, _, rfl, rfl, hL5, hp3, big8 (by rw [List.length_map, List.length_map]; omega), fun p4 np4 => ?_⟩
      have s6 : Same H5 (upd H5 p4 (.lst (u.map V.str ++ ex.map V.str))) := same_new np4
      have hp4 : (upd H5 p4 (.lst (u.map V.str ++ ex.map V.str))) p4 = some (.lst ((u ++ ex).map V.str)) := by rw [upd_same, List.map_append]
      generalize upd H5 p4 (.lst (u.map V.str ++ ex.map V.str)) = H6 at s6 hp4 ⊢
      have s46 := s5.trans s6
      have hD4 := B4 _ _ (s13 _ _ hD) Df
      have hD6 := s46 _ _ hD4
      refine ⟨_, rfl, _, rfl, D, _, _, k, rfl, rfl, hD6, hix, ?_⟩
      refine fin _ hD6 (.inr ((But.of s13).trans (B4.same s46))) (F4.same s46) ((B1.same s13).trans (B4.same s46)) hp4 (fun z => by rw [z, s5 _ _ hD4] at np4; cases np4) (fun z hz => ?_) ?_
      · rcases List.mem_append.mp hz with h | h
        · exact gw0 u um z h
        · exact g3 z h
      · have : wW (u ++ ex) = wW u + wW ex := by unfold wW; rw [List.map_append, List.sum_append]
        rw [this, g2]
        omega
    -- something behind the end
    refine ⟨_, rfl, (by show 5 ≤ sizeLine; decide), fun p1 np1 => ?_⟩
    generalize hH2 : upd H1 p1 _ = H2
    have s2 : Same H1 H2 := by rw [← hH2]; exact same_new np1
    have hp1 : H2 p1 = some (.lst (w5.map V.str)) := by rw [← hH2, upd_same]; rfl
    clear hH2
    have F2 := F1.same s2
    have p1f := F2.neS hp1
    refine ⟨_, rfl, f, c, 5, rfl, by decide, by decide +kernel, F2, fun x H3 x0 x1 F3 B3 => ?_⟩
    obtain ⟨xn, rfl⟩ : ∃ xn : Nat, x = (xn : Int) := ⟨x.toNat, by omega⟩
    obtain ⟨z, hz⟩ : ∃ z, w5[xn]? = some z := ⟨_, List.getElem?_eq_getElem (show xn < w5.length by show xn < 5; omega)⟩
    obtain ⟨z1, z2, z3⟩ := w5_ok z (List.mem_of_getElem? hz)
    refine ⟨p1, _, _, _, rfl, rfl, SqL.of (B3 _ _ hp1 p1f), atI_nat (by rw [List.getElem?_map, hz]; rfl), _, _, rfl, rfl, big8 (by omega), ?_⟩
    show D'.rt _ _
    rw [eD]
    refine q (a ++ z) H3 (more (n' := n + 2) (m' := m + 4) ⟨?_, ?_, ?_⟩ (by omega) (by omega)) F3 ((B1.same s2).trans B3)
    · rw [strlen, app22, List.length_append, ← strlen, ← strlen]; omega
    · rw [app22, List.count_append]
      have := ta.few
      omega
    · rw [strOk_iff, app22]
      intro y hy
      rcases List.mem_append.mp hy with h | h
      · exact strOk_iff.mp ta.ok y h
      · exact strOk_iff.mp z3 y h
  obtain ⟨tx, rok, r100, rne⟩ := ta.tb (by omega) (by omega)
  refine ⟨_, rfl, f, c, 8, rfl, by decide, by decide +kernel, F0, fun wy H1 w0 w8 F1 B1 => ?_⟩
  refine ⟨_, rfl, _, _, rfl, rfl, _, rfl, if_know (K := True) (fun c2 nx => ?_) (fun _ => trivial) (fun _ => ?_)⟩
  · refine ⟨_, rfl, rfl, _, rfl, if_strN (fun ne => ?_) (fun _ => nx trivial)⟩
    -- a sign of all
    have lsg : Str.length (sgnS ++ "\n") = 95 := by decide +kernel
    have osg : PyData.strOk (sgnS ++ "\n") = true := by decide +kernel
    have o5 : PyData.strOk "0-@_ " = true := by decide +kernel
    have l5 : Str.length "0-@_ " = 5 := by decide +kernel
    refine ⟨rfl, _, _, rfl, rfl, by decide +kernel, ?_⟩
    refine ⟨_, rfl, _, rfl, _, rfl, _, rfl, little (by rw [lsg]; decide), f, c, _, rfl, by rw [lsg]; decide, by rw [lsg]; decide +kernel, F1, fun u H6 u0 u1 F6 B6 => ?_⟩
    obtain ⟨cc, ecc, mcc⟩ := sign_at u0 u1
    refine ⟨_, u, cc, rfl, rfl, little (by rw [lsg]; decide), ecc, _, rfl, f, c, 5, rfl, by decide, by decide +kernel, F6, fun u2 H7 p0 p1 F7 B7 => ?_⟩
    obtain ⟨c2', ec2, mc2⟩ := sign_at (z := "0-@_ ") p0 (by rw [l5]; exact p1)
    refine ⟨_, u2, c2', rfl, rfl, by decide +kernel, ec2, (by show 2 ≤ sizeLine; decide), fun p np => ?_⟩
    have c2 := of_decide_eq_true c2
    obtain ⟨d, ed, od⟩ : ∃ d : Nat, atI [V.str ⟨#[cc]⟩, V.str ⟨#[c2']⟩] wy = some (.str ⟨#[d]⟩) ∧ d < 1114112 := by
      have : wy = 0 ∨ wy = 1 := by omega
      rcases this with rfl | rfl
      · exact ⟨cc, rfl, strOk_iff.mp osg cc mcc⟩
      · exact ⟨c2', rfl, strOk_iff.mp o5 c2' mc2⟩
    refine ⟨_, rfl, p, _, wy, _, rfl, rfl, SqL.of upd_same, ed, ?_⟩
    generalize hH8 : upd H7 p _ = H8
    have s8 : Same H7 H8 := by rw [← hH8]; exact same_new np
    clear hH8
    have F8 := F7.same s8
    have B8 : But f H H8 := ((B1.trans B6).trans B7).same s8
    refine ⟨⟨_, rfl⟩, _, rfl, _, rfl, a, rfl, Nat.le_trans (show a.length ≤ 8000000 by omega) (by decide), fun l nl => ?_⟩
    have s9 : Same H8 (upd H8 l (.lst (a.cps.toList.map fun c => V.str ⟨#[c]⟩))) := same_new nl
    have hl : (upd H8 l (.lst (a.cps.toList.map fun c => V.str ⟨#[c]⟩))) l = some (.lst ((a.cps.toList.map fun c => (⟨#[c]⟩ : Str)).map V.str)) := by rw [upd_same, List.map_map]; rfl
    have lf := F8.ne nl
    have F9 : Flow (upd H8 l (.lst (a.cps.toList.map fun c => V.str ⟨#[c]⟩))) f c := F8.new nl
    generalize upd H8 l (.lst (a.cps.toList.map fun c => V.str ⟨#[c]⟩)) = H9 at s9 hl F9 ⊢
    have ane : a.cps.toList ≠ [] := fun z => ne (str_inj (by rw [z]; decide +kernel))
    have le : (a.cps.toList.map fun c => (⟨#[c]⟩ : Str)).length ≤ m := by rw [List.length_map, ← strlen]; exact la
    refine ⟨_, rfl, f, c, l, (a.cps.toList.map fun c => (⟨#[c]⟩ : Str)).map V.str, .str ⟨#[d]⟩, rfl, hl, lf, (fun e => ane (List.map_eq_nil_iff.mp (List.map_eq_nil_iff.mp e))), by rw [List.length_map]; omega, F9, fun p9 ys H10 put np9 p9f hp9 F10 B10 => ?_⟩
    obtain ⟨zs, rfl, put'⟩ := Put.map V.str put
    obtain ⟨tz, sz⟩ := put_sign ta (sg := ⟨#[d]⟩) rfl (by rw [strOk_iff]; intro x hx; rw [List.mem_singleton.mp (show x ∈ [d] from hx)]; exact od) put'
    refine ⟨_, p9, zs, rfl, rfl, .inl (SqL.of hp9), by rw [show Str.length "" = 0 by decide +kernel]; omega, ?_⟩
    exact q _ H10 (more tz (by omega) (by omega)) F10 ((B8.same s9).trans B10)
  -- the rows
  refine ⟨_, rfl, rfl, _, _, rfl, rfl, by decide +kernel, Nat.le_trans (show a.length + 2 ≤ 8000002 by omega) (by decide), fun p0 np0 => ?_⟩
  have sr := tx.sr
  have lrs := sr.length
  have s1 : Same H1 (upd H1 p0 (.lst ((Txt.split a "\n").map V.str))) := same_new np0
  have hp0 : (upd H1 p0 (.lst ((Txt.split a "\n").map V.str))) p0 = some (.lst ((Txt.split a ⟨#[10]⟩).map V.str)) := by rw [upd_same, nl10]
  have p0n : p0 ≠ f := F1.ne np0
  generalize upd H1 p0 (.lst ((Txt.split a "\n").map V.str)) = H2 at s1 hp0 ⊢
  have F2 := F1.same s1
  generalize hrs : Txt.split a ⟨#[10]⟩ = rs at hp0 sr lrs tx
  refine ⟨p0, rfl, ⟨_, SqL.of hp0⟩, fun D nD => ?_⟩
  have Df := F2.ne nD
  have Dc := F2.nec nD
  refine lc_list (K := K) (a := p0) (xs := rs.map V.str) (fun i H9 => ∃ lv, H9 D = some (.lst lv) ∧ All2 (LsAt D H9) lv ((rowsOf a).take i) ∧ Same H2 H9) ⟨[], upd_same, by rw [List.take_zero]; exact .nil, same_new nD⟩ (fun i H9 _ ⟨_, _, _, s9⟩ => SqL.of (s9 _ _ hp0)) ?_ ?_
  · rintro i v H9 hx ⟨lv, hD, al, s9⟩
    rw [List.getElem?_map] at hx
    cases hk : rs[i]? with
    | none => rw [hk] at hx; cases hx
    | some r =>
    rw [hk] at hx
    obtain rfl : V.str r = v := Option.some.inj hx
    obtain ⟨u, hu, eu, lr⟩ := sr.getL hk
    have il := (List.getElem?_eq_some_iff.mp hk).1
    have lal := al.length
    rw [List.length_take] at lal
    refine ⟨rfl, yes_in ⟨_, rfl, rfl, _, _, rfl, rfl, by decide +kernel, Nat.le_trans (show r.length + 2 ≤ 8000002 by omega) (by decide), fun L nL => ?_⟩⟩
    have s10 : Same H9 (upd H9 L (.lst ((Txt.split r " ").map V.str))) := same_new nL
    have hL : (upd H9 L (.lst ((Txt.split r " ").map V.str))) L = some (.lst (u.map V.str)) := by rw [upd_same, eu]
    have LD : L ≠ D := fun z => by rw [z, hD] at nL; cases nL
    generalize upd H9 L (.lst ((Txt.split r " ").map V.str)) = H10 at s10 hL ⊢
    refine ⟨lv, s10 _ _ hD, small1000 (by omega), lv ++ [.ref L], upd_same, ?_, Same.own (s9.trans s10) nD⟩
    rw [List.take_add_one, hu]
    refine (al.imp fun x y z => ?_).snoc ⟨L, rfl, LD, by rw [upd_ne LD]; exact hL⟩
    obtain ⟨L2', e, nn, g⟩ := z
    exact ⟨L2', e, nn, by rw [upd_ne nn]; exact s10 _ _ g⟩
  rintro H3 ⟨lv, hD, al, s3⟩
  rw [List.length_map, List.take_of_length_le (by omega)] at al
  have lal := al.length
  have F3 := F2.same s3
  have s13 := s1.trans s3
  have lr0 := List.length_pos_iff.mpr rne
  refine ⟨_, rfl, _, rfl, D, _, rfl, .inl (SqL.of hD), f, c, ((lv.length : Nat) : Int), rfl, by omega, log_8 (by omega), F3, fun x H4 x0 x1 F4 B4 => ?_⟩
  obtain ⟨k, rfl⟩ : ∃ k : Nat, x = (k : Int) := ⟨x.toNat, by omega⟩
  refine ⟨rfl, wy, D, lv, k, rfl, w0, w8, B4 _ _ hD Df, al.imp fun _ _ z => z.keepB F3 B4, by omega, Df, Dc, F4, (B1.same s13).trans B4, ?_⟩
  have nD1 := same_none s1 nD
  exact B1.none nD1 Df
end
/-! ### the law -/
theorem ok_lit22 : ∀ z ∈ ([("(" : Str), ")", "@", ",", "*", "<", "if", "then", "else", "+", "-", "most", "least", "was", ":", "=", "in", "out", "sum", "gap", "below"] : List Str), PyData.strOk z = true := by
  decide +kernel
theorem name_ok22 {z : Str} (h : nameB z = true) : PyData.strOk z = true := by
  have := (name_nm h).lay
  simpa [PyData.canLay0] using this
theorem num_ok22 {z : Str} {i : Int} (h : numW z i) : PyData.strOk z = true := by
  obtain ⟨_, _, ad, _⟩ := numO_some h.1
  rw [strOk_iff]
  intro d hd
  unfold figL at ad
  split at ad
  · rename_i e
    cases hl : z.cps.toList with
    | nil => rw [hl] at hd; cases hd
    | cons x r =>
      rw [hl] at hd e ad
      rcases List.mem_cons.mp hd with y | y
      · rw [y, Option.some.inj e]; decide
      · have := (ad d y).2; omega
  · have := (ad d hd).2; omega
theorem Rd.ok22 {l : Nat} {t : Tr} {u : List Str} {h : Nat} (r : Rd l t u h) : ∀ z ∈ u, PyData.strOk z = true := by
  induction r with
  | up _ _ ih => exact ih
  | par _ ih =>
    intro z hz
    simp only [List.mem_cons, List.mem_append, List.not_mem_nil, or_false] at hz
    rcases hz with rfl | hz | rfl
    · exact ok_lit22 _ (by simp)
    · exact ih z hz
    · exact ok_lit22 _ (by simp)
  | num g => intro z hz; rw [List.mem_singleton.mp hz]; exact num_ok22 g
  | nam g => intro z hz; rw [List.mem_singleton.mp hz]; exact name_ok22 g.1
  | ago g y =>
    intro z hz
    simp only [List.mem_cons, List.not_mem_nil, or_false] at hz
    rcases hz with rfl | rfl | rfl
    · exact name_ok22 g.1
    · exact ok_lit22 _ (by simp)
    · exact num_ok22 y
  | @two w a b u v h g _ _ i1 i2 =>
    intro z hz
    simp only [List.mem_cons, List.mem_append, List.not_mem_nil, or_false] at hz
    rcases hz with rfl | rfl | hz | rfl | hz | rfl
    · cases w <;> exact ok_lit22 _ (by simp [W2.s])
    · exact ok_lit22 _ (by simp)
    · exact i1 z hz
    · exact ok_lit22 _ (by simp)
    · exact i2 z hz
    · exact ok_lit22 _ (by simp)
  | times g _ ih =>
    intro z hz
    simp only [List.mem_cons] at hz
    rcases hz with rfl | rfl | hz
    · exact num_ok22 g
    · exact ok_lit22 _ (by simp)
    · exact ih z hz
  | @sum w s a b u v h p _ _ i1 i2 =>
    intro z hz
    simp only [List.mem_cons, List.mem_append] at hz
    rcases hz with hz | rfl | hz
    · exact i1 z hz
    · cases w <;> cases p <;> exact ok_lit22 _ (by simp)
    · exact i2 z hz
  | less _ _ i1 i2 =>
    intro z hz
    simp only [List.mem_cons, List.mem_append] at hz
    rcases hz with hz | rfl | hz
    · exact i1 z hz
    · exact ok_lit22 _ (by simp)
    · exact i2 z hz
  | pick _ _ _ i1 i2 i3 =>
    intro z hz
    simp only [List.mem_cons, List.mem_append] at hz
    rcases hz with rfl | hz | rfl | hz | rfl | hz
    · exact ok_lit22 _ (by simp)
    · exact i1 z hz
    · exact ok_lit22 _ (by simp)
    · exact i2 z hz
    · exact ok_lit22 _ (by simp)
    · exact i3 z hz
theorem RwOk.ok22 {u : List Str} {m : Mid} (h : RwOk u m) : ∀ z ∈ u, PyData.strOk z = true := by
  cases m with
  | inl p =>
    obtain ⟨ys, rfl, nz, an⟩ := h
    intro z hz
    simp only [List.mem_cons] at hz
    rcases hz with rfl | rfl | rfl | hz
    · exact ok_lit22 _ (by simp)
    · exact name_ok22 nz.1
    · exact ok_lit22 _ (by simp)
    · obtain ⟨j, ej⟩ := List.getElem?_of_mem hz
      obtain ⟨i, _, g⟩ := an.getL ej
      exact num_ok22 g
  | inr p =>
    obtain ⟨v, rfl, nz, rd⟩ := h
    intro z hz
    simp only [List.mem_cons] at hz
    rcases hz with rfl | rfl | hz
    · exact name_ok22 nz.1
    · exact ok_lit22 _ (by simp)
    · exact rd.ok22 z hz
theorem TxOk.txs {a : Str} {rs ins outs : List Str} {mid : List (List Str)} {ms : List Mid} (h : TxOk a rs ins outs mid ms) : TxS a (mid.length + 1) 1000000 := by
  have sr := h.sr
  have lr := sr.length
  have sp := h.sp
  rw [nl10] at sp
  have wok : ∀ u ∈ (("in" : Str) :: ins) :: (mid ++ [("out" : Str) :: outs]), ∀ z ∈ u, PyData.strOk z = true := fun u hu => by
    simp only [List.mem_cons, List.mem_append, List.not_mem_nil, or_false] at hu
    rcases hu with rfl | hu | rfl
    · intro z hz
      rcases List.mem_cons.mp hz with rfl | hz
      · exact ok_lit22 _ (by simp)
      · exact name_ok22 (h.hi z hz).1
    · obtain ⟨j, ej⟩ := List.getElem?_of_mem hu
      obtain ⟨m, _, g⟩ := h.mi.getL ej
      exact g.ok22
    · intro z hz
      rcases List.mem_cons.mp hz with rfl | hz
      · exact ok_lit22 _ (by simp)
      · exact name_ok22 (h.ho z hz).1
  refine ⟨h.la, ?_, ?_⟩
  · have := split_len a (c := 10) (by decide)
    rw [sp, lr] at this
    simp only [List.length_cons, List.length_append, List.length_nil] at this
    omega
  · rw [strOk_iff]
    intro x hx
    have ea : a.cps.toList = joinL 10 (rs.map fun z => z.cps.toList) := by rw [← sp, split_one a (by decide), joinL_split]
    rw [ea] at hx
    rcases joinL_mem hx with rfl | ⟨p, hp, g⟩
    · decide
    · obtain ⟨r, hr, rfl⟩ := List.mem_map.mp hp
      obtain ⟨j, ej⟩ := List.getElem?_of_mem hr
      obtain ⟨u, eu, es, _⟩ := sr.getL ej
      rw [sp32] at es
      have er : r.cps.toList = joinL 32 (u.map fun z => z.cps.toList) := by rw [← es, split_one r (by decide), joinL_split]
      rw [er] at g
      rcases joinL_mem g with rfl | ⟨p, hp, g⟩
      · decide
      · obtain ⟨z, hz, rfl⟩ := List.mem_map.mp hp
        exact strOk_iff.mp (wok u (List.mem_of_getElem? eu) z hz) x g
theorem mids_len : ∀ ms : List Mid, ms.length = (ms.filterMap Mid.wa).length + (ms.filterMap Mid.rl).length
  | [] => rfl
  | m :: r => by
    have ih := mids_len r
    cases m with
    | inl p =>
      show r.length + 1 = (p :: r.filterMap Mid.wa).length + (r.filterMap Mid.rl).length
      rw [List.length_cons]; omega
    | inr p =>
      show r.length + 1 = (r.filterMap Mid.wa).length + (p :: r.filterMap Mid.rl).length
      rw [List.length_cons]; omega
theorem flow_ext {H H' : Hp} {f c : Addr} (e : LamX.ExtN H H') (F : Flow H f c) : Flow H' f c := by
  obtain ⟨ns, i, p, q, r, e1, e2, e3⟩ := F
  exact ⟨ns, i, p, q, r, e _ _ e1 (fun _ z => nomatch z), e _ _ e2 (fun _ z => nomatch z), e3⟩
abbrev mI (i : Nat) : Nat := 1000300 * 2 ^ i - 300
section
variable {P : Program} {w : World} {K : PySem.W.Frag} {mg : Str → Option Value} {base : Heap}
variable {cN cF : Addr} {PT : Addr × Addr} [TN : TabN K mg base cN PT] [TF : TabF K mg base cF PT]
def sp_law (K : PySem.W.Frag) (C : Addr) (PT : Addr × Addr) : Sp := fun vs H Q _ => ∃ (a : Addr) (ns : List Int), vs = [.ref a] ∧ SqL K H a (ns.map V.int) ∧ ns.length ≤ 63 ∧ Tb2 PT H ∧ ∀ H', Q (.bl true) H'
include TN TF in
theorem ok_law {f : Addr} {fd : FuncData} (F : Fun K "law" "law" s_law f fd) {C : Addr} (T : Top w K mg C) : FnG P w K mg base CX0 211 f fd ["_law_script"] (sp_law K C PT) := by
  obtain ⟨f_law_flow, fd_law_flow, F_law_flow, b_law_flow, m_law_flow⟩ := T.d_law_flow
  have G_law_flow := ok_law_flow (P := P) (w := w) (base := base) F_law_flow T
  obtain ⟨f_law_text, fd_law_text, F_law_text, b_law_text, m_law_text⟩ := T.d_law_text
  have G_law_text := ok_law_text (P := P) (w := w) (base := base) F_law_text T
  obtain ⟨f_law_formulas, fd_law_formulas, F_law_formulas, b_law_formulas, m_law_formulas⟩ := T.d_law_formulas
  have G_law_formulas := ok_law_formulas (P := P) (w := w) (base := base) F_law_formulas T
  obtain ⟨f_law_spoilt, fd_law_spoilt, F_law_spoilt, b_law_spoilt, m_law_spoilt⟩ := T.d_law_spoilt
  have G_law_spoilt := ok_law_spoilt (P := P) (w := w) (base := base) F_law_spoilt T
  obtain ⟨f_law_told, fd_law_told, F_law_told, b_law_told, m_law_told⟩ := T.d_law_told
  have G_law_told := ok_law_told (P := P) (w := w) (base := base) F_law_told T
  obtain ⟨f_law_due, fd_law_due, F_law_due, b_law_due, m_law_due⟩ := T.d_law_due
  have G_law_due := ok_law_due (P := P) (w := w) (base := base) F_law_due T
  obtain ⟨f_law_pick, fd_law_pick, F_law_pick, b_law_pick, m_law_pick⟩ := T.d_law_pick
  have G_law_pick := ok_law_pick (P := P) (w := w) (base := base) F_law_pick T
  refine Fun.okG F sc_law (fun vs H Q E h => ?_) (fun cdv A outer s H vs Q E hr hG h => ?_)
  · obtain ⟨a, ns, rfl, _⟩ := h
    rfl
  obtain ⟨a, ns, rfl, hS, hlen, tb, q⟩ := h
  refine ⟨_, (pss_cons (ps_set (i := 1) sc_law.nd rfl (Or.inl rfl) (pe_call G_law_flow (hr.mono (by decide)) (by rfl) m_law_flow F_law_flow.kp b_law_flow .nil pass0 (pa_cons (pv 0) pa_nil)))
      (pss_cons (ps_set (i := 2) sc_law.nd rfl (Or.inl rfl) (pe_ix (ix_tupK K rfl) (pe_call G_law_text (hr.mono (by decide)) (by rfl) m_law_text F_law_text.kp b_law_text .nil pass0 (pa_cons (pv 1) (pa_cons (pe_call G_law_formulas (hr.mono (by decide)) (by rfl) m_law_formulas F_law_formulas.kp b_law_formulas .nil pass0 (pa_cons (pv 1) (pa_cons pe_int pa_nil))) pa_nil))) pe_int (fun _ _ => rfl)))
      (pss_cons (ps_for PassesOwn.never rfl (pi_range1 (by rfl) T.m_range (pa_cons pe_int pa_nil)) (pg_name (i := 3) sc_law.nd rfl (Or.inl rfl))
        (pss_cons (ps_set (i := 4) sc_law.nd rfl (Or.inl rfl) (pv 2))
      (pss_cons (ps_for PassesOwn.never rfl (pi_range1 (by rfl) T.m_range (pa_cons (pe_op op_add pe_int (pe_call G_law_pick (hr.mono (by decide)) (by rfl) m_law_pick F_law_pick.kp b_law_pick .nil pass0 (pa_cons (pv 1) (pa_cons pe_int pa_nil)))) pa_nil)) (pg_name (i := 5) sc_law.nd rfl (Or.inl rfl))
        (pss_one (ps_set (i := 4) sc_law.nd rfl (Or.inl rfl) (pe_call G_law_spoilt (hr.mono (by decide)) (by rfl) m_law_spoilt F_law_spoilt.kp b_law_spoilt .nil pass0 (pa_cons (pv 1) (pa_cons (pv 4) pa_nil))))))
      (pss_one (ps_for PassesOwn.never rfl (pi_tupK K rfl (pe_tup (pa_cons (pv 2) (pa_cons (pv 4) (pa_cons (pv 4) pa_nil))))) (pg_name (i := 6) sc_law.nd rfl (Or.inl rfl))
        (pss_one (ps_if (pt_cmpR op_ne (pe_callB (call_reprG K rfl hG hr.units) (by rfl) T.m_repr (by decide +kernel) (pa_cons (pe_call G_law_told (hr.mono (by decide)) (by rfl) m_law_told F_law_told.kp b_law_told .nil pass0 (pa_cons (pv 6) pa_nil)) pa_nil)) (pe_callB (call_reprG K rfl hG hr.units) (by rfl) T.m_repr (by decide +kernel) (pa_cons (pe_call G_law_due (hr.mono (by decide)) (by rfl) m_law_due F_law_due.kp b_law_due .nil pass0 (pa_cons (pv 6) pa_nil)) pa_nil)) (nomark _)) (pss_one (ps_ret pe_bl)) pss_nil)))))))
      (pss_one (ps_ret (pe_cmpR op_eq (pe_callB (call_reprG K rfl hG hr.units) (by rfl) T.m_repr (by decide +kernel) (pa_cons (pe_call G_law_told (hr.mono (by decide)) (by rfl) m_law_told F_law_told.kp b_law_told .nil pass0 (pa_cons (pv 2) pa_nil)) pa_nil)) (pe_callB (call_reprG K rfl hG hr.units) (by rfl) T.m_repr (by decide +kernel) (pa_cons (pe_call G_law_due (hr.mono (by decide)) (by rfl) m_law_due F_law_due.kp b_law_due .nil pass0 (pa_cons (pv 2) pa_nil)) pa_nil)) (nomark _))))))), ?_⟩
  refine ⟨_, rfl, a, ns, rfl, hS, fun f c H1 nf nc F1 s1 => ?_⟩
  have t1 := tb.same s1
  refine ⟨_, rfl, _, rfl, f, c, 3, rfl, by decide, F1, fun r1 G1 H2 hF1 g1 F2 B2 => ?_⟩
  refine ⟨f, c, r1, G1, 3, rfl, hF1, g1, by decide, F2, fun p1 x1 good E1 rs1 mid1 ms1 H3 hp1 hx1 e1 tx1 w1 l1 F3 B3 => ?_⟩
  have t3 := (t1.but F1 B2).but F2 B3
  have tg : TxS good 13 (mI 0) := by
    have h := tx1.txs
    have l : mid1.length ≤ 12 := by
      rw [tx1.mi.length, mids_len, w1, l1]
      have := e1.lw
      have := e1.lr
      omega
    exact ⟨h.len, Nat.le_trans h.few (by omega), h.ok⟩
  refine ⟨p1, _, _, _, rfl, rfl, SqT.of hp1, atI_nat (j := 0) rfl, ?_⟩
  refine ⟨_, rfl, by decide, by decide, for_range (lo := 0) (n := 3) (fun i σ H5 => ∃ v3 v4 v5 v6 : Option V, σ = [some (.ref a), some (.ref f), some (.str good), v3, v4, v5, v6] ∧ Flow H5 f c ∧ Tb2 PT H5) ⟨none, none, none, none, rfl, F3, t3⟩ ?_ ?_⟩
  · rintro i σ H5 hi ⟨v3, v4, v5, v6, rfl, F5, t5⟩
    refine ⟨_, rfl, _, rfl, f, c, 2, rfl, by decide, by decide +kernel, F5, fun x H6 x0 x1 F6 B6 => ?_⟩
    have t6 := t5.but F5 B6
    refine ⟨_, _, rfl, rfl, _, rfl, by omega, by omega, for_range (lo := 0) (n := (1 + x).toNat) (fun j σ H7 => ∃ (v3 v5 v6 : Option V) (b : Str), σ = [some (.ref a), some (.ref f), some (.str good), v3, some (.str b), v5, v6] ∧ TxS b (13 + 2 * j) (mI j) ∧ Flow H7 f c ∧ Tb2 PT H7) ⟨_, _, _, good, rfl, tg, F6, t6⟩ ?_ ?_⟩
    · rintro j σ H7 hj ⟨v3, v5, v6, b, rfl, tb7, F7, t7⟩
      have j2 : j = 0 ∨ j = 1 := by omega
      have m2 : mI j ≤ 2001000 := by rcases j2 with rfl | rfl <;> decide
      refine ⟨_, rfl, _, rfl, f, c, b, 13 + 2 * j, mI j, rfl, tb7, by omega, m2, F7, fun b2 H8 tb8 F8 B8 => ?_⟩
      have e : 2 * mI j + 300 = mI (j + 1) := by rcases j2 with rfl | rfl <;> decide
      rw [e, show 13 + 2 * j + 2 = 13 + 2 * (j + 1) by omega] at tb8
      exact ⟨_, _, _, b2, rfl, tb8, F8, t7.but F7 B8⟩
    · rintro σ H7 ⟨v3, v5, v6, b, rfl, tb7, F7, t7⟩
      have hb : TxS b 17 8000000 := by
        have : (1 + x).toNat = 1 ∨ (1 + x).toNat = 2 := by omega
        rcases this with h | h
        · rw [h] at tb7; exact ⟨Nat.le_trans tb7.len (by decide), Nat.le_trans tb7.few (by decide), tb7.ok⟩
        · rw [h] at tb7; exact ⟨Nat.le_trans tb7.len (by decide), Nat.le_trans tb7.few (by decide), tb7.ok⟩
      have hg : TxS good 17 8000000 := ⟨Nat.le_trans tg.len (by decide), Nat.le_trans tg.few (by decide), tg.ok⟩
      refine ⟨_, rfl, _, rfl, _, rfl, (by show 3 ≤ sizeLine; decide), fun tp ntp => ?_⟩
      have s8 : Same H7 (upd H7 tp (.tup [.str good, .str b, .str b])) := same_new ntp
      have htp : (upd H7 tp (.tup [.str good, .str b, .str b])) tp = some (.tup [.str good, .str b, .str b]) := upd_same
      have F8 := F7.same s8
      have t8 := t7.same s8
      generalize upd H7 tp (.tup [.str good, .str b, .str b]) = H8 at s8 htp F8 t8 ⊢
      refine ⟨tp, rfl, ⟨_, SqT.of htp⟩, for_tup (K := K) (a := tp) (xs := [.str good, .str b, .str b]) (fun k σ H9 => ∃ v3 v5 v6 : Option V, σ = [some (.ref a), some (.ref f), some (.str good), v3, some (.str b), v5, v6] ∧ LamX.ExtN H8 H9 ∧ Tb2 PT H9) ⟨_, _, _, rfl, LamX.ExtN.refl H8, t8⟩ (fun k σ H9 _ ⟨_, _, _, _, e9, _⟩ => SqT.of (e9 _ _ htp (fun ps z => nomatch z))) ?_ ?_⟩
      · rintro k y σ H9 hy ⟨v3, v5, v6, rfl, x9, t9⟩
        obtain ⟨one, rfl, h1⟩ : ∃ one : Str, y = .str one ∧ TxS one 17 8000000 := by
          have ym := List.mem_of_getElem? hy
          simp only [List.mem_cons, List.not_mem_nil, or_false] at ym
          rcases ym with rfl | rfl | rfl
          · exact ⟨good, rfl, hg⟩
          · exact ⟨b, rfl, hb⟩
          · exact ⟨b, rfl, hb⟩
        obtain ⟨tbo, rok, r100, rne⟩ := h1.tb (by decide) (Nat.le_refl _)
        obtain ⟨y1, y2, y3, y4⟩ := due_say r100 rne
        refine ⟨_, rfl, one, _, _, rfl, tbo, t9, fun v H10 du x10 t10 => ⟨v, _, rfl, du.dp, y1, y2, y3, y4, ?_⟩⟩
        refine ⟨_, rfl, one, _, _, rfl, tbo, rok, fun v2 H11 du2 s11 => ⟨v2, _, rfl, du2.dp, y1, y2, y3, y4, ?_⟩⟩
        generalize (dueD (rowsOf one)).shown = S
        exact ⟨rfl, _, rfl, if_bl (fun c => absurd c (by rw [decide_eq_true rfl]; decide)) (fun _ => ⟨_, _, _, rfl, (x9.trans x10).trans (ext_same s11), t10.same s11⟩)⟩
      · rintro σ H9 ⟨v3, v5, v6, rfl, x9, t9⟩
        exact ⟨_, _, _, _, rfl, flow_ext x9 F8, t9⟩
  · rintro σ H5 ⟨v3, v4, v5, v6, rfl, F5, t5⟩
    have hg : TxS good 17 8000000 := ⟨Nat.le_trans tg.len (by decide), Nat.le_trans tg.few (by decide), tg.ok⟩
    obtain ⟨tbo, rok, r100, rne⟩ := hg.tb (by decide) (Nat.le_refl _)
    obtain ⟨y1, y2, y3, y4⟩ := due_say r100 rne
    refine ⟨_, rfl, good, _, _, rfl, tbo, t5, fun v H10 du x10 t10 => ⟨v, _, rfl, du.dp, y1, y2, y3, y4, ?_⟩⟩
    refine ⟨_, rfl, good, _, _, rfl, tbo, rok, fun v2 H11 du2 s11 => ⟨v2, _, rfl, du2.dp, y1, y2, y3, y4, ?_⟩⟩
    generalize (dueD (rowsOf good)).shown = S
    refine ⟨rfl, ?_⟩
    rw [decide_eq_true rfl]
    exact q _
end
/-! ### the class of own errors, looked at in the head -/
def oexB (K : PySem.W.Frag) (C : Addr) : Bool := match K.lookup C with
  | some o => (match o.cls, o.data, o.slots.toList with
    | .type t, .cls cd, [_, _, _, _, some (.builtin n), _] => decide (t = "type") && (decide (n = "ValueError.__new__") && (!cd.hasDel && (cd.hasDict && (match cd.mro with
      | .ref C' :: bm => decide (C' = C) && PySem.HandSPX.refsVE bm
      | _ => false))))
    | _, _, _ => false)
  | none => false
theorem oexB_ok {K : PySem.W.Frag} {C : Addr} (h : oexB K C = true) : ∃ nm q N bs bm sn sub ab col dd k0 k1 k2 k3 k5, K.lookup C = some (excClassObj nm q C N bs bm true sn sub ab col dd k0 k1 k2 k3 k5 "ValueError.__new__") ∧ PySem.HandSPX.refsVE bm = true := by
  unfold oexB at h
  split at h
  · rename_i o ho
    split at h
    · rename_i t cd k0 k1 k2 k3 n k5 e1 e2 hs
      simp only [Bool.and_eq_true, decide_eq_true_eq, Bool.not_eq_true'] at h
      obtain ⟨q1, q2, q3, q4, q5⟩ := h
      split at q5
      · rename_i C' bm e3
        simp only [Bool.and_eq_true, decide_eq_true_eq] at q5
        obtain ⟨oc, od, odt, osl⟩ := o
        obtain ⟨nm, bs, mro, ns, qn, hd, sn, sub, ab, col, del⟩ := cd
        obtain ⟨l⟩ := osl
        dsimp only at e1 e2 e3 hs q3 q4
        have hs : l = [k0, k1, k2, k3, some (.builtin n), k5] := hs
        rw [e1, e2, e3, hs, q1, q2, q3, q4, q5.1] at ho
        exact ⟨nm, qn, ns, bs, bm, sn, sub, ab, col, od, k0, k1, k2, k3, k5, ho, q5.2⟩
      · cases q5
    · cases h
  · cases h
/-- all that is asked of the class named x, its __init__ at f -/
def ownB (K : PySem.W.Frag) (C f CB : Addr) : List Bool := [oexB K C,
  decide (PySem.W.findIn K (.ref C) "__setattr__" = some (some (.builtin "object.__setattr__"))),
  decide (PySem.W.subIn K (.ref C) (.type "BaseException") = some true),
  decide (PySem.W.typeIn K (.ref C) = some (.type "type")),
  PySem.W.keepIn K (.ref C),
  decide (PySem.W.findIn K (.ref C) "__init__" = some (some (.ref f))),
  decide (PySem.W.typeIn K (.ref f) = some (.type "function")),
  decide (PySem.W.findIn K (.ref C) "__getattribute__" = some (some (.builtin "BaseException.__getattribute__"))),
  decide (PySem.W.findIn K (.ref C) "__getattr__" = some none),
  PySem.W.hasDictIn K C,
  decide (PySem.W.findIn K (.ref C) "__class__" = some (some (.builtin "object.__class__"))),
  decide (PySem.W.specialIn K (.builtin "object.__class__") "__get__" = some (some (.builtin "getset_descriptor.__get__"))),
  decide (PySem.W.takesIn K (.builtin "object.__class__") = some true),
  decide (PySem.W.mroIn K C (.type "object") = some true),
  decide (PySem.W.exmOne K (.ref C) (.ref C) = some true),
  decide (PySem.W.kitOne K (.ref C) (.ref CB) = some true),
  decide (PySem.W.findIn K (.ref C) "row" = some none)]
def nsB (K : PySem.W.Frag) : Bool := (ownB K (He.ga K "NoText") (He.fAd K ("NoText", some "__init__")) (He.ga K "BeltError")).all id && decide (PySem.W.exmOne K (.ref (He.ga K "NoText")) (.ref (He.ga K "BeltError")) = some true) && decide (PySem.W.kitAny K (.ref (He.ga K "NoText")) [.ref (He.ga K "NoFormula"), .ref (He.ga K "NoRoom"), .ref (He.ga K "NoShift"), .ref (He.ga K "NoName"), .ref (He.ga K "NoRow")] = some false)
theorem nsB_ok {K : PySem.W.Frag} {mg : Str → Option Value} {fd : FuncData} (h : nsB K = true) (gC : mg "NoText" = some (.ref (He.ga K "NoText"))) (gB : mg "BeltError" = some (.ref (He.ga K "BeltError"))) (F : Fun K "__init__" "NoText.__init__" s_NoText_init (He.fAd K ("NoText", some "__init__")) fd) (b : Binds K fd ["self", "row"] []) : NsC K mg (He.ga K "NoText") (He.ga K "BeltError") (He.fAd K ("NoText", some "__init__")) fd := by
  unfold nsB at h
  obtain ⟨h, ko⟩ := Bool.and_eq_true_iff.mp h
  have ko := of_decide_eq_true ko
  revert ko
  generalize He.ga K "NoText" = C at *
  generalize He.ga K "BeltError" = CB at *
  intro ko
  generalize He.fAd K ("NoText", some "__init__") = f at *
  obtain ⟨h, te⟩ := Bool.and_eq_true_iff.mp h
  have all := List.all_eq_true.mp h
  have at_ : ∀ (i : Nat) (z : Bool), (ownB K C f CB)[i]? = some z → z = true := fun i z e => all z (List.mem_of_getElem? e)
  have d : ∀ {p : Prop} [Decidable p], decide p = true → p := fun h => of_decide_eq_true h
  have w1 := d (at_ 1 _ rfl)
  have w2 := d (at_ 2 _ rfl)
  have w3 := d (at_ 3 _ rfl)
  have w4 := at_ 4 _ rfl
  have w7 := d (at_ 7 _ rfl)
  have w8 := d (at_ 8 _ rfl)
  have w9 := at_ 9 _ rfl
  exact ⟨gC, gB, ⟨oexB_ok (at_ 0 _ rfl), w1, w2, w3, w4⟩, d (at_ 16 _ rfl), d (at_ 5 _ rfl), d (at_ 6 _ rfl), F, b, of_decide_eq_true te, ⟨w7, w8, w2, w9⟩, ⟨w7, w8, w2, w9, d (at_ 10 _ rfl), d (at_ 11 _ rfl), d (at_ 12 _ rfl), d (at_ 13 _ rfl)⟩, d (at_ 14 _ rfl), d (at_ 15 _ rfl), ko⟩
theorem fun_of_D {K : PySem.W.Frag} {x q : Str} {st : Stmt} {f : Addr} {fd : FuncData} (D : FunD K x q (defArgs st) (defBody st) (defScope st) [] [] f fd) : Fun K x q st f fd := by
  obtain ⟨⟨oc, od, dV, kV, doc, pm, an, cdv, ct, osl, e, lk, ci, dfl, _⟩, kp⟩ := D
  have z : dV = .none := by
    rcases dfl with ⟨_, h⟩ | ⟨h, _⟩
    · exact h
    · exact absurd rfl h
  subst z
  exact ⟨⟨oc, od, kV, doc, pm, an, cdv, ct, osl, e, lk, ci⟩, kp⟩
def hd_is_name : He.DefD := ⟨("is_name", none), "is_name", "is_name", defArgs s_is_name, defBody s_is_name, defScope s_is_name, [], []⟩
def hd_number_of : He.DefD := ⟨("number_of", none), "number_of", "number_of", defArgs s_number_of, defBody s_number_of, defScope s_number_of, [], []⟩
def hd_read_formulas : He.DefD := ⟨("read_formulas", none), "read_formulas", "read_formulas", defArgs s_read_formulas, defBody s_read_formulas, defScope s_read_formulas, [], []⟩
def hd_Reader___init__ : He.DefD := ⟨("Reader", some "__init__"), "__init__", "Reader.__init__", defArgs s_Reader___init__, defBody s_Reader___init__, defScope s_Reader___init__, [], []⟩
def hd_Reader_over : He.DefD := ⟨("Reader", some "over"), "over", "Reader.over", defArgs s_Reader_over, defBody s_Reader_over, defScope s_Reader_over, [], []⟩
def hd_Reader_ahead : He.DefD := ⟨("Reader", some "ahead"), "ahead", "Reader.ahead", defArgs s_Reader_ahead, defBody s_Reader_ahead, defScope s_Reader_ahead, [], []⟩
def hd_Reader_take : He.DefD := ⟨("Reader", some "take"), "take", "Reader.take", defArgs s_Reader_take, defBody s_Reader_take, defScope s_Reader_take, [], []⟩
def hd_Reader_take_just : He.DefD := ⟨("Reader", some "take_just"), "take_just", "Reader.take_just", defArgs s_Reader_take_just, defBody s_Reader_take_just, defScope s_Reader_take_just, [], []⟩
def hd_Reader_take_name : He.DefD := ⟨("Reader", some "take_name"), "take_name", "Reader.take_name", defArgs s_Reader_take_name, defBody s_Reader_take_name, defScope s_Reader_take_name, [], []⟩
def hd_Reader_take_number : He.DefD := ⟨("Reader", some "take_number"), "take_number", "Reader.take_number", defArgs s_Reader_take_number, defBody s_Reader_take_number, defScope s_Reader_take_number, [], []⟩
def hd_Reader_end : He.DefD := ⟨("Reader", some "end"), "end", "Reader.end", defArgs s_Reader_end, defBody s_Reader_end, defScope s_Reader_end, [], []⟩
def hd_names_behind : He.DefD := ⟨("names_behind", none), "names_behind", "names_behind", defArgs s_names_behind, defBody s_names_behind, defScope s_names_behind, [], []⟩
def hd_was_row : He.DefD := ⟨("was_row", none), "was_row", "was_row", defArgs s_was_row, defBody s_was_row, defScope s_was_row, [], []⟩
def hd_rule_row : He.DefD := ⟨("rule_row", none), "rule_row", "rule_row", defArgs s_rule_row, defBody s_rule_row, defScope s_rule_row, [], []⟩
def hd_whole_tree : He.DefD := ⟨("whole_tree", none), "whole_tree", "whole_tree", defArgs s_whole_tree, defBody s_whole_tree, defScope s_whole_tree, [], []⟩
def hd_pick_tree : He.DefD := ⟨("pick_tree", none), "pick_tree", "pick_tree", defArgs s_pick_tree, defBody s_pick_tree, defScope s_pick_tree, [], []⟩
def hd_sum_tree : He.DefD := ⟨("sum_tree", none), "sum_tree", "sum_tree", defArgs s_sum_tree, defBody s_sum_tree, defScope s_sum_tree, [], []⟩
def hd_times_tree : He.DefD := ⟨("times_tree", none), "times_tree", "times_tree", defArgs s_times_tree, defBody s_times_tree, defScope s_times_tree, [], []⟩
def hd_small_tree : He.DefD := ⟨("small_tree", none), "small_tree", "small_tree", defArgs s_small_tree, defBody s_small_tree, defScope s_small_tree, [], []⟩
def hd_bracket_tree : He.DefD := ⟨("bracket_tree", none), "bracket_tree", "bracket_tree", defArgs s_bracket_tree, defBody s_bracket_tree, defScope s_bracket_tree, [], []⟩
def hd_two_tree : He.DefD := ⟨("two_tree", none), "two_tree", "two_tree", defArgs s_two_tree, defBody s_two_tree, defScope s_two_tree, [], []⟩
def hd_bells_ago : He.DefD := ⟨("bells_ago", none), "bells_ago", "bells_ago", defArgs s_bells_ago, defBody s_bells_ago, defScope s_bells_ago, [], []⟩
def hd_law_flow : He.DefD := ⟨("_law_flow", none), "_law_flow", "_law_flow", defArgs s_law_flow, defBody s_law_flow, defScope s_law_flow, [], []⟩
def hd_law_pick : He.DefD := ⟨("_law_pick", none), "_law_pick", "_law_pick", defArgs s_law_pick, defBody s_law_pick, defScope s_law_pick, [], []⟩
def hd_law_thing : He.DefD := ⟨("_law_thing", none), "_law_thing", "_law_thing", defArgs s_law_thing, defBody s_law_thing, defScope s_law_thing, [], []⟩
def hd_law_shuffled : He.DefD := ⟨("_law_shuffled", none), "_law_shuffled", "_law_shuffled", defArgs s_law_shuffled, defBody s_law_shuffled, defScope s_law_shuffled, [], []⟩
def hd_law_word : He.DefD := ⟨("_law_word", none), "_law_word", "_law_word", defArgs s_law_word, defBody s_law_word, defScope s_law_word, [], []⟩
def hd_law_taken : He.DefD := ⟨("_law_taken", none), "_law_taken", "_law_taken", defArgs s_law_taken, defBody s_law_taken, defScope s_law_taken, [], []⟩
def hd_law_names : He.DefD := ⟨("_law_names", none), "_law_names", "_law_names", defArgs s_law_names, defBody s_law_names, defScope s_law_names, [], []⟩
def hd_law_leaf : He.DefD := ⟨("_law_leaf", none), "_law_leaf", "_law_leaf", defArgs s_law_leaf, defBody s_law_leaf, defScope s_law_leaf, [], []⟩
def hd_law_tree : He.DefD := ⟨("_law_tree", none), "_law_tree", "_law_tree", defArgs s_law_tree, defBody s_law_tree, defScope s_law_tree, [], []⟩
def hd_law_formulas : He.DefD := ⟨("_law_formulas", none), "_law_formulas", "_law_formulas", defArgs s_law_formulas, defBody s_law_formulas, defScope s_law_formulas, [], []⟩
def hd_law_signs : He.DefD := ⟨("_law_signs", none), "_law_signs", "_law_signs", defArgs s_law_signs, defBody s_law_signs, defScope s_law_signs, [], []⟩
def hd_law_is_name : He.DefD := ⟨("_law_is_name", none), "_law_is_name", "_law_is_name", defArgs s_law_is_name, defBody s_law_is_name, defScope s_law_is_name, [], []⟩
def hd_law_number : He.DefD := ⟨("_law_number", none), "_law_number", "_law_number", defArgs s_law_number, defBody s_law_number, defScope s_law_number, [], []⟩
def hd_law_put : He.DefD := ⟨("_law_put", none), "_law_put", "_law_put", defArgs s_law_put, defBody s_law_put, defScope s_law_put, [], []⟩
def hd_law_written : He.DefD := ⟨("_law_written", none), "_law_written", "_law_written", defArgs s_law_written, defBody s_law_written, defScope s_law_written, [], []⟩
def hd_law_bare : He.DefD := ⟨("_law_bare", none), "_law_bare", "_law_bare", defArgs s_law_bare, defBody s_law_bare, defScope s_law_bare, [], []⟩
def hd_law_text : He.DefD := ⟨("_law_text", none), "_law_text", "_law_text", defArgs s_law_text, defBody s_law_text, defScope s_law_text, [], []⟩
def hd_law_gone : He.DefD := ⟨("_law_gone", none), "_law_gone", "_law_gone", defArgs s_law_gone, defBody s_law_gone, defScope s_law_gone, [], []⟩
def hd_law_seen : He.DefD := ⟨("_law_seen", none), "_law_seen", "_law_seen", defArgs s_law_seen, defBody s_law_seen, defScope s_law_seen, [], []⟩
def hd_law_e : He.DefD := ⟨("_law_e", none), "_law_e", "_law_e", defArgs s_law_e, defBody s_law_e, defScope s_law_e, [], []⟩
def hd_law_s : He.DefD := ⟨("_law_s", none), "_law_s", "_law_s", defArgs s_law_s, defBody s_law_s, defScope s_law_s, [], []⟩
def hd_law_t : He.DefD := ⟨("_law_t", none), "_law_t", "_law_t", defArgs s_law_t, defBody s_law_t, defScope s_law_t, [], []⟩
def hd_law_p : He.DefD := ⟨("_law_p", none), "_law_p", "_law_p", defArgs s_law_p, defBody s_law_p, defScope s_law_p, [], []⟩
def hd_law_row : He.DefD := ⟨("_law_row", none), "_law_row", "_law_row", defArgs s_law_row, defBody s_law_row, defScope s_law_row, [], []⟩
def hd_law_due : He.DefD := ⟨("_law_due", none), "_law_due", "_law_due", defArgs s_law_due, defBody s_law_due, defScope s_law_due, [], []⟩
def hd_law_told : He.DefD := ⟨("_law_told", none), "_law_told", "_law_told", defArgs s_law_told, defBody s_law_told, defScope s_law_told, [], []⟩
def hd_law_spoilt : He.DefD := ⟨("_law_spoilt", none), "_law_spoilt", "_law_spoilt", defArgs s_law_spoilt, defBody s_law_spoilt, defScope s_law_spoilt, [], []⟩
def hd_law : He.DefD := ⟨("law", none), "law", "law", defArgs s_law, defBody s_law, defScope s_law, [], []⟩
def hd_NsInit : He.DefD := ⟨("NoText", some "__init__"), "__init__", "NoText.__init__", defArgs s_NoText_init, defBody s_NoText_init, defScope s_NoText_init, [], []⟩
def hFn : List He.DefD := [hd_is_name, hd_number_of, hd_read_formulas, hd_Reader___init__, hd_Reader_over, hd_Reader_ahead, hd_Reader_take, hd_Reader_take_just, hd_Reader_take_name, hd_Reader_take_number, hd_Reader_end, hd_names_behind, hd_was_row, hd_rule_row, hd_whole_tree, hd_pick_tree, hd_sum_tree, hd_times_tree, hd_small_tree, hd_bracket_tree, hd_two_tree, hd_bells_ago, hd_law_flow, hd_law_pick, hd_law_thing, hd_law_shuffled, hd_law_word, hd_law_taken, hd_law_names, hd_law_leaf, hd_law_tree, hd_law_formulas, hd_law_signs, hd_law_is_name, hd_law_number, hd_law_put, hd_law_written, hd_law_bare, hd_law_text, hd_law_gone, hd_law_seen, hd_law_e, hd_law_s, hd_law_t, hd_law_p, hd_law_row, hd_law_due, hd_law_told, hd_law_spoilt, hd_law, hd_NsInit]
def knownK (K : PySem.W.Frag) (a : Addr) : Bool := match K.lookup a with
  | some ⟨_, _, .dict es _, _⟩ => es.toList.all fun e => match e.key with
    | .str s _ => decide (s ∈ twoS)
    | _ => false
  | _ => false
theorem knownK_no {K : PySem.W.Frag} {a : Addr} (h : knownK K a = true) {z : Str} (hz : z ∉ twoS) : PySem.W.nsIn K a z = some none := by
  unfold knownK at h
  unfold PySem.W.nsIn
  split at h
  · rename_i es n sl e
    rw [e]
    have all := List.all_eq_true.mp h
    have f1 : es.toList.find? (fun e => e.key.isStr z) = none := by
      rw [List.find?_eq_none]
      intro x hx y
      have := all x hx
      revert this y
      cases x.key with
      | str s t =>
        intro y this
        have y : (s == z) = true := y
        have := of_decide_eq_true this
        rw [eq_of_beq y] at this
        exact hz this
      | _ => intro _ this; cases this
    have f2 : es.toList.any (fun e => e.refKey) = false := by
      rw [List.any_eq_false]
      intro x hx y
      have := all x hx
      revert this y
      unfold DictEntry.refKey
      cases x.key with
      | str s t => intro y; cases y
      | _ => intro _ this; cases this
    dsimp only
    rw [f1]
    dsimp only
    rw [f2]
    rfl
  · cases h
def signsL : List (Str × He.Dv) := [("+", .str "sum"), ("-", .str "gap")]
def signsT : He.Tab := (fun K => He.ga K "SIGNS", ["+", "-"])
theorem signs_yes {K : PySem.W.Frag} (h : He.valsB K (He.ga K "SIGNS") signsL = true) {z : Str} (hz : z ∈ twoS) : ∃ t, PySem.W.nsIn K (He.ga K "SIGNS") z = some (some (.str (signW z) t)) := by
  have key : ∀ i : Str, (z, He.Dv.str i) ∈ signsL → ∃ t, PySem.W.nsIn K (He.ga K "SIGNS") z = some (some (.str i t)) := fun i hm => by
    obtain ⟨u, e, r⟩ := He.valsB_ok h hm
    obtain ⟨t, rfl⟩ := r
    exact ⟨t, e⟩
  have key2 : ∀ i : Str, signW z = i → (z, He.Dv.str i) ∈ signsL → ∃ t, PySem.W.nsIn K (He.ga K "SIGNS") z = some (some (.str (signW z) t)) := fun i e hm => by
    rw [e]
    exact key i hm
  unfold signsL at key2
  unfold twoS at hz
  simp only [List.mem_cons, List.not_mem_nil, or_false] at hz
  rcases hz with h | h <;> subst h
  · exact key2 "sum" (by decide +kernel) (List.mem_cons_self ..)
  · exact key2 "gap" (by decide +kernel) (List.mem_cons_of_mem _ (List.mem_cons_self ..))
def hFa : List He.Fa := [.glo "is_name", .glo "number_of", .glo "read_formulas", .mkr "Reader", .meth "Reader" "over", .meth "Reader" "ahead", .meth "Reader" "take", .meth "Reader" "take_just", .meth "Reader" "take_name", .meth "Reader" "take_number", .meth "Reader" "end", .glo "names_behind", .glo "was_row", .glo "rule_row", .glo "whole_tree", .glo "pick_tree", .glo "sum_tree", .glo "times_tree", .glo "small_tree", .glo "bracket_tree", .glo "two_tree", .glo "bells_ago", .glo "_law_flow", .glo "_law_pick", .glo "_law_thing", .glo "_law_shuffled", .glo "_law_word", .glo "_law_taken", .glo "_law_names", .glo "_law_leaf", .glo "_law_tree", .glo "_law_formulas", .glo "_law_signs", .glo "_law_is_name", .glo "_law_number", .glo "_law_put", .glo "_law_written", .glo "_law_bare", .glo "_law_text", .glo "_law_gone", .glo "_law_seen", .glo "_law_e", .glo "_law_s", .glo "_law_t", .glo "_law_p", .glo "_law_row", .glo "_law_due", .glo "_law_told", .glo "_law_spoilt", .glo "law", .free "all", .free "enumerate", .free "int", .free "isinstance", .free "len", .free "list", .free "range", .free "repr", .free "str", .free "tuple", .glo "TAKEN", .int "LONGEST_NAME" 6, .int "MOST_FIGURES" 9, .str "LETTERS" letS, .str "FIGURES" figS, .int "MOST_WORDS" 40, .glo "NoText", .glo "BeltError", .glo "NoFormula", .glo "NoRoom", .glo "NoShift", .glo "NoName", .glo "NoRow", .glo "SIGNS", .cls "Reader", .glo "Reader", .noat "Reader" "words", .noat "Reader" "row", .noat "Reader" "at"]
def hEx (K : PySem.W.Frag) : Bool := He.tupB K "TAKEN" [.str "in", .str "out", .str "was", .str "if", .str "then", .str "else", .str "most", .str "least"] && nsB K && He.valsB K (He.ga K "SIGNS") signsL && knownK K (He.ga K "SIGNS")
def hTf : List (Str × Option Str) := [("is_name", none), ("number_of", none)]
abbrev hR : PySem.W.OpenRow := PySem.W.OpenLaw.row PySem.Challenge.rw_beltshift_k22_formulas_texts_spoilt
abbrev hk : PySem.W.Hook := He.hookX 4 hFa hFn [signsT] hTf hEx
def hOb (s : PySem.W.SharedT) : He.AlX := He.obsX 4 hFa hFn [signsT] hTf hEx (HandSHeadRun.getT s)
theorem hOb_eq (s : PySem.W.SharedT) : hOb s = hk.obs s.abs := He.obsX_eq (HandSHeadRun.getT_eq s)
def hN0 : List Str := ["BeltError", "NoText", "NoRoom", "NoFormula", "NoShift", "NoName", "NoRow", "LETTERS", "FIGURES", "TAKEN", "LONGEST_NAME", "MOST_FIGURES", "is_name", "number_of", "MOST_WORDS", "SIGNS", "read_formulas", "Reader", "names_behind", "was_row", "rule_row", "whole_tree", "pick_tree", "sum_tree", "times_tree", "small_tree", "bracket_tree", "two_tree", "bells_ago", "_law_flow"]
def hN1 : List Str := ["_law_pick", "_law_thing", "_law_shuffled", "_law_word", "_law_taken", "_law_names", "_law_leaf", "_law_tree", "_law_formulas", "_law_signs", "_law_is_name", "_law_number", "_law_put", "_law_written", "_law_bare", "_law_text", "_law_gone", "_law_seen", "_law_e", "_law_s", "_law_t", "_law_p", "_law_row", "_law_due", "_law_told", "_law_spoilt"]
def hNames : List Str := hN0 ++ hN1
set_option maxHeartbeats 0 in
theorem all_mkX {w : World} {K : PySem.W.Frag} {h : Heap} {mg : Str → Option Value} {fa : Addr} (X : K.In h) (G : h.Ns mainGlobals mg) (hfa : mg "law" = some (.ref fa)) (c : He.SaysX hFa hFn [signsT] hTf hEx w h K) : LawAtG PySem.Challenge.rw_beltshift_k22_formulas_texts_spoilt w K CX0 211 63 "_law_script" mg fa h := by
  have cd := c.t.d
  obtain ⟨fd0, D0⟩ := cd.def_ 0 (d := hd_is_name) rfl
  have F0 : Fun K "is_name" "is_name" s_is_name (He.ga K "is_name") fd0 := fun_of_D D0
  have g0 : mg "is_name" = some (.ref (He.ga K "is_name")) := He.glo_ok X G (cd.fact 0 (f := .glo "is_name") rfl)
  have b0 := F0.binds (ps := ["text"]) fun _ _ _ _ _ _ us hl => match us, hl with | [_], _ => rfl
  obtain ⟨fd1, D1⟩ := cd.def_ 1 (d := hd_number_of) rfl
  have F1 : Fun K "number_of" "number_of" s_number_of (He.ga K "number_of") fd1 := fun_of_D D1
  have g1 : mg "number_of" = some (.ref (He.ga K "number_of")) := He.glo_ok X G (cd.fact 1 (f := .glo "number_of") rfl)
  have b1 := F1.binds (ps := ["text"]) fun _ _ _ _ _ _ us hl => match us, hl with | [_], _ => rfl
  obtain ⟨fd2, D2⟩ := cd.def_ 2 (d := hd_read_formulas) rfl
  have F2 : Fun K "read_formulas" "read_formulas" s_read_formulas (He.ga K "read_formulas") fd2 := fun_of_D D2
  have g2 : mg "read_formulas" = some (.ref (He.ga K "read_formulas")) := He.glo_ok X G (cd.fact 2 (f := .glo "read_formulas") rfl)
  have b2 := F2.binds (ps := ["text"]) fun _ _ _ _ _ _ us hl => match us, hl with | [_], _ => rfl
  obtain ⟨fd3, D3⟩ := cd.def_ 3 (d := hd_Reader___init__) rfl
  have F3 : Fun K "__init__" "Reader.__init__" s_Reader___init__ (He.fAd K ("Reader", some "__init__")) fd3 := fun_of_D D3
  have g3 : Mk K (He.ga K "Reader") (He.fAd K ("Reader", some "__init__")) := He.mkr_ok (cd.fact 3 (f := .mkr "Reader") rfl)
  have b3 := F3.binds (ps := ["self", "words", "row"]) fun _ _ _ _ _ _ us hl => match us, hl with | [_, _, _], _ => rfl
  obtain ⟨fd4, D4⟩ := cd.def_ 4 (d := hd_Reader_over) rfl
  have F4 : Fun K "over" "Reader.over" s_Reader_over (He.fAd K ("Reader", some "over")) fd4 := fun_of_D D4
  have g4 : Meth K (He.ga K "Reader") "over" (He.fAd K ("Reader", some "over")) := He.meth_ok (cd.fact 4 (f := .meth "Reader" "over") rfl)
  have b4 := F4.binds (ps := ["self"]) fun _ _ _ _ _ _ us hl => match us, hl with | [_], _ => rfl
  obtain ⟨fd5, D5⟩ := cd.def_ 5 (d := hd_Reader_ahead) rfl
  have F5 : Fun K "ahead" "Reader.ahead" s_Reader_ahead (He.fAd K ("Reader", some "ahead")) fd5 := fun_of_D D5
  have g5 : Meth K (He.ga K "Reader") "ahead" (He.fAd K ("Reader", some "ahead")) := He.meth_ok (cd.fact 5 (f := .meth "Reader" "ahead") rfl)
  have b5 := F5.binds (ps := ["self"]) fun _ _ _ _ _ _ us hl => match us, hl with | [_], _ => rfl
  obtain ⟨fd6, D6⟩ := cd.def_ 6 (d := hd_Reader_take) rfl
  have F6 : Fun K "take" "Reader.take" s_Reader_take (He.fAd K ("Reader", some "take")) fd6 := fun_of_D D6
  have g6 : Meth K (He.ga K "Reader") "take" (He.fAd K ("Reader", some "take")) := He.meth_ok (cd.fact 6 (f := .meth "Reader" "take") rfl)
  have b6 := F6.binds (ps := ["self"]) fun _ _ _ _ _ _ us hl => match us, hl with | [_], _ => rfl
  obtain ⟨fd7, D7⟩ := cd.def_ 7 (d := hd_Reader_take_just) rfl
  have F7 : Fun K "take_just" "Reader.take_just" s_Reader_take_just (He.fAd K ("Reader", some "take_just")) fd7 := fun_of_D D7
  have g7 : Meth K (He.ga K "Reader") "take_just" (He.fAd K ("Reader", some "take_just")) := He.meth_ok (cd.fact 7 (f := .meth "Reader" "take_just") rfl)
  have b7 := F7.binds (ps := ["self", "word"]) fun _ _ _ _ _ _ us hl => match us, hl with | [_, _], _ => rfl
  obtain ⟨fd8, D8⟩ := cd.def_ 8 (d := hd_Reader_take_name) rfl
  have F8 : Fun K "take_name" "Reader.take_name" s_Reader_take_name (He.fAd K ("Reader", some "take_name")) fd8 := fun_of_D D8
  have g8 : Meth K (He.ga K "Reader") "take_name" (He.fAd K ("Reader", some "take_name")) := He.meth_ok (cd.fact 8 (f := .meth "Reader" "take_name") rfl)
  have b8 := F8.binds (ps := ["self"]) fun _ _ _ _ _ _ us hl => match us, hl with | [_], _ => rfl
  obtain ⟨fd9, D9⟩ := cd.def_ 9 (d := hd_Reader_take_number) rfl
  have F9 : Fun K "take_number" "Reader.take_number" s_Reader_take_number (He.fAd K ("Reader", some "take_number")) fd9 := fun_of_D D9
  have g9 : Meth K (He.ga K "Reader") "take_number" (He.fAd K ("Reader", some "take_number")) := He.meth_ok (cd.fact 9 (f := .meth "Reader" "take_number") rfl)
  have b9 := F9.binds (ps := ["self"]) fun _ _ _ _ _ _ us hl => match us, hl with | [_], _ => rfl
  obtain ⟨fd10, D10⟩ := cd.def_ 10 (d := hd_Reader_end) rfl
  have F10 : Fun K "end" "Reader.end" s_Reader_end (He.fAd K ("Reader", some "end")) fd10 := fun_of_D D10
  have g10 : Meth K (He.ga K "Reader") "end" (He.fAd K ("Reader", some "end")) := He.meth_ok (cd.fact 10 (f := .meth "Reader" "end") rfl)
  have b10 := F10.binds (ps := ["self"]) fun _ _ _ _ _ _ us hl => match us, hl with | [_], _ => rfl
  obtain ⟨fd11, D11⟩ := cd.def_ 11 (d := hd_names_behind) rfl
  have F11 : Fun K "names_behind" "names_behind" s_names_behind (He.ga K "names_behind") fd11 := fun_of_D D11
  have g11 : mg "names_behind" = some (.ref (He.ga K "names_behind")) := He.glo_ok X G (cd.fact 11 (f := .glo "names_behind") rfl)
  have b11 := F11.binds (ps := ["word", "reader"]) fun _ _ _ _ _ _ us hl => match us, hl with | [_, _], _ => rfl
  obtain ⟨fd12, D12⟩ := cd.def_ 12 (d := hd_was_row) rfl
  have F12 : Fun K "was_row" "was_row" s_was_row (He.ga K "was_row") fd12 := fun_of_D D12
  have g12 : mg "was_row" = some (.ref (He.ga K "was_row")) := He.glo_ok X G (cd.fact 12 (f := .glo "was_row") rfl)
  have b12 := F12.binds (ps := ["reader"]) fun _ _ _ _ _ _ us hl => match us, hl with | [_], _ => rfl
  obtain ⟨fd13, D13⟩ := cd.def_ 13 (d := hd_rule_row) rfl
  have F13 : Fun K "rule_row" "rule_row" s_rule_row (He.ga K "rule_row") fd13 := fun_of_D D13
  have g13 : mg "rule_row" = some (.ref (He.ga K "rule_row")) := He.glo_ok X G (cd.fact 13 (f := .glo "rule_row") rfl)
  have b13 := F13.binds (ps := ["reader"]) fun _ _ _ _ _ _ us hl => match us, hl with | [_], _ => rfl
  obtain ⟨fd14, D14⟩ := cd.def_ 14 (d := hd_whole_tree) rfl
  have F14 : Fun K "whole_tree" "whole_tree" s_whole_tree (He.ga K "whole_tree") fd14 := fun_of_D D14
  have g14 : mg "whole_tree" = some (.ref (He.ga K "whole_tree")) := He.glo_ok X G (cd.fact 14 (f := .glo "whole_tree") rfl)
  have b14 := F14.binds (ps := ["reader"]) fun _ _ _ _ _ _ us hl => match us, hl with | [_], _ => rfl
  obtain ⟨fd15, D15⟩ := cd.def_ 15 (d := hd_pick_tree) rfl
  have F15 : Fun K "pick_tree" "pick_tree" s_pick_tree (He.ga K "pick_tree") fd15 := fun_of_D D15
  have g15 : mg "pick_tree" = some (.ref (He.ga K "pick_tree")) := He.glo_ok X G (cd.fact 15 (f := .glo "pick_tree") rfl)
  have b15 := F15.binds (ps := ["reader"]) fun _ _ _ _ _ _ us hl => match us, hl with | [_], _ => rfl
  obtain ⟨fd16, D16⟩ := cd.def_ 16 (d := hd_sum_tree) rfl
  have F16 : Fun K "sum_tree" "sum_tree" s_sum_tree (He.ga K "sum_tree") fd16 := fun_of_D D16
  have g16 : mg "sum_tree" = some (.ref (He.ga K "sum_tree")) := He.glo_ok X G (cd.fact 16 (f := .glo "sum_tree") rfl)
  have b16 := F16.binds (ps := ["reader"]) fun _ _ _ _ _ _ us hl => match us, hl with | [_], _ => rfl
  obtain ⟨fd17, D17⟩ := cd.def_ 17 (d := hd_times_tree) rfl
  have F17 : Fun K "times_tree" "times_tree" s_times_tree (He.ga K "times_tree") fd17 := fun_of_D D17
  have g17 : mg "times_tree" = some (.ref (He.ga K "times_tree")) := He.glo_ok X G (cd.fact 17 (f := .glo "times_tree") rfl)
  have b17 := F17.binds (ps := ["reader"]) fun _ _ _ _ _ _ us hl => match us, hl with | [_], _ => rfl
  obtain ⟨fd18, D18⟩ := cd.def_ 18 (d := hd_small_tree) rfl
  have F18 : Fun K "small_tree" "small_tree" s_small_tree (He.ga K "small_tree") fd18 := fun_of_D D18
  have g18 : mg "small_tree" = some (.ref (He.ga K "small_tree")) := He.glo_ok X G (cd.fact 18 (f := .glo "small_tree") rfl)
  have b18 := F18.binds (ps := ["reader"]) fun _ _ _ _ _ _ us hl => match us, hl with | [_], _ => rfl
  obtain ⟨fd19, D19⟩ := cd.def_ 19 (d := hd_bracket_tree) rfl
  have F19 : Fun K "bracket_tree" "bracket_tree" s_bracket_tree (He.ga K "bracket_tree") fd19 := fun_of_D D19
  have g19 : mg "bracket_tree" = some (.ref (He.ga K "bracket_tree")) := He.glo_ok X G (cd.fact 19 (f := .glo "bracket_tree") rfl)
  have b19 := F19.binds (ps := ["reader"]) fun _ _ _ _ _ _ us hl => match us, hl with | [_], _ => rfl
  obtain ⟨fd20, D20⟩ := cd.def_ 20 (d := hd_two_tree) rfl
  have F20 : Fun K "two_tree" "two_tree" s_two_tree (He.ga K "two_tree") fd20 := fun_of_D D20
  have g20 : mg "two_tree" = some (.ref (He.ga K "two_tree")) := He.glo_ok X G (cd.fact 20 (f := .glo "two_tree") rfl)
  have b20 := F20.binds (ps := ["reader"]) fun _ _ _ _ _ _ us hl => match us, hl with | [_], _ => rfl
  obtain ⟨fd21, D21⟩ := cd.def_ 21 (d := hd_bells_ago) rfl
  have F21 : Fun K "bells_ago" "bells_ago" s_bells_ago (He.ga K "bells_ago") fd21 := fun_of_D D21
  have g21 : mg "bells_ago" = some (.ref (He.ga K "bells_ago")) := He.glo_ok X G (cd.fact 21 (f := .glo "bells_ago") rfl)
  have b21 := F21.binds (ps := ["reader"]) fun _ _ _ _ _ _ us hl => match us, hl with | [_], _ => rfl
  obtain ⟨fd22, D22⟩ := cd.def_ 22 (d := hd_law_flow) rfl
  have F22 : Fun K "_law_flow" "_law_flow" s_law_flow (He.ga K "_law_flow") fd22 := fun_of_D D22
  have g22 : mg "_law_flow" = some (.ref (He.ga K "_law_flow")) := He.glo_ok X G (cd.fact 22 (f := .glo "_law_flow") rfl)
  have b22 := F22.binds (ps := ["_law_script"]) fun _ _ _ _ _ _ us hl => match us, hl with | [_], _ => rfl
  obtain ⟨fd23, D23⟩ := cd.def_ 23 (d := hd_law_pick) rfl
  have F23 : Fun K "_law_pick" "_law_pick" s_law_pick (He.ga K "_law_pick") fd23 := fun_of_D D23
  have g23 : mg "_law_pick" = some (.ref (He.ga K "_law_pick")) := He.glo_ok X G (cd.fact 23 (f := .glo "_law_pick") rfl)
  have b23 := F23.binds (ps := ["_law_flow_here", "_law_many"]) fun _ _ _ _ _ _ us hl => match us, hl with | [_, _], _ => rfl
  obtain ⟨fd24, D24⟩ := cd.def_ 24 (d := hd_law_thing) rfl
  have F24 : Fun K "_law_thing" "_law_thing" s_law_thing (He.ga K "_law_thing") fd24 := fun_of_D D24
  have g24 : mg "_law_thing" = some (.ref (He.ga K "_law_thing")) := He.glo_ok X G (cd.fact 24 (f := .glo "_law_thing") rfl)
  have b24 := F24.binds (ps := ["_law_flow_here"]) fun _ _ _ _ _ _ us hl => match us, hl with | [_], _ => rfl
  obtain ⟨fd25, D25⟩ := cd.def_ 25 (d := hd_law_shuffled) rfl
  have F25 : Fun K "_law_shuffled" "_law_shuffled" s_law_shuffled (He.ga K "_law_shuffled") fd25 := fun_of_D D25
  have g25 : mg "_law_shuffled" = some (.ref (He.ga K "_law_shuffled")) := He.glo_ok X G (cd.fact 25 (f := .glo "_law_shuffled") rfl)
  have b25 := F25.binds (ps := ["_law_flow_here", "_law_some"]) fun _ _ _ _ _ _ us hl => match us, hl with | [_, _], _ => rfl
  obtain ⟨fd26, D26⟩ := cd.def_ 26 (d := hd_law_word) rfl
  have F26 : Fun K "_law_word" "_law_word" s_law_word (He.ga K "_law_word") fd26 := fun_of_D D26
  have g26 : mg "_law_word" = some (.ref (He.ga K "_law_word")) := He.glo_ok X G (cd.fact 26 (f := .glo "_law_word") rfl)
  have b26 := F26.binds (ps := ["_law_flow_here", "_law_most"]) fun _ _ _ _ _ _ us hl => match us, hl with | [_, _], _ => rfl
  obtain ⟨fd27, D27⟩ := cd.def_ 27 (d := hd_law_taken) rfl
  have F27 : Fun K "_law_taken" "_law_taken" s_law_taken (He.ga K "_law_taken") fd27 := fun_of_D D27
  have g27 : mg "_law_taken" = some (.ref (He.ga K "_law_taken")) := He.glo_ok X G (cd.fact 27 (f := .glo "_law_taken") rfl)
  have b27 := F27.binds (ps := []) fun _ _ _ _ _ _ us hl => match us, hl with | [], _ => rfl
  obtain ⟨fd28, D28⟩ := cd.def_ 28 (d := hd_law_names) rfl
  have F28 : Fun K "_law_names" "_law_names" s_law_names (He.ga K "_law_names") fd28 := fun_of_D D28
  have g28 : mg "_law_names" = some (.ref (He.ga K "_law_names")) := He.glo_ok X G (cd.fact 28 (f := .glo "_law_names") rfl)
  have b28 := F28.binds (ps := ["_law_flow_here", "_law_many"]) fun _ _ _ _ _ _ us hl => match us, hl with | [_, _], _ => rfl
  obtain ⟨fd29, D29⟩ := cd.def_ 29 (d := hd_law_leaf) rfl
  have F29 : Fun K "_law_leaf" "_law_leaf" s_law_leaf (He.ga K "_law_leaf") fd29 := fun_of_D D29
  have g29 : mg "_law_leaf" = some (.ref (He.ga K "_law_leaf")) := He.glo_ok X G (cd.fact 29 (f := .glo "_law_leaf") rfl)
  have b29 := F29.binds (ps := ["_law_flow_here", "_law_now", "_law_names_here"]) fun _ _ _ _ _ _ us hl => match us, hl with | [_, _, _], _ => rfl
  obtain ⟨fd30, D30⟩ := cd.def_ 30 (d := hd_law_tree) rfl
  have F30 : Fun K "_law_tree" "_law_tree" s_law_tree (He.ga K "_law_tree") fd30 := fun_of_D D30
  have g30 : mg "_law_tree" = some (.ref (He.ga K "_law_tree")) := He.glo_ok X G (cd.fact 30 (f := .glo "_law_tree") rfl)
  have b30 := F30.binds (ps := ["_law_flow_here", "_law_room", "_law_now", "_law_names_here"]) fun _ _ _ _ _ _ us hl => match us, hl with | [_, _, _, _], _ => rfl
  obtain ⟨fd31, D31⟩ := cd.def_ 31 (d := hd_law_formulas) rfl
  have F31 : Fun K "_law_formulas" "_law_formulas" s_law_formulas (He.ga K "_law_formulas") fd31 := fun_of_D D31
  have g31 : mg "_law_formulas" = some (.ref (He.ga K "_law_formulas")) := He.glo_ok X G (cd.fact 31 (f := .glo "_law_formulas") rfl)
  have b31 := F31.binds (ps := ["_law_flow_here", "_law_most"]) fun _ _ _ _ _ _ us hl => match us, hl with | [_, _], _ => rfl
  obtain ⟨fd32, D32⟩ := cd.def_ 32 (d := hd_law_signs) rfl
  have F32 : Fun K "_law_signs" "_law_signs" s_law_signs (He.ga K "_law_signs") fd32 := fun_of_D D32
  have g32 : mg "_law_signs" = some (.ref (He.ga K "_law_signs")) := He.glo_ok X G (cd.fact 32 (f := .glo "_law_signs") rfl)
  have b32 := F32.binds (ps := []) fun _ _ _ _ _ _ us hl => match us, hl with | [], _ => rfl
  obtain ⟨fd33, D33⟩ := cd.def_ 33 (d := hd_law_is_name) rfl
  have F33 : Fun K "_law_is_name" "_law_is_name" s_law_is_name (He.ga K "_law_is_name") fd33 := fun_of_D D33
  have g33 : mg "_law_is_name" = some (.ref (He.ga K "_law_is_name")) := He.glo_ok X G (cd.fact 33 (f := .glo "_law_is_name") rfl)
  have b33 := F33.binds (ps := ["_law_text_here"]) fun _ _ _ _ _ _ us hl => match us, hl with | [_], _ => rfl
  obtain ⟨fd34, D34⟩ := cd.def_ 34 (d := hd_law_number) rfl
  have F34 : Fun K "_law_number" "_law_number" s_law_number (He.ga K "_law_number") fd34 := fun_of_D D34
  have g34 : mg "_law_number" = some (.ref (He.ga K "_law_number")) := He.glo_ok X G (cd.fact 34 (f := .glo "_law_number") rfl)
  have b34 := F34.binds (ps := ["_law_text_here"]) fun _ _ _ _ _ _ us hl => match us, hl with | [_], _ => rfl
  obtain ⟨fd35, D35⟩ := cd.def_ 35 (d := hd_law_put) rfl
  have F35 : Fun K "_law_put" "_law_put" s_law_put (He.ga K "_law_put") fd35 := fun_of_D D35
  have g35 : mg "_law_put" = some (.ref (He.ga K "_law_put")) := He.glo_ok X G (cd.fact 35 (f := .glo "_law_put") rfl)
  have b35 := F35.binds (ps := ["_law_flow_here", "_law_some", "_law_one"]) fun _ _ _ _ _ _ us hl => match us, hl with | [_, _, _], _ => rfl
  obtain ⟨fd36, D36⟩ := cd.def_ 36 (d := hd_law_written) rfl
  have F36 : Fun K "_law_written" "_law_written" s_law_written (He.ga K "_law_written") fd36 := fun_of_D D36
  have g36 : mg "_law_written" = some (.ref (He.ga K "_law_written")) := He.glo_ok X G (cd.fact 36 (f := .glo "_law_written") rfl)
  have b36 := F36.binds (ps := ["_law_flow_here", "_law_tree_here", "_law_level"]) fun _ _ _ _ _ _ us hl => match us, hl with | [_, _, _], _ => rfl
  obtain ⟨fd37, D37⟩ := cd.def_ 37 (d := hd_law_bare) rfl
  have F37 : Fun K "_law_bare" "_law_bare" s_law_bare (He.ga K "_law_bare") fd37 := fun_of_D D37
  have g37 : mg "_law_bare" = some (.ref (He.ga K "_law_bare")) := He.glo_ok X G (cd.fact 37 (f := .glo "_law_bare") rfl)
  have b37 := F37.binds (ps := ["_law_flow_here", "_law_tree_here"]) fun _ _ _ _ _ _ us hl => match us, hl with | [_, _], _ => rfl
  obtain ⟨fd38, D38⟩ := cd.def_ 38 (d := hd_law_text) rfl
  have F38 : Fun K "_law_text" "_law_text" s_law_text (He.ga K "_law_text") fd38 := fun_of_D D38
  have g38 : mg "_law_text" = some (.ref (He.ga K "_law_text")) := He.glo_ok X G (cd.fact 38 (f := .glo "_law_text") rfl)
  have b38 := F38.binds (ps := ["_law_flow_here", "_law_formulas_here"]) fun _ _ _ _ _ _ us hl => match us, hl with | [_, _], _ => rfl
  obtain ⟨fd39, D39⟩ := cd.def_ 39 (d := hd_law_gone) rfl
  have F39 : Fun K "_law_gone" "_law_gone" s_law_gone (He.ga K "_law_gone") fd39 := fun_of_D D39
  have g39 : mg "_law_gone" = some (.ref (He.ga K "_law_gone")) := He.glo_ok X G (cd.fact 39 (f := .glo "_law_gone") rfl)
  have b39 := F39.binds (ps := ["_law_words"]) fun _ _ _ _ _ _ us hl => match us, hl with | [_], _ => rfl
  obtain ⟨fd40, D40⟩ := cd.def_ 40 (d := hd_law_seen) rfl
  have F40 : Fun K "_law_seen" "_law_seen" s_law_seen (He.ga K "_law_seen") fd40 := fun_of_D D40
  have g40 : mg "_law_seen" = some (.ref (He.ga K "_law_seen")) := He.glo_ok X G (cd.fact 40 (f := .glo "_law_seen") rfl)
  have b40 := F40.binds (ps := ["_law_tree_here", "_law_words", "_law_sign"]) fun _ _ _ _ _ _ us hl => match us, hl with | [_, _, _], _ => rfl
  obtain ⟨fd41, D41⟩ := cd.def_ 41 (d := hd_law_e) rfl
  have F41 : Fun K "_law_e" "_law_e" s_law_e (He.ga K "_law_e") fd41 := fun_of_D D41
  have g41 : mg "_law_e" = some (.ref (He.ga K "_law_e")) := He.glo_ok X G (cd.fact 41 (f := .glo "_law_e") rfl)
  have b41 := F41.binds (ps := ["_law_words"]) fun _ _ _ _ _ _ us hl => match us, hl with | [_], _ => rfl
  obtain ⟨fd42, D42⟩ := cd.def_ 42 (d := hd_law_s) rfl
  have F42 : Fun K "_law_s" "_law_s" s_law_s (He.ga K "_law_s") fd42 := fun_of_D D42
  have g42 : mg "_law_s" = some (.ref (He.ga K "_law_s")) := He.glo_ok X G (cd.fact 42 (f := .glo "_law_s") rfl)
  have b42 := F42.binds (ps := ["_law_words"]) fun _ _ _ _ _ _ us hl => match us, hl with | [_], _ => rfl
  obtain ⟨fd43, D43⟩ := cd.def_ 43 (d := hd_law_t) rfl
  have F43 : Fun K "_law_t" "_law_t" s_law_t (He.ga K "_law_t") fd43 := fun_of_D D43
  have g43 : mg "_law_t" = some (.ref (He.ga K "_law_t")) := He.glo_ok X G (cd.fact 43 (f := .glo "_law_t") rfl)
  have b43 := F43.binds (ps := ["_law_words"]) fun _ _ _ _ _ _ us hl => match us, hl with | [_], _ => rfl
  obtain ⟨fd44, D44⟩ := cd.def_ 44 (d := hd_law_p) rfl
  have F44 : Fun K "_law_p" "_law_p" s_law_p (He.ga K "_law_p") fd44 := fun_of_D D44
  have g44 : mg "_law_p" = some (.ref (He.ga K "_law_p")) := He.glo_ok X G (cd.fact 44 (f := .glo "_law_p") rfl)
  have b44 := F44.binds (ps := ["_law_words"]) fun _ _ _ _ _ _ us hl => match us, hl with | [_], _ => rfl
  obtain ⟨fd45, D45⟩ := cd.def_ 45 (d := hd_law_row) rfl
  have F45 : Fun K "_law_row" "_law_row" s_law_row (He.ga K "_law_row") fd45 := fun_of_D D45
  have g45 : mg "_law_row" = some (.ref (He.ga K "_law_row")) := He.glo_ok X G (cd.fact 45 (f := .glo "_law_row") rfl)
  have b45 := F45.binds (ps := ["_law_words"]) fun _ _ _ _ _ _ us hl => match us, hl with | [_], _ => rfl
  obtain ⟨fd46, D46⟩ := cd.def_ 46 (d := hd_law_due) rfl
  have F46 : Fun K "_law_due" "_law_due" s_law_due (He.ga K "_law_due") fd46 := fun_of_D D46
  have g46 : mg "_law_due" = some (.ref (He.ga K "_law_due")) := He.glo_ok X G (cd.fact 46 (f := .glo "_law_due") rfl)
  have b46 := F46.binds (ps := ["_law_text_here"]) fun _ _ _ _ _ _ us hl => match us, hl with | [_], _ => rfl
  obtain ⟨fd47, D47⟩ := cd.def_ 47 (d := hd_law_told) rfl
  have F47 : Fun K "_law_told" "_law_told" s_law_told (He.ga K "_law_told") fd47 := fun_of_D D47
  have g47 : mg "_law_told" = some (.ref (He.ga K "_law_told")) := He.glo_ok X G (cd.fact 47 (f := .glo "_law_told") rfl)
  have b47 := F47.binds (ps := ["_law_text_here"]) fun _ _ _ _ _ _ us hl => match us, hl with | [_], _ => rfl
  obtain ⟨fd48, D48⟩ := cd.def_ 48 (d := hd_law_spoilt) rfl
  have F48 : Fun K "_law_spoilt" "_law_spoilt" s_law_spoilt (He.ga K "_law_spoilt") fd48 := fun_of_D D48
  have g48 : mg "_law_spoilt" = some (.ref (He.ga K "_law_spoilt")) := He.glo_ok X G (cd.fact 48 (f := .glo "_law_spoilt") rfl)
  have b48 := F48.binds (ps := ["_law_flow_here", "_law_text_here"]) fun _ _ _ _ _ _ us hl => match us, hl with | [_, _], _ => rfl
  obtain ⟨fd49, D49⟩ := cd.def_ 49 (d := hd_law) rfl
  have F49 : Fun K "law" "law" s_law (He.ga K "law") fd49 := fun_of_D D49
  have g49 : mg "law" = some (.ref (He.ga K "law")) := He.glo_ok X G (cd.fact 49 (f := .glo "law") rfl)
  have ex := c.more
  unfold hEx at ex
  simp only [Bool.and_eq_true] at ex
  obtain ⟨⟨⟨ex0, ex1⟩, ex2⟩, ex3⟩ := ex
  obtain ⟨fdNs, DNs⟩ := cd.def_ 50 (d := hd_NsInit) rfl
  have FNs : Fun K "__init__" "NoText.__init__" s_NoText_init (He.fAd K ("NoText", some "__init__")) fdNs := fun_of_D DNs
  have bNs := FNs.binds (ps := ["self", "row"]) fun _ _ _ _ _ _ us hl => match us, hl with | [_, _], _ => rfl
  have gNs : mg "NoText" = some (.ref (He.ga K "NoText")) := He.glo_ok X G (cd.fact 66 (f := .glo "NoText") rfl)
  have gBe : mg "BeltError" = some (.ref (He.ga K "BeltError")) := He.glo_ok X G (cd.fact 67 (f := .glo "BeltError") rfl)
  have T : Top w K mg (He.ga K "Reader") := ⟨⟨_, fd0, F0, b0, g0⟩, ⟨_, fd1, F1, b1, g1⟩, ⟨_, fd2, F2, b2, g2⟩, ⟨_, fd3, F3, b3, g3⟩, ⟨_, fd4, F4, b4, g4⟩, ⟨_, fd5, F5, b5, g5⟩, ⟨_, fd6, F6, b6, g6⟩, ⟨_, fd7, F7, b7, g7⟩, ⟨_, fd8, F8, b8, g8⟩, ⟨_, fd9, F9, b9, g9⟩, ⟨_, fd10, F10, b10, g10⟩, ⟨_, fd11, F11, b11, g11⟩, ⟨_, fd12, F12, b12, g12⟩, ⟨_, fd13, F13, b13, g13⟩, ⟨_, fd14, F14, b14, g14⟩, ⟨_, fd15, F15, b15, g15⟩, ⟨_, fd16, F16, b16, g16⟩, ⟨_, fd17, F17, b17, g17⟩, ⟨_, fd18, F18, b18, g18⟩, ⟨_, fd19, F19, b19, g19⟩, ⟨_, fd20, F20, b20, g20⟩, ⟨_, fd21, F21, b21, g21⟩, ⟨_, fd22, F22, b22, g22⟩, ⟨_, fd23, F23, b23, g23⟩, ⟨_, fd24, F24, b24, g24⟩, ⟨_, fd25, F25, b25, g25⟩, ⟨_, fd26, F26, b26, g26⟩, ⟨_, fd27, F27, b27, g27⟩, ⟨_, fd28, F28, b28, g28⟩, ⟨_, fd29, F29, b29, g29⟩, ⟨_, fd30, F30, b30, g30⟩, ⟨_, fd31, F31, b31, g31⟩, ⟨_, fd32, F32, b32, g32⟩, ⟨_, fd33, F33, b33, g33⟩, ⟨_, fd34, F34, b34, g34⟩, ⟨_, fd35, F35, b35, g35⟩, ⟨_, fd36, F36, b36, g36⟩, ⟨_, fd37, F37, b37, g37⟩, ⟨_, fd38, F38, b38, g38⟩, ⟨_, fd39, F39, b39, g39⟩, ⟨_, fd40, F40, b40, g40⟩, ⟨_, fd41, F41, b41, g41⟩, ⟨_, fd42, F42, b42, g42⟩, ⟨_, fd43, F43, b43, g43⟩, ⟨_, fd44, F44, b44, g44⟩, ⟨_, fd45, F45, b45, g45⟩, ⟨_, fd46, F46, b46, g46⟩, ⟨_, fd47, F47, b47, g47⟩, ⟨_, fd48, F48, b48, g48⟩, He.free_ok X G (cd.fact 50 (f := .free "all") rfl), He.free_ok X G (cd.fact 51 (f := .free "enumerate") rfl), He.free_ok X G (cd.fact 52 (f := .free "int") rfl), He.free_ok X G (cd.fact 53 (f := .free "isinstance") rfl), He.free_ok X G (cd.fact 54 (f := .free "len") rfl), He.free_ok X G (cd.fact 55 (f := .free "list") rfl), He.free_ok X G (cd.fact 56 (f := .free "range") rfl), He.free_ok X G (cd.fact 57 (f := .free "repr") rfl), He.free_ok X G (cd.fact 58 (f := .free "str") rfl), He.free_ok X G (cd.fact 59 (f := .free "tuple") rfl), ⟨_, He.glo_ok X G (cd.fact 60 (f := .glo "TAKEN") rfl), fun H => He.tupB_ok ex0 H⟩, He.int_ok X G (cd.fact 61 (f := .int "LONGEST_NAME" 6) rfl), He.int_ok X G (cd.fact 62 (f := .int "MOST_FIGURES" 9) rfl), He.str_ok X G (cd.fact 63 (f := .str "LETTERS" letS) rfl), He.str_ok X G (cd.fact 64 (f := .str "FIGURES" figS) rfl), ⟨_, He.glo_ok X G (cd.fact 73 (f := .glo "SIGNS") rfl), ⟨c.t.tab 0 (t := signsT), fun z hz => signs_yes ex2 hz, fun z hz => knownK_no ex3 hz⟩⟩, He.int_ok X G (cd.fact 65 (f := .int "MOST_WORDS" 40) rfl), ⟨_, nsB_ok ex1 gNs gBe FNs bNs⟩, He.glo_ok X G (cd.fact 68 (f := .glo "NoFormula") rfl), He.glo_ok X G (cd.fact 69 (f := .glo "NoRoom") rfl), He.glo_ok X G (cd.fact 70 (f := .glo "NoShift") rfl), He.glo_ok X G (cd.fact 71 (f := .glo "NoName") rfl), He.glo_ok X G (cd.fact 72 (f := .glo "NoRow") rfl), He.cls_ok (cd.fact 74 (f := .cls "Reader") rfl), He.glo_ok X G (cd.fact 75 (f := .glo "Reader") rfl), He.noat_ok (cd.fact 76 (f := .noat "Reader" "words") rfl), He.noat_ok (cd.fact 77 (f := .noat "Reader" "row") rfl), He.noat_ok (cd.fact 78 (f := .noat "Reader" "at") rfl)⟩
  have e := hfa.symm.trans g49
  cases e
  have law_b : ∀ (s : Shared) (v : Value), BindsTo s fd49 ⟨[v], []⟩ [("_law_script", v)] := fun s v => by
    obtain ⟨_, _, _, _, _, _, _, _, _, rfl, _, _⟩ := F49.ex
    exact .of_eq rfl
  refine ⟨fd49, [He.cT K ("is_name", none), He.cT K ("number_of", none)], sp_law K (He.ga K "Reader") ((He.cT K ("is_name", none)).2, (He.cT K ("number_of", none)).2), fun p hp => ?_, fun p hp => ?_, fun p hp => ?_, law_b, fun H a ns hl _ hT hS => ⟨a, ns, rfl, hS, hl, ⟨⟨#[], hT (He.cT K ("is_name", none)) (List.mem_cons_self ..), trivial⟩, ⟨#[], hT (He.cT K ("number_of", none)) (List.mem_cons_of_mem _ (List.mem_cons_self ..)), trivial⟩⟩, fun _ => rfl⟩, fun base _ _ TB => ?_⟩
  · have hin : ∀ p ∈ [He.cT K ("is_name", none), He.cT K ("number_of", none)], ∃ q ∈ hTf, p = He.cT K q := fun p hp => by
      rcases List.mem_cons.mp hp with rfl | hp
      · exact ⟨_, List.mem_cons_self .., rfl⟩
      rcases List.mem_cons.mp hp with rfl | hp
      · exact ⟨_, (List.mem_cons_of_mem _ (List.mem_cons_self ..)), rfl⟩
      cases hp
    obtain ⟨q, hq, rfl⟩ := hin p hp
    exact c.empty _ hq
  · have hin : ∀ p ∈ [He.cT K ("is_name", none), He.cT K ("number_of", none)], ∃ q ∈ hTf, p = He.cT K q := fun p hp => by
      rcases List.mem_cons.mp hp with rfl | hp
      · exact ⟨_, List.mem_cons_self .., rfl⟩
      rcases List.mem_cons.mp hp with rfl | hp
      · exact ⟨_, (List.mem_cons_of_mem _ (List.mem_cons_self ..)), rfl⟩
      cases hp
    obtain ⟨q, hq, rfl⟩ := hin p hp
    exact c.out _ hq
  · have hin : ∀ p ∈ [He.cT K ("is_name", none), He.cT K ("number_of", none)], ∃ q ∈ hTf, p = He.cT K q := fun p hp => by
      rcases List.mem_cons.mp hp with rfl | hp
      · exact ⟨_, List.mem_cons_self .., rfl⟩
      rcases List.mem_cons.mp hp with rfl | hp
      · exact ⟨_, (List.mem_cons_of_mem _ (List.mem_cons_self ..)), rfl⟩
      cases hp
    obtain ⟨q, hq, rfl⟩ := hin p hp
    exact PySem.W.codeHd_of_K X (c.hd _ hq)
  have TB0 := TB _ (List.mem_cons_self ..)
  have TC0 : GxR.TabB base mg (He.codeOf K ("is_name", none)) (He.tabOf K (He.codeOf K ("is_name", none))) := ⟨TB0.code, TB0.bm, TB0.gP⟩
  haveI : TabN K mg base _ ((He.cT K ("is_name", none)).2, (He.cT K ("number_of", none)).2) := ⟨TC0, fun f fd F m => by
    have e := m.symm.trans g0
    cases e
    obtain ⟨_, _, _, _, _, _, cdv, _, _, rfl, lk, ci⟩ := F.ex
    obtain ⟨c0, rfl⟩ := He.codeIn_ref ci
    exact congrArg Value.ref (He.codeOf_eq (p := ("is_name", none)) lk rfl).symm⟩
  have TB1 := TB _ (List.mem_cons_of_mem _ (List.mem_cons_self ..))
  have TC1 : GxR.TabB base mg (He.codeOf K ("number_of", none)) (He.tabOf K (He.codeOf K ("number_of", none))) := ⟨TB1.code, TB1.bm, TB1.gP⟩
  haveI : TabF K mg base _ ((He.cT K ("is_name", none)).2, (He.cT K ("number_of", none)).2) := ⟨TC1, fun f fd F m => by
    have e := m.symm.trans g1
    cases e
    obtain ⟨_, _, _, _, _, _, cdv, _, _, rfl, lk, ci⟩ := F.ex
    obtain ⟨c0, rfl⟩ := He.codeIn_ref ci
    exact congrArg Value.ref (He.codeOf_eq (p := ("number_of", none)) lk rfl).symm⟩
  exact ok_law F49 T
end Mine
open PySem PySem.W PySem.Calls PyProof.Rows
set_option maxRecDepth 100000 in
set_option maxHeartbeats 0 in
theorem PySem.Challenge.cw_beltshift_k22_formulas_texts_spoilt_holds : PySem.Challenge.rw_beltshift_k22_formulas_texts_spoilt.Holds := by
  w_on; o_law
  o_head Mine.hk
  case hw => w_witness2
  case hc =>
    refine Mine.walkGT (l := PySem.Challenge.rw_beltshift_k22_formulas_texts_spoilt) (n := 63) (k := 211) (x := "_law_script") (CX := fun _ => L2.CX0) rfl (by decide) (by kernel_rfl) ⟨rfl, by decide, by decide⟩ ?F (fun _ _ _ _ _ z => z)
    intro w mg fa h Y G hmg0
    obtain ⟨K, KX, c⟩ := Y
    have hmg : mg ("law" : PySem.Str) = some (.ref fa) := by
      have e : (HandSHeadRun.topDef Mine.hR.prog 60).name = ("law" : PySem.Str) := by kernel_rfl
      rw [← e]
      exact hmg0
    exact ⟨K, KX, Mine.all_mkX KX G hmg c⟩
