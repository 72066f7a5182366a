import PyProof.Rows.All
import KE.DataFind
import HandS.Codes
import HandS.Replace
import HandS.StrMore
import HandS.Text
import KE.KIntText
import PyProof.Rows.StrMul
import Wide.All
import OpenK.AllK
import Wide.FinOn
import HandS.ForMost
import HandS.DictComp
import HandS.Wide
import HandS.Style
import HandS.IsInst
import HandS.TupAny
import HandS.NoneIn
import HandS.SetFor
import HandS.Conv
import HandS.Zip
import HandS.SortKw
import HandS.Deep
import KE.DataMinMax
import KE.GoesMore
import KE.KDictZip
import KE.GoesZip
import KE.GoesEnum
import HandS.AnyAll
import HandS.GenOver
import HandS.Strs
import HandS.TupLen
import KE.KeyNested
import PyProof.Rows.TupTab
import HandS.TupMul
import HandS.Words
import HandS.EndTab
import HandS.HeadWalk
import HandS.Defaults
import HandS.Head0
import HandS.Head1
import HandS.Head2
import HandS.HeadEnd
import HandS.HeadHook1
import HandS.HeadHook2
import HandS.HeadHook3
import HandS.HeadHook4
import KE.KStateDown
import KE.KIsAll
import KE.KNestM
import PyProof.GenCompD
import PyProof.WalksMore
import PyProof.ReprRoads
import PySem.Challenge.RW_beltshift_k21_formulas_read
import HandS.Lambda
import KE.KLam
import KE.DataMinKey
import HandS.TryOnly
import HandS.ExcInit
import HandS.WordsExc
import HandS.ExcIs
import HandS.ExcField
import HandS.ExcOwn
set_option Elab.async false
set_option linter.all false
set_option maxRecDepth 100000
namespace Mine
open PySem PyProof.Rows L2
def topS (i : Nat) : Stmt := PySem.Challenge.pw_beltshift_k21_formulas_read.main.body.getD i (.Pass ⟨0, 0, 0, 0⟩)
abbrev s_is_name : Stmt := topS 9
abbrev N_is_name : List Str := ["text"]
theorem sc_is_name : FnScope N_is_name ["text"] (defScope s_is_name) := ⟨rfl, rfl, rfl, by decide +kernel, rfl, by decide +kernel, by decide +kernel⟩
abbrev s_number_of : Stmt := topS 10
abbrev N_number_of : List Str := ["text", "figures"]
theorem sc_number_of : FnScope N_number_of ["text"] (defScope s_number_of) := ⟨rfl, rfl, rfl, by decide +kernel, rfl, by decide +kernel, by decide +kernel⟩
abbrev s_read_formulas : Stmt := topS 14
abbrev N_read_formulas : List Str := ["text", "rows", "row", "last", "ins", "was", "rules", "number", "reader", "outs"]
theorem sc_read_formulas : FnScope N_read_formulas ["text"] (defScope s_read_formulas) := ⟨rfl, rfl, rfl, by decide +kernel, rfl, by decide +kernel, by decide +kernel⟩
abbrev s_Reader___init__ : Stmt := inClass (topS 15) 0
abbrev N_Reader___init__ : List Str := ["self", "words", "row"]
theorem sc_Reader___init__ : FnScope N_Reader___init__ ["self", "words", "row"] (defScope s_Reader___init__) := ⟨rfl, rfl, rfl, by decide +kernel, rfl, by decide +kernel, by decide +kernel⟩
abbrev s_Reader_over : Stmt := inClass (topS 15) 1
abbrev N_Reader_over : List Str := ["self"]
theorem sc_Reader_over : FnScope N_Reader_over ["self"] (defScope s_Reader_over) := ⟨rfl, rfl, rfl, by decide +kernel, rfl, by decide +kernel, by decide +kernel⟩
abbrev s_Reader_ahead : Stmt := inClass (topS 15) 2
abbrev N_Reader_ahead : List Str := ["self"]
theorem sc_Reader_ahead : FnScope N_Reader_ahead ["self"] (defScope s_Reader_ahead) := ⟨rfl, rfl, rfl, by decide +kernel, rfl, by decide +kernel, by decide +kernel⟩
abbrev s_Reader_take : Stmt := inClass (topS 15) 3
abbrev N_Reader_take : List Str := ["self", "word"]
theorem sc_Reader_take : FnScope N_Reader_take ["self"] (defScope s_Reader_take) := ⟨rfl, rfl, rfl, by decide +kernel, rfl, by decide +kernel, by decide +kernel⟩
abbrev s_Reader_take_just : Stmt := inClass (topS 15) 4
abbrev N_Reader_take_just : List Str := ["self", "word"]
theorem sc_Reader_take_just : FnScope N_Reader_take_just ["self", "word"] (defScope s_Reader_take_just) := ⟨rfl, rfl, rfl, by decide +kernel, rfl, by decide +kernel, by decide +kernel⟩
abbrev s_Reader_take_name : Stmt := inClass (topS 15) 5
abbrev N_Reader_take_name : List Str := ["self", "word"]
theorem sc_Reader_take_name : FnScope N_Reader_take_name ["self"] (defScope s_Reader_take_name) := ⟨rfl, rfl, rfl, by decide +kernel, rfl, by decide +kernel, by decide +kernel⟩
abbrev s_Reader_take_number : Stmt := inClass (topS 15) 6
abbrev N_Reader_take_number : List Str := ["self", "number"]
theorem sc_Reader_take_number : FnScope N_Reader_take_number ["self"] (defScope s_Reader_take_number) := ⟨rfl, rfl, rfl, by decide +kernel, rfl, by decide +kernel, by decide +kernel⟩
abbrev s_Reader_end : Stmt := inClass (topS 15) 7
abbrev N_Reader_end : List Str := ["self"]
theorem sc_Reader_end : FnScope N_Reader_end ["self"] (defScope s_Reader_end) := ⟨rfl, rfl, rfl, by decide +kernel, rfl, by decide +kernel, by decide +kernel⟩
abbrev s_names_behind : Stmt := topS 16
abbrev N_names_behind : List Str := ["word", "reader", "names"]
theorem sc_names_behind : FnScope N_names_behind ["word", "reader"] (defScope s_names_behind) := ⟨rfl, rfl, rfl, by decide +kernel, rfl, by decide +kernel, by decide +kernel⟩
abbrev s_was_row : Stmt := topS 17
abbrev N_was_row : List Str := ["reader", "name", "things"]
theorem sc_was_row : FnScope N_was_row ["reader"] (defScope s_was_row) := ⟨rfl, rfl, rfl, by decide +kernel, rfl, by decide +kernel, by decide +kernel⟩
abbrev s_rule_row : Stmt := topS 18
abbrev N_rule_row : List Str := ["reader", "name", "tree"]
theorem sc_rule_row : FnScope N_rule_row ["reader"] (defScope s_rule_row) := ⟨rfl, rfl, rfl, by decide +kernel, rfl, by decide +kernel, by decide +kernel⟩
abbrev s_whole_tree : Stmt := topS 19
abbrev N_whole_tree : List Str := ["reader", "one"]
theorem sc_whole_tree : FnScope N_whole_tree ["reader"] (defScope s_whole_tree) := ⟨rfl, rfl, rfl, by decide +kernel, rfl, by decide +kernel, by decide +kernel⟩
abbrev s_pick_tree : Stmt := topS 20
abbrev N_pick_tree : List Str := ["reader", "test", "one"]
theorem sc_pick_tree : FnScope N_pick_tree ["reader"] (defScope s_pick_tree) := ⟨rfl, rfl, rfl, by decide +kernel, rfl, by decide +kernel, by decide +kernel⟩
abbrev s_sum_tree : Stmt := topS 21
abbrev N_sum_tree : List Str := ["reader", "tree", "word"]
theorem sc_sum_tree : FnScope N_sum_tree ["reader"] (defScope s_sum_tree) := ⟨rfl, rfl, rfl, by decide +kernel, rfl, by decide +kernel, by decide +kernel⟩
abbrev s_times_tree : Stmt := topS 22
abbrev N_times_tree : List Str := ["reader", "many", "tree"]
theorem sc_times_tree : FnScope N_times_tree ["reader"] (defScope s_times_tree) := ⟨rfl, rfl, rfl, by decide +kernel, rfl, by decide +kernel, by decide +kernel⟩
abbrev s_small_tree : Stmt := topS 23
abbrev N_small_tree : List Str := ["reader", "word", "name"]
theorem sc_small_tree : FnScope N_small_tree ["reader"] (defScope s_small_tree) := ⟨rfl, rfl, rfl, by decide +kernel, rfl, by decide +kernel, by decide +kernel⟩
abbrev s_bracket_tree : Stmt := topS 24
abbrev N_bracket_tree : List Str := ["reader", "tree"]
theorem sc_bracket_tree : FnScope N_bracket_tree ["reader"] (defScope s_bracket_tree) := ⟨rfl, rfl, rfl, by decide +kernel, rfl, by decide +kernel, by decide +kernel⟩
abbrev s_two_tree : Stmt := topS 25
abbrev N_two_tree : List Str := ["reader", "word", "one", "other"]
theorem sc_two_tree : FnScope N_two_tree ["reader"] (defScope s_two_tree) := ⟨rfl, rfl, rfl, by decide +kernel, rfl, by decide +kernel, by decide +kernel⟩
abbrev s_bells_ago : Stmt := topS 26
abbrev N_bells_ago : List Str := ["reader", "bells"]
theorem sc_bells_ago : FnScope N_bells_ago ["reader"] (defScope s_bells_ago) := ⟨rfl, rfl, rfl, by decide +kernel, rfl, by decide +kernel, by decide +kernel⟩
abbrev s_law_flow : Stmt := topS 28
abbrev N_law_flow : List Str := ["_law_script"]
theorem sc_law_flow : FnScope N_law_flow ["_law_script"] (defScope s_law_flow) := ⟨rfl, rfl, rfl, by decide +kernel, rfl, by decide +kernel, by decide +kernel⟩
abbrev s_law_pick : Stmt := topS 29
abbrev N_law_pick : List Str := ["_law_flow_here", "_law_many", "_law_cell", "_law_digit"]
theorem sc_law_pick : FnScope N_law_pick ["_law_flow_here", "_law_many"] (defScope s_law_pick) := ⟨rfl, rfl, rfl, by decide +kernel, rfl, by decide +kernel, by decide +kernel⟩
abbrev s_law_thing : Stmt := topS 30
abbrev N_law_thing : List Str := ["_law_flow_here"]
theorem sc_law_thing : FnScope N_law_thing ["_law_flow_here"] (defScope s_law_thing) := ⟨rfl, rfl, rfl, by decide +kernel, rfl, by decide +kernel, by decide +kernel⟩
abbrev s_law_shuffled : Stmt := topS 31
abbrev N_law_shuffled : List Str := ["_law_flow_here", "_law_some", "_law_left", "_law_k"]
theorem sc_law_shuffled : FnScope N_law_shuffled ["_law_flow_here", "_law_some"] (defScope s_law_shuffled) := ⟨rfl, rfl, rfl, by decide +kernel, rfl, by decide +kernel, by decide +kernel⟩
abbrev s_law_word : Stmt := topS 32
abbrev N_law_word : List Str := ["_law_flow_here", "_law_most", "_law_letters", "_law_k"]
theorem sc_law_word : FnScope N_law_word ["_law_flow_here", "_law_most"] (defScope s_law_word) := ⟨rfl, rfl, rfl, by decide +kernel, rfl, by decide +kernel, by decide +kernel⟩
abbrev s_law_taken : Stmt := topS 33
abbrev N_law_taken : List Str := []
theorem sc_law_taken : FnScope N_law_taken [] (defScope s_law_taken) := ⟨rfl, rfl, rfl, by decide +kernel, rfl, by decide +kernel, by decide +kernel⟩
abbrev s_law_names : Stmt := topS 34
abbrev N_law_names : List Str := ["_law_flow_here", "_law_many", "_law_names_here", "_law_stem", "_law_k", "_law_name", "_law_spare"]
theorem sc_law_names : FnScope N_law_names ["_law_flow_here", "_law_many"] (defScope s_law_names) := ⟨rfl, rfl, rfl, by decide +kernel, rfl, by decide +kernel, by decide +kernel⟩
abbrev s_law_leaf : Stmt := topS 35
abbrev N_law_leaf : List Str := ["_law_flow_here", "_law_now", "_law_names_here"]
theorem sc_law_leaf : FnScope N_law_leaf ["_law_flow_here", "_law_now", "_law_names_here"] (defScope s_law_leaf) := ⟨rfl, rfl, rfl, by decide +kernel, rfl, by decide +kernel, by decide +kernel⟩
abbrev s_law_tree : Stmt := topS 36
abbrev N_law_tree : List Str := ["_law_flow_here", "_law_room", "_law_now", "_law_names_here", "_law_word_here", "_law_one", "_law_parts"]
theorem sc_law_tree : FnScope N_law_tree ["_law_flow_here", "_law_room", "_law_now", "_law_names_here"] (defScope s_law_tree) := ⟨rfl, rfl, rfl, by decide +kernel, rfl, by decide +kernel, by decide +kernel⟩
abbrev s_law_formulas : Stmt := topS 37
abbrev N_law_formulas : List Str := ["_law_flow_here", "_law_most", "_law_names_here", "_law_ins", "_law_own", "_law_every", "_law_trees", "_law_k", "_law_name", "_law_rules", "_law_was", "_law_outs"]
theorem sc_law_formulas : FnScope N_law_formulas ["_law_flow_here", "_law_most"] (defScope s_law_formulas) := ⟨rfl, rfl, rfl, by decide +kernel, rfl, by decide +kernel, by decide +kernel⟩
abbrev s_law_written : Stmt := topS 38
abbrev N_law_written : List Str := ["_law_flow_here", "_law_tree_here", "_law_level", "_law_own"]
theorem sc_law_written : FnScope N_law_written ["_law_flow_here", "_law_tree_here", "_law_level"] (defScope s_law_written) := ⟨rfl, rfl, rfl, by decide +kernel, rfl, by decide +kernel, by decide +kernel⟩
abbrev s_law_bare : Stmt := topS 39
abbrev N_law_bare : List Str := ["_law_flow_here", "_law_tree_here", "_law_words", "_law_sign"]
theorem sc_law_bare : FnScope N_law_bare ["_law_flow_here", "_law_tree_here"] (defScope s_law_bare) := ⟨rfl, rfl, rfl, by decide +kernel, rfl, by decide +kernel, by decide +kernel⟩
abbrev s_law_text : Stmt := topS 40
abbrev N_law_text : List Str := ["_law_flow_here", "_law_formulas_here", "_law_ins", "_law_was", "_law_rules", "_law_outs", "_law_rows", "_law_thing_here", "_law_name", "_law_things", "_law_kept", "_law_place", "_law_tree_here", "_law_words"]
theorem sc_law_text : FnScope N_law_text ["_law_flow_here", "_law_formulas_here"] (defScope s_law_text) := ⟨rfl, rfl, rfl, by decide +kernel, rfl, by decide +kernel, by decide +kernel⟩
abbrev s_law_great : Stmt := topS 41
abbrev N_law_great : List Str := ["_law_number", "_law_figures", "_law_text_here", "_law_tree_here"]
theorem sc_law_great : FnScope N_law_great ["_law_number"] (defScope s_law_great) := ⟨rfl, rfl, rfl, by decide +kernel, rfl, by decide +kernel, by decide +kernel⟩
abbrev s_law : Stmt := topS 42
abbrev N_law : List Str := ["_law_script", "_law_flow_here", "_law_asked", "_law_text_here", "_law_formulas_here"]
theorem sc_law : FnScope N_law ["_law_script"] (defScope s_law) := ⟨rfl, rfl, rfl, by decide +kernel, rfl, by decide +kernel, by decide +kernel⟩

/-- a def of the text stands, binds and is bound -/
def Dd (K : PySem.W.Frag) (mg : Str → Option Value) (name : Str) (st : Stmt) (ps : List Str) : Prop :=
  ∃ (f : Addr) (fd : FuncData), Fun K name name st f fd ∧ Binds K fd ps [] ∧ mg name = some (.ref f)
/-! ### the table of the signs -/
def twoS : List Str := ["+", "-"]
def signW (z : Str) : Str := if z = "+" then "sum" else "gap"
structure SignsAt (K : PySem.W.Frag) (w : World) (a : Addr) : Prop where
  dict : ∃ es n, KDict K w a es n
  yes : ∀ z ∈ twoS, ∃ t, PySem.W.nsIn K a z = some (some (.str (signW z) t))
  no : ∀ z, z ∉ twoS → PySem.W.nsIn K a z = some none
def figS : Str := "0123456789"
def takV : List V := [.str "in", .str "out", .str "was", .str "if", .str "then", .str "else", .str "most", .str "least"]
def letS : Str := "abcdefghijklmnopqrstuvwxyz"
structure Top (w : World) (K : PySem.W.Frag) (mg : Str → Option Value) (C : Addr) : Prop where
  d_is_name : Dd K mg "is_name" s_is_name ["text"]
  d_number_of : Dd K mg "number_of" s_number_of ["text"]
  d_read_formulas : Dd K mg "read_formulas" s_read_formulas ["text"]
  d_Reader___init__ : ∃ (f : Addr) (fd : FuncData), Fun K "__init__" "Reader.__init__" s_Reader___init__ f fd ∧ Binds K fd ["self", "words", "row"] [] ∧ Mk K C f
  d_Reader_over : ∃ (f : Addr) (fd : FuncData), Fun K "over" "Reader.over" s_Reader_over f fd ∧ Binds K fd ["self"] [] ∧ Meth K C "over" f
  d_Reader_ahead : ∃ (f : Addr) (fd : FuncData), Fun K "ahead" "Reader.ahead" s_Reader_ahead f fd ∧ Binds K fd ["self"] [] ∧ Meth K C "ahead" f
  d_Reader_take : ∃ (f : Addr) (fd : FuncData), Fun K "take" "Reader.take" s_Reader_take f fd ∧ Binds K fd ["self"] [] ∧ Meth K C "take" f
  d_Reader_take_just : ∃ (f : Addr) (fd : FuncData), Fun K "take_just" "Reader.take_just" s_Reader_take_just f fd ∧ Binds K fd ["self", "word"] [] ∧ Meth K C "take_just" f
  d_Reader_take_name : ∃ (f : Addr) (fd : FuncData), Fun K "take_name" "Reader.take_name" s_Reader_take_name f fd ∧ Binds K fd ["self"] [] ∧ Meth K C "take_name" f
  d_Reader_take_number : ∃ (f : Addr) (fd : FuncData), Fun K "take_number" "Reader.take_number" s_Reader_take_number f fd ∧ Binds K fd ["self"] [] ∧ Meth K C "take_number" f
  d_Reader_end : ∃ (f : Addr) (fd : FuncData), Fun K "end" "Reader.end" s_Reader_end f fd ∧ Binds K fd ["self"] [] ∧ Meth K C "end" f
  d_names_behind : Dd K mg "names_behind" s_names_behind ["word", "reader"]
  d_was_row : Dd K mg "was_row" s_was_row ["reader"]
  d_rule_row : Dd K mg "rule_row" s_rule_row ["reader"]
  d_whole_tree : Dd K mg "whole_tree" s_whole_tree ["reader"]
  d_pick_tree : Dd K mg "pick_tree" s_pick_tree ["reader"]
  d_sum_tree : Dd K mg "sum_tree" s_sum_tree ["reader"]
  d_times_tree : Dd K mg "times_tree" s_times_tree ["reader"]
  d_small_tree : Dd K mg "small_tree" s_small_tree ["reader"]
  d_bracket_tree : Dd K mg "bracket_tree" s_bracket_tree ["reader"]
  d_two_tree : Dd K mg "two_tree" s_two_tree ["reader"]
  d_bells_ago : Dd K mg "bells_ago" s_bells_ago ["reader"]
  d_law_flow : Dd K mg "_law_flow" s_law_flow ["_law_script"]
  d_law_pick : Dd K mg "_law_pick" s_law_pick ["_law_flow_here", "_law_many"]
  d_law_thing : Dd K mg "_law_thing" s_law_thing ["_law_flow_here"]
  d_law_shuffled : Dd K mg "_law_shuffled" s_law_shuffled ["_law_flow_here", "_law_some"]
  d_law_word : Dd K mg "_law_word" s_law_word ["_law_flow_here", "_law_most"]
  d_law_taken : Dd K mg "_law_taken" s_law_taken []
  d_law_names : Dd K mg "_law_names" s_law_names ["_law_flow_here", "_law_many"]
  d_law_leaf : Dd K mg "_law_leaf" s_law_leaf ["_law_flow_here", "_law_now", "_law_names_here"]
  d_law_tree : Dd K mg "_law_tree" s_law_tree ["_law_flow_here", "_law_room", "_law_now", "_law_names_here"]
  d_law_formulas : Dd K mg "_law_formulas" s_law_formulas ["_law_flow_here", "_law_most"]
  d_law_written : Dd K mg "_law_written" s_law_written ["_law_flow_here", "_law_tree_here", "_law_level"]
  d_law_bare : Dd K mg "_law_bare" s_law_bare ["_law_flow_here", "_law_tree_here"]
  d_law_text : Dd K mg "_law_text" s_law_text ["_law_flow_here", "_law_formulas_here"]
  d_law_great : Dd K mg "_law_great" s_law_great ["_law_number"]
  m_all : mg "all" = none
  m_enumerate : mg "enumerate" = none
  m_int : mg "int" = none
  m_len : mg "len" = none
  m_list : mg "list" = none
  m_range : mg "range" = none
  m_repr : mg "repr" = none
  m_str : mg "str" = none
  m_tuple : mg "tuple" = none
  x_tak : ∃ aT : Addr, mg "TAKEN" = some (.ref aT) ∧ ∀ H : Hp, SqT K H aT takV
  x_len : ∃ t, mg "LONGEST_NAME" = some (.int 6 t)
  x_fig : ∃ t, mg "MOST_FIGURES" = some (.int 9 t)
  x_let : ∃ t, mg "LETTERS" = some (.str letS t)
  x_num : ∃ t, mg "FIGURES" = some (.str figS t)
  x_sg : ∃ aSg : Addr, mg "SIGNS" = some (.ref aSg) ∧ SignsAt K w aSg
  x_mw : ∃ t, mg "MOST_WORDS" = some (.int 40 t)
  cl : Cls K C
  mgC : mg "Reader" = some (.ref C)
  n_words : NoAttr K C "words"
  n_row : NoAttr K C "row"
  n_at : NoAttr K C "at"

/-! ### heaps -/
def But (f : Addr) (H H' : Hp) : Prop := ∀ b o, H b = some o → b ≠ f → H' b = some o
theorem But.refl {f : Addr} {H : Hp} : But f H H := fun _ _ e _ => e
theorem But.trans {f : Addr} {H H1 H2 : Hp} (a : But f H H1) (b : But f H1 H2) : But f H H2 := fun x o e n => b x o (a x o e n) n
theorem But.upd {f : Addr} {H H1 : Hp} {o : HO} (a : But f H H1) : But f H (upd H1 f o) := fun x u e n => by rw [upd_ne n]; exact a x u e n
theorem But.new {f p : Addr} {H H1 : Hp} {o : HO} (a : But f H H1) (h : H1 p = none) : But f H (L2.upd H1 p o) := fun x u e n => by
  have e1 := a x u e n
  rw [upd_ne (ne_of_none e1 h)]
  exact e1
theorem same_new {H : Hp} {p : Addr} {o : HO} (h : H p = none) : Same H (upd H p o) := fun b u q => by rw [upd_ne (ne_of_none q h)]; exact q
theorem But.same {f : Addr} {H H1 H2 : Hp} (a : But f H H1) (b : Same H1 H2) : But f H H2 := fun x o e n => b x o (a x o e n)
theorem But.seqT {K : PySem.W.Frag} {f a : Addr} {H H1 : Hp} {xs : List V} (b : But f H H1) (h : SqT K H a xs) (n : a ≠ f) : SqT K H1 a xs := by
  rcases h with h | h
  · left
    rcases h with h | ⟨o, h⟩
    · exact .inl (b _ _ h n)
    · exact .inr ⟨o, b _ _ h n⟩
  · exact .inr h
/-- a comprehension without a test -/
theorem yes_in {σ : L2.St} {H : Hp} {A B : Hp → Prop} (h : A H) : tYes σ H (fun b H3 => if b = true then A H3 else B H3) := by
  show (if true = true then A H else B H)
  rw [if_pos rfl]
  exact h
/-! ### the draw -/
/-- the list of the law's draws at f, the script's copy at c -/
def Flow (H : Hp) (f c : Addr) : Prop := ∃ (ns : List Int) (i p q r : Int), H f = some (.lst [.ref c, .int i, .int p, .int q, .int r]) ∧ H c = some (.lst (ns.map V.int)) ∧ 0 ≤ i ∧ 0 ≤ p ∧ 0 ≤ q ∧ q < 2147483647
theorem Flow.new {H : Hp} {f c p : Addr} {o : HO} (h : Flow H f c) (n : H p = none) : Flow (upd H p o) f c := by
  obtain ⟨ns, i, a, q, r, e1, e2, e⟩ := h
  exact ⟨ns, i, a, q, r, same_new n _ _ e1, same_new n _ _ e2, e⟩
theorem Flow.ne {H : Hp} {f c p : Addr} (h : Flow H f c) (n : H p = none) : p ≠ f := by
  obtain ⟨ns, i, a, q, r, e1, _⟩ := h
  exact fun e => by rw [e, e1] at n; cases n
theorem Flow.nec {H : Hp} {f c p : Addr} (h : Flow H f c) (n : H p = none) : p ≠ c := by
  obtain ⟨ns, i, a, q, r, _, e1, _⟩ := h
  exact fun e => by rw [e, e1] at n; cases n
theorem Flow.lst {H : Hp} {f c p : Addr} {o : HO} (h : Flow H f c) (n1 : p ≠ f) (n2 : p ≠ c) : Flow (upd H p o) f c := by
  obtain ⟨ns, i, a, q, r, e1, e2, e⟩ := h
  exact ⟨ns, i, a, q, r, by rw [upd_ne n1.symm]; exact e1, by rw [upd_ne n2.symm]; exact e2, e⟩
theorem Flow.same {H H' : Hp} {f c : Addr} (h : Flow H f c) (s : Same H H') : Flow H' f c := by
  obtain ⟨ns, i, a, q, r, e1, e2, e⟩ := h
  exact ⟨ns, i, a, q, r, s _ _ e1, s _ _ e2, e⟩
theorem Flow.tup {H : Hp} {f c p : Addr} {xs : List V} (h : Flow H f c) (e : H p = some (.tup xs)) : p ≠ f := by
  obtain ⟨ns, i, a, q, r, e1, _⟩ := h
  exact ne_of e e1 (by intro z; cases z)
theorem at_ints {ns : List Int} {i : Int} (h0 : 0 ≤ i) (h1 : i < (ns.length : Int)) : ∃ v : Int, atI (ns.map V.int) i = some (.int v) := by
  have hk : i.toNat < ns.length := by omega
  have ek : i = ((i.toNat : Nat) : Int) := by omega
  have q : atI (ns.map V.int) ((i.toNat : Nat) : Int) = some (.int ns[i.toNat]) := atI_nat (by rw [List.getElem?_map, List.getElem?_eq_getElem hk]; rfl)
  rw [← ek] at q
  exact ⟨_, q⟩
/-- a block by less than it asks -/
theorem PSs.to {X : Cx} {ss : List Stmt} {t : TS} (h : PSs X ss t) (u : TS) (k : ∀ D σ H, u D σ H → t D σ H) : PSs X ss u := ⟨fun pins s σ H D I q => h.run pins s σ H D I (k D σ H q)⟩
theorem if_bl {b : Bool} {A B : Prop} (h1 : b = true → A) (h2 : b = false → B) : if b = true then A else B := by
  cases b
  · rw [if_neg Bool.false_ne_true]; exact h2 rfl
  · rw [if_pos rfl]; exact h1 rfl
/-! ### defs whose callers are showing nothing: a promise that may lean on it (repr of a list or tuple asks) -/
structure FnG (P : Program) (w : World) (K : PySem.W.Frag) (mg : Str → Option Value) (base : Heap) (CX : CXT) (lv : Nat) (fn : Addr) (dat : FuncData) (names : List Str) (sp : Sp) : Prop where
  many : ∀ xs H Q E, sp xs H Q E → xs.length = names.length
  goes : ∀ (A : Around) (outer : List Env) (st : Shared) (H : Hp) (given : Args) (us : List Value) (xs : List V) (Q : VK) (E : XK), Room lv A → A.guards = some [] →
    Env0 P w K mg base A outer st H → BindsTo st dat given (names.zip us) → Vals xs us → sp xs H Q E → codeAny (model P w) A (.call (.ref fn) given) (CR CX outer P w H st Q E) st
theorem FnG.of {P : Program} {w : World} {K : PySem.W.Frag} {mg : Str → Option Value} {base : Heap} {CX : CXT} {lv : Nat} {fn : Addr} {dat : FuncData} {names : List Str} {sp : Sp} (h : FnOk P w K mg base CX lv fn dat names sp) : FnG P w K mg base CX lv fn dat names sp :=
  ⟨h.len, fun A o st H g us xs Q E r _ e b v q => h.run A o st H g us xs Q E r e b v q⟩
section
variable {P : Program} {w : World} {K : PySem.W.Frag} {mg : Str → Option Value} {base : Heap} {CX : CXT} {lv : Nat}
theorem fnG_of {fn : Addr} {nm ql : Str} {pr : Arguments} {bd : List Stmt} {sc : Scope} {d1 d2 d3 d4 d5 d6 d7 : Value} {o1 o2 : Option Addr} {o3 : Array (Option Value)} {N names : List Str} {sp : Sp}
    (at_ : K.lookup fn = some ⟨d7, o2, .func (PySem.W.fnOf nm ql pr bd sc d1 d2 d3 d4 o1 d5 d6), o3⟩) (code : PySem.W.codeIn K d5 ql = true) (S : FnScope N names sc) (many : ∀ xs H Q E, sp xs H Q E → xs.length = names.length)
    (body : ∀ (A : Around) (outer : List Env) (st : Shared) (H : Hp) (xs : List V) (Q : VK) (E : XK), Room lv (A.deeper (envOfC ql sc st.heap.objs.size fn d5)) → (A.deeper (envOfC ql sc st.heap.objs.size fn d5)).guards = some [] → sp xs H Q E →
      ∃ t, PSs (cxOf CX P w K mg base N ql sc fn d5 A outer st H E) bd t ∧ t { nx := fun _ H' => Q .non H', rt := Q } (start N xs) H) :
    FnG P w K mg base CX (lv + 1) fn (PySem.W.fnOf nm ql pr bd sc d1 d2 d3 d4 o1 d5 d6) names sp := by
  refine ⟨many, fun A outer st H given us xs Q E rm gd e0 bnd rel asked => ?_⟩
  have inK : K.In st.heap := e0.mod.kin.keeps fun z u e => (e0.bs z u e).1
  have noL : st.heap.NoLimit := e0.mod.nolimit.keeps fun z u e => (e0.bs z u e).1
  have kinds : ∀ z ∈ names.zip us, sc.names.lookup z.1 = some .local ∨ (sc.names.lookup z.1 = some .cell ∧ ((cellsFrom (st.heap.objs.size + 1) sc.names []).lookup z.1).isSome = true) := by
    intro z hz
    rcases S.par z.1 (List.of_mem_zip (a := z.1) (b := z.2) hz).1 with k | k
    · left; exact k
    · right; exact ⟨k, PySem.W.cellsFrom_some _ _ _ (.inl k)⟩
  refine codeAny_call_function rm.depth (inK _ _ at_) rfl S.co S.gen rfl (PySem.W.codeRec_of inK code) (bnd _ _ _ _ ?_)
  refine wpAny_newFunctionEnv_cells S.kind kinds fun env eenv st1 inn => ?_
  subst eenv
  refine ⟨noL.keeps inn.toInCall.keep, codeAny_func ?_⟩
  obtain ⟨t, der, now⟩ := body A outer st H xs Q E (rm.deeper _) gd asked
  have J0 := inv_start (CX := CX) (E := E) S rm.hd e0 (many _ _ _ _ asked) rel inn
  refine wpAny_mono (der.run [] st1 (start N xs) H _ J0 now) (fun flow st' got => ?_) fun _ _ z => z
  cases flow with
  | ret u =>
    obtain ⟨v, σ', H', J, rv, fine⟩ := got
    exact ⟨v, H', J.os, J.bare, J.base, J.hok, rv, fine⟩
  | next =>
    obtain ⟨σ', H', J, fine⟩ := got
    exact ⟨V.non, H', J.os, J.bare, J.base, J.hok, rfl, fine⟩
  | brk =>
    obtain ⟨_, _, _, no⟩ := got
    exact no.elim
  | cont =>
    obtain ⟨_, _, _, no⟩ := got
    exact no.elim
theorem Fun.okG {nm ql : Str} {st : Stmt} {fn : Addr} {dat : FuncData} {N names : List Str} {sp : Sp} (F : L2.Fun K nm ql st fn dat) (S : FnScope N names (defScope st)) (many : ∀ xs H Q E, sp xs H Q E → xs.length = names.length)
    (body : ∀ (cdv : Value) (A : Around) (outer : List Env) (s : Shared) (H : Hp) (xs : List V) (Q : VK) (E : XK), Room lv (A.deeper (envOfC ql (defScope st) s.heap.objs.size fn cdv)) → (A.deeper (envOfC ql (defScope st) s.heap.objs.size fn cdv)).guards = some [] → sp xs H Q E →
      ∃ t, PSs (cxOf CX0 P w K mg base N ql (defScope st) fn cdv A outer s H E).nox (defBody st) t ∧ t { nx := fun _ H' => Q .non H', rt := Q } (start N xs) H) : FnG P w K mg base CX0 (lv + 1) fn dat names sp := by
  obtain ⟨c1, c2, c3, c4, c5, c6, cdv, c8, c9, rfl, at_, code⟩ := F.ex
  refine fnG_of at_ code S many fun A outer s H xs Q E rm gd asked => ?_
  obtain ⟨t, der, now⟩ := body cdv A outer s H xs Q E rm gd asked
  exact ⟨t, der.nox, now⟩
end
section
variable {X : Cx} {CX : CXT} {lv : Nat} {fn : Addr} {dat : FuncData} {names : List Str} {sp : Sp} {more : List V} {ds : List Value} {E : XK}
theorem goesG {pins : List (Addr × Obj)} {σ : L2.St} {H : Hp} {st : Shared} {Q : VK} {us : List Value} {xs : List V} (F : FnG X.prog X.w X.K X.mg X.base CX lv fn dat names sp) (rm : Room lv X.A) (gd : X.A.guards = some []) (bnd : Binds X.K dat names ds) (dv : Vals more ds) (out : Passes CX X E)
    (J : Inv X pins σ H st) (rel : Vals xs us) (asked : sp (xs ++ more) H Q E) : wpAny (model X.prog X.w) X.A (call (.ref fn) us) (EP X pins σ Q) X.xe st := by
  have rel2 := rel.append dv
  have len2 : (us ++ ds).length = names.length := by
    rw [← rel2.length]
    exact F.many _ _ _ _ asked
  refine wpAny_call (codeAny_mono (F.goes X.A X.stack st H ⟨us, []⟩ (us ++ ds) (xs ++ more) Q E rm gd J.env0 (bnd st us J.kIn len2) rel2 asked) fun res st' got => ?_)
  cases res with
  | error e => exact out pins σ H st e st' J got
  | ok flow =>
    cases flow with
    | ret u => exact J.after got
    | next => exact got.elim
    | brk => exact got.elim
    | cont => exact got.elim
theorem pe_callG {x : Str} {p pos : Pos} {e : Expr} {es : List Expr} {t : TA} (F : FnG X.prog X.w X.K X.mg X.base CX lv fn dat names sp) (rm : Room lv X.A) (gd : X.A.guards = some []) (glob : Gl X x) (here : X.mg x = some (.ref fn)) (kept : PySem.W.keepIn X.K (.ref fn) = true)
    (bnd : Binds X.K dat names ds) (dv : Vals more ds) (out : Passes CX X E) (args : PA X (e :: es) t) (n1 : (x == ("__debug__" : Str)) = false := by decide)
    (n2 : starEach (e :: es) X.env = (false, eval e X.env) :: starEach es X.env := by rfl) (n3 : (backTo pos (starEach es X.env)).any (·.1) = false := by rfl) : PE X (.Call (.Name x p) (e :: es) [] pos) (tCall sp more E t) := by
  refine ⟨fun pins st σ H Q J asked => ?_⟩
  refine wpAny_Call_Name_kw (ld_glob J glob here ?_ n1)
  exact PySem.W.callWith_K (h₀ := X.base) J.ok.mod.kin kept (thn (args.run pos pins st σ H _ J asked) fun us st1 ⟨xs, H1, J1, rel, now⟩ => ⟨J1.kIn, goesG F rm gd bnd dv out J1 rel now⟩) n2 n3
theorem pe_call0G {x : Str} {p pos : Pos} (F : FnG X.prog X.w X.K X.mg X.base CX lv fn dat names sp) (rm : Room lv X.A) (gd : X.A.guards = some []) (glob : Gl X x) (here : X.mg x = some (.ref fn)) (kept : PySem.W.keepIn X.K (.ref fn) = true)
    (bnd : Binds X.K dat names ds) (dv : Vals more ds) (out : Passes CX X E) (n1 : (x == ("__debug__" : Str)) = false := by decide) : PE X (.Call (.Name x p) [] [] pos) (tCall sp more E tNil) := by
  refine ⟨fun pins st σ H Q J asked => ?_⟩
  refine wpAny_Call_Name_kw (ld_glob J glob here ?_ n1)
  exact PySem.W.callWith_K0 J.kIn kept (goesG (us := []) F rm gd bnd dv out J .nil asked)
/-- repr of data -/
def rReprD (K : PySem.W.Frag) : List V → Hp → VK → Prop := fun xs H Q => ∃ (a : Addr) (d : PyData), xs = [.ref a] ∧ Dp K H (.ref a) d ∧ d.showable = true ∧ d.hasDict = false ∧ d.depth ≤ 60 ∧ d.shown.length ≤ sizeLine ∧ Q (.str d.shown) H
theorem call_reprD (gd : X.A.guards = some []) (un : X.A.units + 64 < cLine) : CallR X (.builtin "repr") (rReprD X.K) := by
  intro pins st σ H xs us Q J rel asked
  obtain ⟨a, d, rfl, hd, h1, h2, h3, h4, now⟩ := asked
  obtain ⟨u, rfl, ru⟩ := vals1 rel
  obtain rfl : u = Value.ref a := ru
  obtain ⟨as, rd⟩ := Dp.reads J d _ _ hd rfl
  exact repr_of_reads' rd h1 (PyData.noDict_hsm h2) gd (by omega) (fun _ _ e => e) (fun h' u tk kp => ⟨.str d.shown, H, J.kept (t' := tk) kp, ⟨_, rfl⟩, now⟩) h4
end
/-! ### the law's own call, its code objects' tables told, by a promise that leans on nothing being shown -/
theorem endGT {P : Program} {w : World} {K : PySem.W.Frag} {mg mb : Str → Option Value} {CX : CXT} {lv : Nat} {fn a : Addr} {dat : FuncData} {x : Str} {sp : Sp} {st : Shared} {us : List Value} {ns : List Int} {cs : List (Addr × Addr)}
    (inK : K.In st.heap) (gl : st.heap.Ns mainGlobals mg) (bl : st.heap.Ns builtinsNs mb) (boot : ∀ z : Str, z ≠ "__name__" → mb z = bootBuiltins z) (noL : st.heap.NoLimit) (gens : st.gens = #[])
    (bm : ∃ (m : Addr) (o : Obj), mg "__builtins__" = some (.ref m) ∧ m ≠ builtinsNs ∧ st.heap.get? m = some o ∧ o.cls = .type "module" ∧ o.dict = some builtinsNs ∧ o.data = .plain)
    (tabs : ∀ p ∈ cs, st.heap.get? p.2 = some { cls := .none, data := .fields #[] }) (free : ∀ p ∈ cs, K.lookup p.2 = none) (codes : ∀ p ∈ cs, PySem.W.CodeHd st.heap p.1 p.2)
    (obj : st.heap.get? a = some { cls := .type "list", data := .seq us.toArray }) (iv : IntsAre us ns) (short : ns.length ≤ sizeLine) (rm : Room lv callerA)
    (F : ∀ bs : Heap, K.In bs → bs.Ns mainGlobals mg → (∀ p ∈ cs, LamX.TabB bs mg p.1 p.2) → FnG P w K mg bs CX lv fn dat [x] sp) (bnd : ∀ (z : Shared) (u : Value), BindsTo z dat ⟨[u], []⟩ [(x, u)])
    (asked : ∀ H : Hp, (∀ p ∈ cs, H p.2 = some (.tbl #[])) → SqL K H a (ns.map V.int) → sp [.ref a] H (fun v _ => v = .bl true) fun _ _ _ => False)
    (never : ∀ H e st', CX [] H st (fun _ _ _ => False) e st' → False) :
    codeAny (model P w) callerA (.call (.ref fn) ⟨[.ref a], []⟩) (fun res st' => res = .ok (.ret (.bool true)) ∧ OldK st.heap st'.heap ∧ st'.os = st.os ∧ AllBare st'.gens) st := by
  classical
  have rel := vals_ints iv
  have many := iv.length
  let tb : Addr → Prop := fun b => ∃ p ∈ cs, p.2 = b
  have tObj : ∀ {b : Addr}, tb b → st.heap.get? b = some { cls := .none, data := .fields #[] } := fun {b} ⟨p, hp, e⟩ => e ▸ tabs p hp
  have aT : ¬ tb a := fun h => by
    have z : Data.fields #[] = Data.seq us.toArray _ := congrArg Obj.data (Option.some.inj ((tObj h).symm.trans obj))
    cases z
  have main : ∀ H : Hp, (∀ b, tb b → H b = some (.tbl #[])) → (∀ b, H b = none ∨ tb b ∨ (b = a ∧ K.lookup a = none ∧ ∃ o xs, H b = some (.frz o (.lst xs)))) → SqL K H a (ns.map V.int) → HOk P w H st.heap →
      codeAny (model P w) callerA (.call (.ref fn) ⟨[.ref a], []⟩) (fun res st' => res = .ok (.ret (.bool true)) ∧ OldK st.heap st'.heap ∧ st'.os = st.os ∧ AllBare st'.gens) st := by
    intro H ht trk sq ok
    have kClear : ∀ {b : Addr} {o : Obj}, K.lookup b = some o → H b = none := fun {b o} e => by
      rcases trk b with h | ⟨p, hp, rfl⟩ | ⟨rfl, h, _⟩
      · exact h
      · rw [free p hp] at e; cases e
      · rw [h] at e; cases e
    have dClear : ∀ {b : Addr} {o : Obj}, st.heap.get? b = some o → o.data ≠ .fields #[] → (∀ vs n, o.data ≠ .seq vs n) → H b = none := fun {b o} e n1 n2 => by
      rcases trk b with h | h | ⟨rfl, _⟩
      · exact h
      · rw [tObj h] at e; cases e; exact (n1 rfl).elim
      · rw [obj] at e; cases e; exact (n2 _ _ rfl).elim
    have names : ∀ {b : Addr} {m : Str → Option Value}, st.heap.Ns b m → (hidT st.heap H).Ns b m := by
      rintro b m ⟨u, es, ep, e, d, r⟩
      exact ⟨u, es, ep, hidT_get e (dClear e (by rw [d]; exact fun z => nomatch z) (by rw [d]; exact fun _ _ z => nomatch z)), d, r⟩
    have inB : K.In (hidT st.heap H) := fun b u e => hidT_get (inK b u e) (kClear e)
    have TB : ∀ p ∈ cs, LamX.TabB (hidT st.heap H) mg p.1 p.2 := fun p hp => by
      obtain ⟨o, vs, file, tf, flags, tg, inF, text, tt, e1, r1, r2, r3, rest⟩ := codes p hp
      obtain ⟨m, ob, b1, b2, b3, b4, b5, b6⟩ := bm
      obtain ⟨og, es, ep, eg, dg, _⟩ := gl
      have nG : m ≠ mainGlobals := fun z => by
        rw [z, eg] at b3; cases b3; rw [dg] at b6; cases b6
      have nP : m ≠ p.2 := fun z => by
        rw [z, tabs p hp] at b3; cases b3; cases b6
      refine ⟨⟨o, vs, file, tf, flags, tg, inF, text, tt, hidT_get e1 (dClear e1 (fun z => ?_) (by rw [r2]; exact fun _ _ z => nomatch z)), r1, r2, r3, rest⟩, ⟨m, ob, b1, b2, nG, nP, hidT_get b3 (dClear b3 (by rw [b6]; exact fun z => nomatch z) (by rw [b6]; exact fun _ _ z => nomatch z)), b4, b5, b6⟩, fun z => ?_⟩
      · rw [r2] at z; cases z; simp at r3
      · rw [z, tabs p hp] at eg; cases eg; cases dg
    obtain ⟨mc, l1, l2⟩ := noL
    have env : Env0 P w K mg (hidT st.heap H) callerA [] st H :=
      ⟨rfl, ⟨inB, names gl, ⟨mb, names bl, boot⟩, ⟨mc, names l1, l2⟩⟩, fun b u e => of_hidT e, Nat.le_of_eq (hidT_size _ _), trivial, (fun b z => nomatch z), ok, .of_eq gens⟩
    refine codeAny_mono ((F _ inB (names gl) TB).goes callerA [] st H ⟨[.ref a], []⟩ [.ref a] [.ref a] _ _ rm rfl env (bnd st (.ref a)) (.cons rfl .nil) (asked H (fun p hp => ht _ ⟨p, hp, rfl⟩) sq)) fun res st' got => ?_
    cases res with
    | error e => exact (never H e st' got).elim
    | ok flow =>
      cases flow with
      | next => exact got.elim
      | brk => exact got.elim
      | cont => exact got.elim
      | ret u =>
        obtain ⟨v, H', os, bare, un, ok', rv, now⟩ := got
        obtain rfl : v = V.bl true := now
        obtain rfl : u = Value.bool true := rv
        have stay : ∀ b o, ¬ tb b → st.heap.get? b = some o → st'.heap.get? b = some o := fun b o nb e => by
          rcases trk b with h | h | ⟨_, _, ob, xs, h⟩
          · exact un.keep b o e h (fun z => by cases z) (by simp)
          · exact absurd h nb
          · obtain ⟨f1, _⟩ := ok b _ h
            obtain ⟨f2, _⟩ := ok' b _ (un.frzs b ob _ h)
            rw [e] at f1
            cases f1
            exact f2
        have grown : ∀ p ∈ cs, ∃ more : Array Value, st'.heap.get? p.2 = some { cls := .none, data := .fields more } := fun p hp => by
          obtain ⟨more, z⟩ := un.tbls p.2 #[] (ht _ ⟨p, hp, rfl⟩)
          exact ⟨_, ok' p.2 _ z⟩
        refine ⟨rfl, ⟨fun b o e => ?_, fun b o e => ?_⟩, os, bare⟩
        · by_cases h : tb b
          · obtain ⟨p, hp, rfl⟩ := h
            obtain ⟨more, g⟩ := grown p hp
            rw [tabs p hp] at e
            cases e
            exact .inr (.inl ⟨((codes p hp).tab (tabs p hp)).isCodeTable, rfl, #[], more, rfl, by rw [Array.empty_append]; exact g⟩)
          · exact .inl (stay b o h e)
        · by_cases h : tb b
          · obtain ⟨p, hp, rfl⟩ := h
            obtain ⟨more, g⟩ := grown p hp
            exact ⟨_, g⟩
          · exact ⟨o, stay b o h e⟩
  cases hk : K.lookup a with
  | some u =>
    have e := inK a u hk
    rw [obj] at e
    cases e
    refine main (fun b => if tb b then some (.tbl #[]) else none) (fun b h => if_pos h) (fun b => ?_) (.inr ⟨_, us.toArray, _, hk, rfl, rfl, rfl, by rw [List.size_toArray, many]; exact short, by simpa using rel⟩) fun b z k => ?_
    · by_cases h : tb b
      · exact .inr (.inl h)
      · exact .inl (if_neg h)
    · by_cases h : tb b
      · have k2 := (if_pos h).symm.trans k
        cases k2
        exact tObj h
      · have k2 := (if_neg h).symm.trans k
        cases k2
  | none =>
    refine main (fun b => if b = a then some (.frz { cls := .type "list", data := .seq us.toArray } (.lst (ns.map V.int))) else if tb b then some (.tbl #[]) else none) (fun b h => (if_neg (fun (z : b = a) => aT (by rw [← z]; exact h))).trans (if_pos h)) (fun b => ?_) (.inl (.inr ⟨_, if_pos rfl⟩)) fun b z k => ?_
    · by_cases j : b = a
      · exact .inr (.inr ⟨j, hk, _, _, if_pos j⟩)
      · by_cases h : tb b
        · exact .inr (.inl h)
        · exact .inl ((if_neg j).trans (if_neg h))
    · by_cases j : b = a
      · have k2 := (if_pos j).symm.trans k
        cases k2
        subst j
        exact ⟨obj, by rw [List.length_map]; exact short, us, _, rel, obj⟩
      · have k1 := (if_neg j).symm.trans k
        by_cases h : tb b
        · have k2 := (if_pos h).symm.trans k1
          cases k2
          exact tObj h
        · have k2 := (if_neg h).symm.trans k1
          cases k2
/-- what is known of such a law's promise at the head's heap -/
def LawAtG (l : PySem.W.OpenLaw) (w : World) (K : PySem.W.Frag) (CX : CXT) (lv n : Nat) (x : Str) (mg : Str → Option Value) (fn : Addr) (h : Heap) : Prop :=
  ∃ (dat : FuncData) (cs : List (Addr × Addr)) (sp : Sp), (∀ p ∈ cs, h.get? p.2 = some { cls := .none, data := .fields #[] }) ∧ (∀ p ∈ cs, K.lookup p.2 = none) ∧ (∀ p ∈ cs, PySem.W.CodeHd h p.1 p.2) ∧ (∀ (z : Shared) (u : Value), BindsTo z dat ⟨[u], []⟩ [(x, u)]) ∧
    (∀ (H : Hp) (a : Addr) (ns : List Int), ns.length ≤ n → (∀ z ∈ ns, Builtin.Int.intBits z ≤ 1048576) → (∀ p ∈ cs, H p.2 = some (.tbl #[])) → SqL K H a (ns.map V.int) → sp [.ref a] H (fun v _ => v = .bl true) fun _ _ _ => False) ∧
    ∀ bs : Heap, K.In bs → bs.Ns mainGlobals mg → (∀ p ∈ cs, LamX.TabB bs mg p.1 p.2) → FnG l.prog w K mg bs CX lv fn dat [x] sp
theorem walkGT {l : PySem.W.OpenLaw} {n k : Nat} {q : Program} {loose : List Str} {XP : (Str → Option Value) → Heap → Prop} {YP : World → Heap → Prop} {d : DefRec} {CX : World → CXT} {x : Str}
    (h1 : l.most = some n) (h2 : n ≤ sizeLine) (h3 : d.params.defaults = []) (rm : Room k callerA)
    (F : ∀ (w : World) (mg : Str → Option Value) (fn : Addr) (h : Heap), YP w h → h.Ns mainGlobals mg → mg d.name = some (.ref fn) → ∃ K : PySem.W.Frag, K.In h ∧ LawAtG l w K (CX w) k n x mg fn h)
    (h6 : ∀ (w : World) (H : Hp) (s : Shared) (e : Value) (s' : Shared), CX w [] H s (fun _ _ _ => False) e s' → False) :
    PySem.W.WalkO q loose XP YP l.row.toRowW d [] (fun f vs => PySem.call f vs) := by
  refine Att.attach_callB h1 h3 fun w s₀ s₁ mg mb fn o pm cd doc a us ns G Y ho hd hcd hmg hobj hints hlen hbits hg => ?_
  obtain ⟨K, inK, dat, cs, sp, t1, t2, t3, bnd, ask, got⟩ := F w mg fn _ Y G.T.g hmg
  exact endGT inK G.T.g G.T.b G.T.builtins G.T.nolimit hg G.T.bmain t1 t2 t3 hobj hints (Nat.le_trans hlen h2) rm got bnd (fun H t o => ask H a ns hlen hbits t o) fun H e s' => h6 w H s₁ e s'
/-! ### lists, two by two -/
inductive All2 {α β : Type} (R : α → β → Prop) : List α → List β → Prop
  | nil : All2 R [] []
  | cons {a b as bs} : R a b → All2 R as bs → All2 R (a :: as) (b :: bs)
theorem All2.imp {α β : Type} {R S : α → β → Prop} (h : ∀ a b, R a b → S a b) : ∀ {as bs}, All2 R as bs → All2 S as bs
  | _, _, .nil => .nil
  | _, _, .cons a b => .cons (h _ _ a) (All2.imp h b)
theorem All2.length {α β : Type} {R : α → β → Prop} : ∀ {as bs}, All2 R as bs → as.length = bs.length
  | _, _, .nil => rfl
  | _, _, .cons _ b => congrArg (· + 1) (All2.length b)
theorem All2.snoc {α β : Type} {R : α → β → Prop} {a b} (r : R a b) : ∀ {as bs}, All2 R as bs → All2 R (as ++ [a]) (bs ++ [b])
  | _, _, .nil => .cons r .nil
  | _, _, .cons h t => .cons h (All2.snoc r t)
theorem All2.get {α β : Type} {R : α → β → Prop} {as : List α} {bs : List β} (h : All2 R as bs) : ∀ {i : Nat} {b : β}, bs[i]? = some b → ∃ a, as[i]? = some a ∧ R a b := by
  induction h with
  | nil => intro i b e; cases e
  | cons r t ih =>
    intro i b e
    cases i with
    | zero => cases e; exact ⟨_, rfl, r⟩
    | succ i => exact ih e
theorem All2.getL {α β : Type} {R : α → β → Prop} {as : List α} {bs : List β} (h : All2 R as bs) : ∀ {i : Nat} {a : α}, as[i]? = some a → ∃ b, bs[i]? = some b ∧ R a b := by
  induction h with
  | nil => intro i b e; cases e
  | cons r t ih =>
    intro i b e
    cases i with
    | zero => cases e; exact ⟨_, rfl, r⟩
    | succ i => exact ih e
/-! ### tuples stay -/
def TK (H H' : Hp) : Prop := ∀ b xs, H b = some (.tup xs) → H' b = some (.tup xs)
theorem TK.refl {H : Hp} : TK H H := fun _ _ e => e
theorem TK.trans {H H1 H2 : Hp} (a : TK H H1) (b : TK H1 H2) : TK H H2 := fun x xs e => b x xs (a x xs e)
theorem TK.same {H H' : Hp} (s : Same H H') : TK H H' := fun x xs e => s _ _ e
theorem TK.new {H : Hp} {p : Addr} {o : HO} (n : H p = none) : TK H (upd H p o) := fun x xs e => same_new n _ _ e
theorem TK.lst {H : Hp} {p : Addr} {xs ys : List V} (h : H p = some (.lst xs)) : TK H (upd H p (.lst ys)) := fun x zs e => by
  rw [upd_ne (ne_of e h (by intro z; cases z))]
  exact e
theorem TK.but {H H' : Hp} {f c : Addr} (F : Flow H f c) (b : But f H H') : TK H H' := fun x xs e => b _ _ e (F.tup e)
theorem same_none {H H' : Hp} {p : Addr} (s : Same H H') (n : H' p = none) : H p = none := by
  cases e : H p with
  | none => rfl
  | some o => rw [s _ _ e] at n; cases n
theorem But.none {f p : Addr} {H H' : Hp} (b : But f H H') (n : H' p = Option.none) (h : p ≠ f) : H p = Option.none := by
  cases e : H p with
  | none => rfl
  | some o => rw [b _ _ e h] at n; cases n
theorem But.of {f : Addr} {H H' : Hp} (s : Same H H') : But f H H' := fun _ _ e _ => s _ _ e
/-- a list that was not there is written: what was stays -/
theorem But.own {f p : Addr} {H H1 : Hp} {o : HO} (a : But f H H1) (h : H p = Option.none) : But f H (L2.upd H1 p o) := fun x u e n => by
  rw [upd_ne (ne_of_none e h)]
  exact a x u e n
theorem Same.own {p : Addr} {H H1 : Hp} {o : HO} (a : Same H H1) (h : H p = Option.none) : Same H (L2.upd H1 p o) := fun x u e => by
  rw [upd_ne (ne_of_none e h)]
  exact a x u e
/-! ### loops over any iterator -/
theorem for_it {J : It} {n : Nat} {g : TG} {tb : TS} {D : Ends} {σ : L2.St} {H : Hp} (Pv : Nat → L2.St → Hp → Prop) (h0 : Pv 0 σ H) (go : ∀ i σ H, i < n → Pv i σ H → J.go i H) (st : ∀ σ H, Pv n σ H → J.stop n H)
    (hs : ∀ i x σ H H', i < n → Pv i σ H → J.yld i H x H' → g x σ H' fun σ2 H2 => tb { D with nx := Pv (i + 1), ct := Pv (i + 1), bk := D.nx } σ2 H2) (hd : ∀ σ H, Pv n σ H → D.nx σ H) :
    ∃ W : Nat → Nat → L2.St → Hp → Prop, (∃ m, W 0 m σ H) ∧ ∀ i m σ H, W i m σ H →
      (J.stop i H ∧ D.nx σ H) ∨ (J.go i H ∧ ∃ N : L2.St → Hp → Prop, (∀ σ' H', N σ' H' → ∃ m', m' < m ∧ W (i + 1) m' σ' H') ∧ ∀ x H', J.yld i H x H' → g x σ H' fun σ2 H2 => tb { D with nx := N, ct := N, bk := D.nx } σ2 H2) := by
  refine ⟨fun i m σ H => i + m = n ∧ Pv i σ H, ⟨n, by omega, h0⟩, fun i m σ H ⟨e, p⟩ => ?_⟩
  by_cases k : i < n
  · exact .inr ⟨go i σ H k p, Pv (i + 1), fun σ' H' p' => ⟨m - 1, by omega, by omega, p'⟩, fun x H' y => hs i x σ H H' k p y⟩
  · have z : i = n := by omega
    subst z
    exact .inl ⟨st σ H p, hd σ H p⟩
theorem lc_it {J : It} {n : Nat} {g : TG} {tt : TT} {te : TE} {vs : List Nat} {σ : L2.St} {H1 : Hp} {D : Addr} {Qd : Hp → Prop} (Pv : Nat → Hp → Prop) (h0 : Pv 0 (upd H1 D (.lst []))) (go : ∀ i H, i < n → Pv i H → J.go i H) (st : ∀ H, Pv n H → J.stop n H)
    (hs : ∀ i x H H', i < n → Pv i H → J.yld i H x H' → g x (wipe σ vs) H' fun σ2 H2 => wipe σ2 vs = wipe σ vs ∧ tt σ2 H2 fun b H3 =>
      if b = true then te σ2 H3 fun y H4 => ∃ acc, H4 D = some (.lst acc) ∧ acc.length < sizeLine ∧ Pv (i + 1) (upd H4 D (.lst (acc ++ [y]))) else Pv (i + 1) H3) (hd : ∀ H, Pv n H → Qd H) :
    ∃ W : Nat → Nat → Hp → Prop, (∃ m, W 0 m (upd H1 D (.lst []))) ∧ ∀ i m H, W i m H →
      (J.stop i H ∧ Qd H) ∨ (J.go i H ∧ ∃ Nx : Hp → Prop, (∀ H', Nx H' → ∃ m', m' < m ∧ W (i + 1) m' H') ∧ ∀ x H', J.yld i H x H' → g x (wipe σ vs) H' fun σ2 H2 => wipe σ2 vs = wipe σ vs ∧ tt σ2 H2 fun b H3 =>
        if b = true then te σ2 H3 fun y H4 => ∃ acc, H4 D = some (.lst acc) ∧ acc.length < sizeLine ∧ Nx (upd H4 D (.lst (acc ++ [y]))) else Nx H3) := by
  refine ⟨fun i m H => i + m = n ∧ Pv i H, ⟨n, by omega, h0⟩, fun i m H ⟨e, p⟩ => ?_⟩
  by_cases k : i < n
  · exact .inr ⟨go i H k p, Pv (i + 1), fun H' p' => ⟨m - 1, by omega, by omega, p'⟩, fun x H' y => hs i x H H' k p y⟩
  · have z : i = n := by omega
    subst z
    exact .inl ⟨st H p, hd H p⟩
/-! ### tests -/
theorem if_str {x z : Str} {A B : Prop} (h1 : x = z → A) (h2 : x ≠ z → B) : if decide (V.str x = V.str z) = true then A else B :=
  if_bl (fun e => h1 (V.str.inj (of_decide_eq_true e))) (fun e => h2 (fun q => of_decide_eq_false e (congrArg V.str q)))
theorem inV_strs {x : Str} {zs : List Str} : inV (.str x) (zs.map V.str) = true ↔ x ∈ zs := by
  unfold inV
  induction zs with
  | nil => simp
  | cons z zs ih =>
    rw [List.map_cons, List.any_cons, Bool.or_eq_true, ih, List.mem_cons]
    constructor
    · rintro (h | h)
      · exact .inl (by simpa [eqV] using (show (z == x) = true from h) |> fun k => (eq_of_beq k).symm)
      · exact .inr h
    · rintro (h | h)
      · exact .inl (show (z == x) = true by rw [h]; exact beq_self_eq_true z)
      · exact .inr h
theorem if_in {x : Str} {zs : List Str} {A B : Prop} (h1 : x ∈ zs → A) (h2 : x ∉ zs → B) : if (if false = true then !inV (.str x) (zs.map V.str) else inV (.str x) (zs.map V.str)) = true then A else B := by
  have e : (if false = true then !inV (.str x) (zs.map V.str) else inV (.str x) (zs.map V.str)) = inV (.str x) (zs.map V.str) := if_neg Bool.false_ne_true
  rw [e]
  exact if_bl (fun c => h1 (inV_strs.mp c)) (fun c => h2 (fun k => by rw [inV_strs.mpr k] at c; cases c))
theorem same_seqT {K : PySem.W.Frag} {a : Addr} {H H1 : Hp} {xs : List V} (b : Same H H1) (h : SqT K H a xs) : SqT K H1 a xs := by
  rcases h with h | h
  · left
    rcases h with h | ⟨o, h⟩
    · exact .inl (b _ _ h)
    · exact .inr ⟨o, b _ _ h⟩
  · exact .inr h
theorem little {n : Nat} (h : n ≤ 1000) : n ≤ sizeLine := Nat.le_of_lt (small1000 h)
/-! ### xs[i] op= e -/
def rGetL (K : PySem.W.Frag) : V → V → Hp → VK → Prop := fun o i H Q => ∃ (p : Addr) (xs : List V) (j : Nat) (v : V), o = .ref p ∧ i = .int (j : Nat) ∧ SqL K H p xs ∧ xs[j]? = some v ∧ Q v H
theorem get_list {X : Cx} : PGet X (rGetL X.K) := by
  intro pins st σ H o i ov iv Q J ro ri asked
  obtain ⟨p, xs, j, v, rfl, rfl, hq, hj, now⟩ := asked
  cases ro
  obtain ⟨t, rfl⟩ := ri
  obtain ⟨its, r, pl, hz⟩ := J.list hq
  obtain ⟨u, eu, ru⟩ := r.get hj
  have n1 := (List.getElem?_eq_some_iff.mp hj).1
  have n2 := line63
  exact wpAny_getItem_list pl.isList (by omega) (by omega) (by simpa using eu) ⟨v, H, J, ru, now⟩
/-! ### the same rules, the written part named (so that they fit within comprehensions) -/
section
variable {X : Cx}
theorem ix_listK (K : PySem.W.Frag) (h : X.K = K) : IxR X (rIxL K) := by subst h; exact ix_list
theorem ix_tupK (K : PySem.W.Frag) (h : X.K = K) : IxR X (rIxT K) := by subst h; exact ix_tup
def rLenK (K : PySem.W.Frag) : List V → Hp → VK → Prop := fun xs H Q => ∃ (p : Addr) (ys : List V), xs = [.ref p] ∧ (SqL K H p ys ∨ SqT K H p ys) ∧ Q (.int (ys.length : Nat)) H
theorem call_len_seqK (K : PySem.W.Frag) (h : X.K = K) : CallR X (.builtin "len") (rLenK K) := by subst h; exact call_len_seq
def rListOfK (K : PySem.W.Frag) : List V → Hp → VK → Prop := fun xs H Q => ∃ (p : Addr) (ys : List V), xs = [.ref p] ∧ (SqL K H p ys ∨ SqT K H p ys) ∧ ∀ l, H l = none → Q (.ref l) (upd H l (.lst ys))
theorem call_list_ofK (K : PySem.W.Frag) (h : X.K = K) : CallR X (.type "list") (rListOfK K) := by subst h; exact call_list_of
def rTupOfK (K : PySem.W.Frag) : List V → Hp → VK → Prop := fun xs H Q => ∃ (p : Addr) (ys : List V), xs = [.ref p] ∧ ((SqL K H p ys ∧ ∀ l, H l = none → Q (.ref l) (upd H l (.tup ys))) ∨ (SqT K H p ys ∧ Q (.ref p) H))
theorem call_tuple_ofK (K : PySem.W.Frag) (h : X.K = K) : CallR X (.type "tuple") (rTupOfK K) := by subst h; exact call_tuple_of
theorem op_in_seqK (K : PySem.W.Frag) (h : X.K = K) : OpR X (compareOp .In) (rIn K false) := by subst h; exact op_in_seq
theorem op_notIn_seqK (K : PySem.W.Frag) (h : X.K = K) : OpR X (compareOp .NotIn) (rIn K true) := by subst h; exact op_notIn_seq
theorem sl_listK (K : PySem.W.Frag) (h : X.K = K) : SlR X (rSlL K) := by subst h; exact sl_list
theorem sl_tupAK (K : PySem.W.Frag) (h : X.K = K) : SlR X (rSlA K) := by subst h; exact sl_tupA
theorem op_eqDK (K : PySem.W.Frag) (h : X.K = K) (hu : X.A.units + 64 < cLine) : OpR X (compareOp .Eq) (rEqD K) := by subst h; exact op_eqD hu
theorem op_neDK (K : PySem.W.Frag) (h : X.K = K) (hu : X.A.units + 64 < cLine) : OpR X (compareOp .NotEq) (rNeD K) := by subst h; exact op_neD hu
theorem call_isiKK (K : PySem.W.Frag) (h : X.K = K) : CallR X (.builtin "isinstance") (rIsi K) := by subst h; exact call_isi
theorem cr_allK (K : PySem.W.Frag) (h : X.K = K) (hc : X.calm = true) : CallR X (.builtin "all") (rAll K) := by subst h; exact cr_all hc
theorem cr_anyK (K : PySem.W.Frag) (h : X.K = K) (hc : X.calm = true) : CallR X (.builtin "any") (rAny K) := by subst h; exact cr_any hc
theorem cr_minKK (K : PySem.W.Frag) (h : X.K = K) (hc : X.calm = true) : CallR X (.builtin "min") (rMin K) := by subst h; exact cr_min hc
theorem cr_maxKK (K : PySem.W.Frag) (h : X.K = K) (hc : X.calm = true) : CallR X (.builtin "max") (rMax K) := by subst h; exact cr_max hc
def tTruK (K : PySem.W.Frag) (ta : TE) : TT := fun σ H Q => ta σ H fun x H' => ∃ k, TruV K x H' k ∧ Q k H'
theorem pt_truthK (K : PySem.W.Frag) (h : X.K = K) {a : Expr} {ta : TE} (ha : PE X a ta) (he : ∀ whole, isTrue a X.env whole = (do let v ← whole; standAt a.pos; holding [v] (truthy v))) : PT X a (tTruK K ta) := by subst h; exact pt_truth ha he
theorem get_listK (K : PySem.W.Frag) (h : X.K = K) : PGet X (rGetL K) := by subst h; exact get_list
theorem pg_tupK (K : PySem.W.Frag) (h : X.K = K) {es : List Expr} {k n : Nat} {t : TGs} {pos : Pos} (hc : X.calm = true) (g : PGs X es t)
    (hn : (assignEach es X.env).length = n := by rfl) (hst : (assignEach es X.env).findIdx? (·.1) = none := by rfl) : PG X (.Tuple es k pos) (gTup K n t) := by subst h; exact pg_tup hc g hn hst
theorem pg_unlK (K : PySem.W.Frag) (h : X.K = K) {es : List Expr} {k n : Nat} {t : TGs} {pos : Pos} (hc : X.calm = true) (g : PGs X es t)
    (hn : (assignEach es X.env).length = n := by rfl) (hst : (assignEach es X.env).findIdx? (·.1) = none := by rfl) : PG X (.Tuple es k pos) (gUnl K n t) := by subst h; exact pg_unl hc g hn hst
theorem pi_listK (K : PySem.W.Frag) (h : X.K = K) {tg e : Expr} {te : TE} (he : PE X e te) : PI X tg e (iList K te) := by subst h; exact pi_list he
theorem pi_tupK (K : PySem.W.Frag) (h : X.K = K) {tg e : Expr} {te : TE} (he : PE X e te) : PI X tg e (iTup K te) := by subst h; exact pi_tup he
theorem pe_revLK (K : PySem.W.Frag) (h : X.K = K) {e : Expr} {te : TE} {k : Nat} {p1 p2 p3 pos : Pos} (he : PE X e te) : PE X (.Subscript e (.Slice none none (some (.UnaryOp .USub (.Constant (.int 1) k p1) p2)) p3) pos) (tRevL K te) := by subst h; exact pe_revL he
theorem pe_bmK (K : PySem.W.Frag) (h : X.K = K) {o e : Expr} {es : List Expr} {to : TE} {t : TA} {name : Str} {apos cpos : Pos} {T id : String} {r : V → List V → Hp → VK → Prop}
    (pa : PlainAttrs T) (slot : Slot T name id) (hty : typeOf (.builtin id) = pure (.type "method_descriptor")) (hm : MtR X id r) (ho : PE X o to) (ha : PA X (e :: es) t)
    (n1 : attributeBase o name X.env (eval o X.env) = eval o X.env := by rfl)
    (n2 : ((backTo cpos (starEach (e :: es) X.env)).all (fun x => !x.1) && (backToKw cpos (keywordEach [] X.env)).all (fun x => x.1.isSome) && decide ((e :: es).length + ([] : List Keyword).length + (if ([] : List Keyword).isEmpty then 0 else 1) < 30)) = true := by rfl)
    (n3 : (apos.endLine == cpos.line) = true := by rfl) (n4 : starEach (e :: es) X.env = (false, eval e X.env) :: starEach es X.env := by rfl) (n5 : (backTo cpos (starEach es X.env)).any (·.1) = false := by rfl) :
    PE X (.Call (.Attribute o name apos) (e :: es) [] cpos) (tBM K T r to t) := by subst h; exact pe_bm pa slot hty hm ho ha n1 n2 n3 n4 n5
theorem pe_bm0K (K : PySem.W.Frag) (h : X.K = K) {o : Expr} {to : TE} {name : Str} {apos cpos : Pos} {T id : String} {r : V → List V → Hp → VK → Prop}
    (pa : PlainAttrs T) (slot : Slot T name id) (hty : typeOf (.builtin id) = pure (.type "method_descriptor")) (hm : MtR X id r) (ho : PE X o to)
    (n1 : attributeBase o name X.env (eval o X.env) = eval o X.env := by rfl) (n3 : (apos.endLine == cpos.line) = true := by rfl) : PE X (.Call (.Attribute o name apos) [] [] cpos) (tBM0 K T r to) := by subst h; exact pe_bm0 pa slot hty hm ho n1 n3
theorem op_catAK (K : PySem.W.Frag) (h : X.K = K) : OpR X (binaryOp .Add) (rCatA K) := by subst h; exact op_catA
theorem call_isiTK (K : PySem.W.Frag) (h : X.K = K) : CallR X (.builtin "isinstance") (rIsiT K) := by subst h; exact call_isiT
theorem pi_zipAK (K : PySem.W.Frag) (h : X.K = K) {e e2 : Expr} {ta : TA} {p pos tpos : Pos} {elts : List Expr} {kk : Nat} (hg : Gl X "zip") (hm : X.mg "zip" = none) (ha : PA X [e, e2] ta)
    (hs : starEach [e, e2] X.env = (false, eval e X.env) :: starEach [e2] X.env := by rfl) (hpl : (backTo pos (starEach [e2] X.env)).any (·.1) = false := by rfl) :
    PI X (.Tuple elts kk tpos) (.Call (.Name "zip" p) [e, e2] [] pos) (RZ.iZipA K ta) := by subst h; exact RZ.pi_zipA hg hm ha hs hpl
theorem pi_or {tg e : Expr} {t1 t2 : TI} (h1 : PI X tg e t1) (h2 : PI X tg e t2) : PI X tg e (fun σ H R => t1 σ H R ∨ t2 σ H R) := ⟨fun pins s σ H R I h => h.elim (h1.run pins s σ H R I) (h2.run pins s σ H R I)⟩
theorem pe_fldK (K : PySem.W.Frag) (h : X.K = K) {e : Expr} {ta : TE} {f : Str} {pos : Pos} (he : PE X e ta) (hb : attributeBase e f X.env (eval e X.env) = eval e X.env) : PE X (.Attribute e f pos) (tFld K ta f) := by subst h; exact pe_fld he hb
theorem ps_fldK (K : PySem.W.Frag) (h : X.K = K) {o value : Expr} {ta tv : TE} {f : Str} {pos pos' : Pos} (ha : PE X o ta) (hv : PE X value tv) (hs : swapsWith value (some (.Attribute o f pos')) pos.line X.env = pure false) : PS X (.Assign [.Attribute o f pos'] value pos) (sFld K ta tv f) := by subst h; exact ps_fld ha hv hs
theorem ps_fldaugK (K : PySem.W.Frag) (h : X.K = K) {o value : Expr} {ta tv : TE} {f : Str} {pos tpos : Pos} {op : Operator} {rd : V → V → Hp → VK → Prop} (ha : PE X o ta) (hv : PE X value tv) (hop : InOp X op rd) : PS X (.AugAssign (.Attribute o f tpos) op value pos) (sFldAug K ta tv rd f) := by subst h; exact ps_fldaug ha hv hop
end
section
variable {X : Cx}
theorem cr_sumK (K : PySem.W.Frag) (h : X.K = K) (hc : X.calm = true) : CallR X (.builtin "sum") (rSum K) := by subst h; exact cr_sum hc
end
section
variable {X : Cx}
theorem op_ltTK (K : PySem.W.Frag) (h : X.K = K) (hu : X.A.units < cLine) : OpR X (compareOp .Lt) (rLtT K) := by subst h; exact op_ltT hu
end
section
variable {X : Cx}
theorem cr_sortedRevK (K : PySem.W.Frag) (h : X.K = K) {b : Bool} : CallRK X (.builtin "sorted") [Str.ofString "reverse"] (rSortedKw K b [.bl b]) := by subst h; exact cr_sortedRev
theorem op_inDK (K : PySem.W.Frag) (h : X.K = K) (hu : X.A.units + 65 < cLine) : OpR X (compareOp .In) (rInD K) := by subst h; exact op_inD hu
end
theorem hu65 {A : Around} {k : Nat} (hr : Room k A) : A.units + 65 < cLine := by have := hr.un; omega
section
variable {X : Cx}
/-- x not in t, t a tuple of data of any depth -/
def rNotInDT (K : PySem.W.Frag) : R2 := fun x y H Q => ∃ d ds, Dp K H x d ∧ Dp K H y (.tuple ds) ∧ SeqAt.shaped d = true ∧ SeqAt.shaped (.tuple ds) = true ∧ Q (.bl (!ds.any fun z => PyData.eqv z d)) H
theorem op_notInDTK (K : PySem.W.Frag) (same : X.K = K) (room : X.A.units + 65 < cLine) : OpR X (compareOp .NotIn) (rNotInDT K) := by
  subst same
  intro pins st σ H one many ov mv Q J ro rm asked
  have ⟨d, ds, dpO, dpM, shO, shM, done⟩ := asked
  have ⟨_, readO⟩ := Dp.reads J d one ov dpO ro
  have ⟨_, readM⟩ := Dp.reads J (.tuple ds) many mv dpM rm
  exact SeqAt.notIn_tuple_reads readM readO (SeqAt.canLay_of_shaped shM) (SeqAt.canLay_of_shaped shO) (room_in_shaped shO room) ⟨.bl _, H, J, rfl, done⟩
end
section
variable {X : Cx}
/-- x in t, t a tuple of data of any depth -/
def rInDT (K : PySem.W.Frag) : R2 := fun x y H Q => ∃ d ds, Dp K H x d ∧ Dp K H y (.tuple ds) ∧ SeqAt.shaped d = true ∧ SeqAt.shaped (.tuple ds) = true ∧ Q (.bl (ds.any fun z => PyData.eqv z d)) H
theorem op_inDTK (K : PySem.W.Frag) (same : X.K = K) (room : X.A.units + 65 < cLine) : OpR X (compareOp .In) (rInDT K) := by
  subst same
  intro pins st σ H one many ov mv Q J ro rm asked
  have ⟨d, ds, dpO, dpM, shO, shM, done⟩ := asked
  have ⟨_, readO⟩ := Dp.reads J d one ov dpO ro
  have ⟨_, readM⟩ := Dp.reads J (.tuple ds) many mv dpM rm
  exact SeqAt.in_tuple_reads readM readO (SeqAt.canLay_of_shaped shM) (SeqAt.canLay_of_shaped shO) (room_in_shaped shO room) ⟨.bl _, H, J, rfl, done⟩
end
section
variable {X : Cx}
def rReprG (K : PySem.W.Frag) : List V → Hp → VK → Prop := fun xs H Q => ∃ (x : V) (d : PyData), xs = [x] ∧ Dp K H x d ∧ d.showable = true ∧ d.hasDict = false ∧ d.depth ≤ 60 ∧ d.shown.length ≤ sizeLine ∧ Q (.str d.shown) H
theorem call_reprG (K : PySem.W.Frag) (hk : X.K = K) (gd : X.A.guards = some []) (un : X.A.units + 64 < cLine) : CallR X (.builtin "repr") (rReprG K) := by
  subst hk
  intro pins st σ H xs us Q J rel asked
  obtain ⟨x, d, rfl, hd, h1, h2, h3, h4, now⟩ := asked
  obtain ⟨u, rfl, ru⟩ := vals1 rel
  cases hd with
  | non =>
    obtain rfl : u = Value.none := ru
    exact PySem.P.repr_of_none ⟨.str _, H, J.tok _, ⟨_, rfl⟩, now⟩
  | bl b =>
    obtain rfl : u = Value.bool b := ru
    refine PySem.P.repr_of_bool ⟨.str (PyData.bool b).shown, H, J.tok _, ⟨st.toks, ?_⟩, now⟩
    cases b <;> rfl
  | int i =>
    obtain ⟨t, rfl⟩ := ru
    refine PySem.P.repr_of_int (by simpa [PyData.showable] using h1) ⟨.str (PyData.int i).shown, H, J.tok _, ⟨st.toks, ?_⟩, now⟩
    first | rfl | (simp only [PyData.shown]; rfl)
  | str z =>
    obtain ⟨t, rfl⟩ := ru
    refine PySem.P.repr_of_str ⟨.str (PyData.str z).shown, H, J.tok _, ⟨st.toks, ?_⟩, now⟩ (by simpa only [PyData.shown] using h4)
    first | rfl | (simp only [PyData.shown])
  | lst a b =>
    obtain rfl : u = Value.ref _ := ru
    obtain ⟨as, rd⟩ := Dp.reads J _ _ _ (.lst a b) rfl
    exact repr_of_reads' rd h1 (PyData.noDict_hsm h2) gd (by omega) (fun _ _ e => e) (fun h' u tk kp => ⟨.str _, H, J.kept (t' := tk) kp, ⟨_, rfl⟩, now⟩) h4
  | tup a b =>
    obtain rfl : u = Value.ref _ := ru
    obtain ⟨as, rd⟩ := Dp.reads J _ _ _ (.tup a b) rfl
    exact repr_of_reads' rd h1 (PyData.noDict_hsm h2) gd (by omega) (fun _ _ e => e) (fun h' u tk kp => ⟨.str _, H, J.kept (t' := tk) kp, ⟨_, rfl⟩, now⟩) h4
end
/-! ### for i, x in enumerate(t), t a tuple -/
section
open Sem (wp)
open AutoSeq1 (wpAny_loadPart')
theorem enum_of_tup (t : Addr) (its : Array Value) (n : Nat) (dct : Option Addr) (sl : Array (Option Value)) :
    Meets (Builtin.«enumerate.__new__» ⟨[.type "enumerate", .ref t], []⟩) (fun _ R st => st.heap.get? t = some { cls := .type "tuple", dict := dct, data := .seq its n, slots := sl } ∧
      R (.ok (.ret (.ref (st.heap.push { cls := .type "tuple_iterator", data := .fields #[.ref t, .int 0 0] }).objs.size)))
        { st with heap := (st.heap.push { cls := .type "tuple_iterator", data := .fields #[.ref t, .int 0 0] }).push { cls := .type "enumerate", data := .fields #[.none, .bool false, .ref st.heap.objs.size, rawInt 0, .none, .none] } }) :=
  .of_wp fun prog w A R st asked => by
    obtain ⟨hp, g, d, tk, os⟩ := st; obtain ⟨at_, asked⟩ := asked
    have sub := sub_enumerate
    have hT : Heap.IsTuple (Shared.heap ⟨hp, g, d, tk, os⟩) t its := ⟨_, at_, rfl, n, rfl⟩
    wp_walk using wpAny_loadPart' at_
    refine wpAny_stack_any fun stk => wpAny_pure ?_
    split
    · rename_i c _ _ _ _ _
      cases (c == Value.type "enumerate")
      · wp_walk using wpAny_loadPart' at_, wpAny_pyIter_tuple hT
        exact ⟨_, rfl, asked⟩
      · wp_walk using wpAny_loadPart' at_, wpAny_pyIter_tuple hT
        exact ⟨_, rfl, asked⟩
    · wp_walk using wpAny_loadPart' at_, wpAny_pyIter_tuple hT
      exact ⟨_, rfl, asked⟩
theorem call_enum_tup {prog : Program} {w : World} {A : Around} {E : Value → Shared → Prop} {st : Shared} {t : Addr} {its : Array Value} {Q : Value → Shared → Prop} (hT : st.heap.IsTuple t its)
    (now : ∀ h', IsEnum h' (st.heap.objs.size + 1) st.heap.objs.size 0 .none → h'.IsTupleIter st.heap.objs.size t 0 → h'.objs.size = st.heap.objs.size + 2 →
      (∀ b o, st.heap.get? b = some o → h'.get? b = some o) → Q (.ref (st.heap.objs.size + 1)) { st with heap := h' }) :
    wpAny (model prog w) A (call (.type "enumerate") [.ref t]) Q E st := by
  obtain ⟨⟨c, dct, dt, sl⟩, at_, hc, n, hd⟩ := hT
  replace hc : c = .type "tuple" := hc
  replace hd : dt = .seq its n := hd
  subst hc hd
  refine callType_new F.called_enumerate (by decide) (F.typeCall_enumerate_1 _) (F.newCall_enumerate_1 _) (fun obj => F.args_object_init_2 obj _) F.entry_enumerate_new (enum_of_tup t its n dct sl) ⟨at_, ?_⟩
  have size1 : (st.heap.push { cls := .type "tuple_iterator", data := .fields #[.ref t, .int 0 0] }).objs.size = st.heap.objs.size + 1 := Heap.size_push ..
  show _ ∧ _
  rw [size1]
  have made := Heap.get?_push_size (st.heap.push { cls := .type "tuple_iterator", data := .fields #[.ref t, .int 0 0] }) (o := { cls := .type "enumerate", data := .fields #[.none, .bool false, .ref st.heap.objs.size, rawInt 0, .none, .none] }) rfl
  rw [size1] at made
  exact ⟨⟨_, made, rfl⟩, now _ made ⟨_, Heap.get?_push_of_some _ (Heap.get?_push_size _ rfl), rfl, rfl⟩ (by rw [Heap.size_push, size1]) fun b o e => Heap.get?_push_of_some _ (Heap.get?_push_of_some _ e)⟩
end
/-- the tuple at a, each item in a new pair -/
def IteT (K : PySem.W.Frag) (a : Addr) (xs : List V) : It :=
  ⟨fun i H => SqT K H a xs ∧ i < xs.length, fun i H v H' => ∃ T x, v = .ref T ∧ H T = none ∧ H' = upd H T (.tup [.int (i : Nat), x]) ∧ xs[i]? = some x, fun i H => SqT K H a xs ∧ i = xs.length⟩
theorem turn_enumT {P : Program} {w : World} {K : PySem.W.Frag} {elts : List Expr} {kk : Nat} {tpos : Pos} (a e it : Addr) (xs : List V) :
    Turn P w K (.Tuple elts kk tpos) (IteT K a xs) [e, it] e (fun i h => (∃ old, IsEnum h e it ((i : Nat) : Int) old) ∧ h.IsTupleIter it a i ∧ e ≠ it ∧ a ≠ it ∧ a ≠ e) where
  mem := by simp
  obj := fun i h st b hb => by
    obtain ⟨⟨old, he⟩, ⟨o, ho, hc, hd⟩, _⟩ := st
    have either : b = e ∨ b = it := by simpa using hb
    rcases either with z | z
    · rw [z]; exact ⟨_, he, fun v q => nomatch q⟩
    · rw [z]; exact ⟨o, ho, fun v q => by rw [hd] at q; cases q⟩
  keep := fun i h h' st k => let ⟨⟨old, he⟩, hi, apart⟩ := st; ⟨⟨old, k e (by simp) _ he⟩, hi.at fun o q => k it (by simp) o q, apart⟩
  item := by
    intro X hP hw hK hc i pins st σ H E J hf stt going
    subst hP hw hK
    obtain ⟨⟨old, he⟩, hit, n1, n2, n3⟩ := stt
    obtain ⟨hq, hi⟩ := going
    obtain ⟨its, rv, tup, hz⟩ := J.tuple hq
    have len := rv.length
    have el : e < st.heap.objs.size := Heap.lt_size he
    have il : it < st.heap.objs.size := by obtain ⟨_, q, _⟩ := hit; exact Heap.lt_size q
    have D := Draws.tuple (prog := X.prog) (w := X.w) (A := X.A.in1) (J.ok.hd hc) it a n2 its.toArray
    refine wpAny_pyNext_enum_itemD D he ⟨hit, tup⟩ (by rw [List.size_toArray]; omega) n1 (by simp [n1, n3.symm]) fun u h' tk px out stt' new size kp => ?_
    refine ⟨_, rfl, wpAny_letOwnedTupleGo_enum (s := { st with heap := h', toks := tk + 1 }) out fun h'' he' sb => ?_⟩
    obtain ⟨x, hx⟩ : ∃ x, xs[i]? = some x := ⟨_, List.getElem?_eq_getElem hi⟩
    obtain ⟨u', hu', ru⟩ := rv.get hx
    have eu : u' = u := by
      have px : its.toArray[i]? = some u := px
      rw [List.getElem?_toArray, hu'] at px
      exact Option.some.inj px
    subst eu
    have there : h''.get? st.heap.objs.size = some { cls := .type "tuple", data := .seq #[.int i tk, u'] } := (sb.2 _ (Nat.ne_of_gt el)).trans new
    have ok2 : ObjOk X.prog X.w (upd H st.heap.objs.size (.tup [.int (i : Nat), x])) h'' st.heap.objs.size (.tup [.int (i : Nat), x]) :=
      ⟨by show 2 ≤ sizeLine; decide, [.int i tk, u'], .cons ⟨_, rfl⟩ (.cons ru .nil), ⟨_, there, rfl, _, rfl⟩⟩
    have J1 : Inv X pins σ (upd H st.heap.objs.size (.tup [.int (i : Nat), x])) { st with heap := h'', toks := tk + 1 } :=
      J.turnedNew (ch := [e, it]) (fun b ob hb q => (sb.2 b (fun z => hb (by simp [z]))).trans (kp b ob (fun z => hb (by simp [z])) (fun z => hb (by simp [z])) q)) hf (Nat.le_refl _) ok2
    refine ⟨.ref st.heap.objs.size, _, J1, rfl, ⟨_, x, rfl, J.hok.fresh (Nat.le_refl _), rfl, hx⟩, ⟨⟨u', ?_⟩, stt'.1.at fun o q => (sb.2 it (Ne.symm n1)).trans q, n1, n2, n3⟩, fun b hb => ?_⟩
    · rw [show ((i + 1 : Nat) : Int) = (i : Int) + 1 by omega]
      exact he'
    · have bl : b < st.heap.objs.size := by
        have either : b = e ∨ b = it := by simpa using hb
        rcases either with z | z
        · rw [z]; exact el
        · rw [z]; exact il
      rw [upd_ne (Nat.ne_of_lt bl)]
      exact (hf b hb).1
  done := by
    intro X hP hw hK hc i pins st σ H E J hf stt over
    subst hP hw hK
    obtain ⟨⟨old, he⟩, hit, n1, n2, n3⟩ := stt
    obtain ⟨hq, hi⟩ := over
    obtain ⟨its, rv, tup, hz⟩ := J.tuple hq
    obtain ⟨f0, f1, f2, f3, f4, f5⟩ := hf it (by simp)
    have len := rv.length
    have D := Draws.tuple (prog := X.prog) (w := X.w) (A := X.A.in1) (J.ok.hd hc) it a n2 its.toArray
    have ei : its.toArray.size = i := by rw [List.size_toArray]; omega
    exact wpAny_pyNext_enum_endD D he ⟨by rw [ei]; exact hit, tup⟩ fun h' eb => ⟨rfl, J.turned (t' := st.toks) (fun b o hb q => eb b o hb q) f0 f1 f3 f4 f5⟩
  self := fun A i st Q E stt now => let ⟨⟨_, he⟩, _⟩ := stt; wpAny_pyIter_enum he now
def iEnumT (K : PySem.W.Frag) (ta : TA) : TI := fun σ H R => ta σ H fun vs H1 => ∃ a xs, vs = [.ref a] ∧ SqT K H1 a xs ∧ R (IteT K a xs) H1
theorem pi_enumT (K : PySem.W.Frag) {X : Cx} (hk : X.K = K) {e : Expr} {ta : TA} {p pos tpos : Pos} {elts : List Expr} {kk : Nat} (hg : Gl X "enumerate") (hm : X.mg "enumerate" = none) (ha : PA X [e] ta) (hs : starEach [e] X.env = [(false, eval e X.env)] := by rfl) :
    PI X (.Tuple elts kk tpos) (.Call (.Name "enumerate" p) [e] [] pos) (iEnumT K ta) := by
  subst hk
  refine ⟨fun pins st σ H R J asked => ?_⟩
  refine Call_ (ld_blt J hg hm boot_enumerate (PyProof.Rows.callWith_type1 (thn (ha.run pos pins st σ H _ J asked) fun us st1 ⟨vs, H1, J1, rel, now⟩ => ?_) hs rfl))
  obtain ⟨a, xs, ex, hq, now⟩ := now
  subst ex
  obtain ⟨u, rfl, ru⟩ := vals1 rel
  obtain rfl : u = Value.ref a := ru
  obtain ⟨its, rv, tup, hz⟩ := J1.tuple hq
  have al : a < st1.heap.objs.size := by obtain ⟨o, ho, _⟩ := tup; exact Heap.lt_size ho
  refine call_enum_tup tup fun h' he hit size kp => wpAny_pyIter_enum he ?_
  have J2 : Inv X pins σ H1 { st1 with heap := h' } := J1.kept (t' := st1.toks) kp
  refine ⟨st1.heap.objs.size + 1, [st1.heap.objs.size + 1, st1.heap.objs.size], _, _, H1, rfl, J2, turn_enumT a (st1.heap.objs.size + 1) st1.heap.objs.size xs, ⟨⟨.none, he⟩, hit, Nat.succ_ne_self _, Nat.ne_of_lt al, Nat.ne_of_lt (Nat.lt_succ_of_lt al)⟩, fun b hb => ?_, now⟩
  have either : b = st1.heap.objs.size + 1 ∨ b = st1.heap.objs.size := by simpa using hb
  have low : st1.heap.objs.size ≤ b := by
    rcases either with z | z
    · rw [z]; exact Nat.le_add_right _ _
    · rw [z]; exact Nat.le_refl _
  exact J1.fpOk low (J1.hok.fresh low)
theorem pi_enumK (K : PySem.W.Frag) (h : X.K = K) {e : Expr} {ta : TA} {p pos tpos : Pos} {elts : List Expr} {kk : Nat} (hg : Gl X "enumerate") (hm : X.mg "enumerate" = none) (ha : PA X [e] ta) (hs : starEach [e] X.env = [(false, eval e X.env)] := by rfl) :
    PI X (.Tuple elts kk tpos) (.Call (.Name "enumerate" p) [e] [] pos) (iEnum K ta) := by subst h; exact pi_enum hg hm ha hs
/-! ### dict(zip(xs, ys)), xs a list, ys a tuple -/
section
open Sem (wp)
variable {prog : Program} {w : World} {A : Around} {E : Value → Shared → Prop} {st : Shared} {z TI TO T i1 i2 : Addr} {fp1 fp2 : List Addr} {n1 n2 i : Nat} {P1 P2 : Nat → Value → Prop} {S1 S2 : Nat → Heap → Prop} {f : Bool} {oT : Obj}
theorem out_next (S : ZipSep2 z TI TO i1 i2 fp1 fp2) (D1 : Draws prog w A i1 fp1 n1 P1 S1) (D2 : Draws prog w A i2 fp2 n2 P2 S2) {Q : Value → Shared → Prop}
    (out : IsZipHeld st.heap z TI TO T f) (hT : st.heap.get? T = some oT) (both : IsTupOf2 st.heap TI (.ref i1) (.ref i2)) (at1 : S1 i st.heap) (at2 : S2 i st.heap) (l1 : i < n1) (l2 : i < n2)
    (now : ∀ x y h' tk, P1 i x → P2 i y → IsZipHeld h' z TI TO T true → S1 (i + 1) h' → S2 (i + 1) h' → IsTupOf2 h' st.heap.objs.size x y → (∀ c o, c ≠ z → c ≠ i1 → c ≠ i2 → st.heap.get? c = some o → h'.get? c = some o) → Q (.ref st.heap.objs.size) { st with heap := h', toks := tk }) :
    wpAny (model prog w) A (Builtin.«zip.__next__» ⟨[.ref z], []⟩) (fun fin s' => ∃ v, fin = .done (.ret v) ∧ Q v s') E st := by
  obtain ⟨hp, g, d, tk0, os⟩ := st
  show wpAny _ _ (field (.ref z) 2 >>= _) _ _ _; refine wpAny_bind (wpAny_field out rfl (x := .bool false) rfl ?_)
  show wpAny _ _ (field (.ref z) 3 >>= _) _ _ _; refine wpAny_bind (wpAny_field out rfl (x := .ref TI) rfl ?_)
  refine wpAny_bind (wpAny_seqItems both rfl ?_); show wpAny _ _ (Builtin.SmallTypes.ownedTupleIsFree (.ref z) >>= _) _ _ _
  refine wpAny_bind (wpAny_tupleHeld_zip out hT fun g1 out1 b1 => ?_)
  replace b1 : Heap.SameBut z hp g1 := b1
  simp only [Bool.false_eq_true, if_false]; refine wpAny_bind ?_; rw [← Array.forIn_toList]; simp only [List.forIn_cons, List.forIn_nil]
  refine wpAny_bind (wpAny_bind (wpAny_holding ?_)); show wpAny _ _ (Builtin.SmallTypes.nextOf (.ref i1) >>= _) _ _ ⟨g1, g, d, tk0, os⟩
  refine wpAny_bind (D1.item i _ _ _ l1 (D1.over at1 b1 S.zf1) fun x g2 tk1 px n1' b2 => wpAny_pure ?_)
  replace b2 : Heap.SameBut i1 g1 g2 := b2
  refine wpAny_pure ?_; refine wpAny_bind (wpAny_bind (wpAny_holding ?_)); show wpAny _ _ (Builtin.SmallTypes.nextOf (.ref i2) >>= _) _ _ ⟨g2, g, d, tk1, os⟩
  refine wpAny_bind (D2.item i _ _ _ l2 (D2.over (D2.over at2 b1 S.zf2) b2 S.sep1_2) fun y g3 tk2 py n2' b3 => wpAny_pure ?_)
  replace b3 : Heap.SameBut i2 g2 g3 := b3
  refine wpAny_pure (wpAny_pure ?_); show wpAny _ _ (newTuple [x, y] >>= _) _ _ ⟨g3, g, d, tk2, os⟩
  refine wpAny_bind (wpAny_newTuple ?_); refine wpAny_pure ⟨_, rfl, ?_⟩
  have size : g3.objs.size = hp.objs.size := by rw [b3.1, b2.1, b1.1]
  have out3 : IsZipHeld g3 z TI TO T true := b3.extBut _ _ S.zi2 (b2.extBut _ _ S.zi1 out1)
  have new : IsTupOf2 (g3.push { cls := .type "tuple", data := .seq #[x, y] }) g3.objs.size x y := Heap.get?_push_size _ rfl
  show Q (.ref g3.objs.size) _
  rw [size] at new ⊢
  exact now x y _ tk2 px py (Heap.get?_push_of_some _ out3) (D1.frame _ _ _ (D1.over n1' b3 S.sep2_1) fun _ _ _ q => Heap.get?_push_of_some _ q) (D2.frame _ _ _ n2' fun _ _ _ q => Heap.get?_push_of_some _ q) new
    fun c o c1 c2 c3 q => Heap.get?_push_of_some _ (b3.extBut _ _ c3 (b2.extBut _ _ c2 (b1.extBut _ _ c1 q)))
theorem out_end (S : ZipSep2 z TI TO i1 i2 fp1 fp2) (D1 : Draws prog w A i1 fp1 n1 P1 S1) (D2 : Draws prog w A i2 fp2 n2 P2 S2) {Q : Fin → Shared → Prop}
    (out : IsZipHeld st.heap z TI TO T f) (hT : st.heap.get? T = some oT) (both : IsTupOf2 st.heap TI (.ref i1) (.ref i2)) (at1 : S1 i st.heap) (at2 : S2 i st.heap) (l1 : i ≤ n1) (l2 : i ≤ n2) (last : i = n1 ∨ i = n2)
    (now : ∀ h' tk e, (∀ c o, c ≠ z → c ≠ i1 → c ≠ i2 → st.heap.get? c = some o → h'.get? c = some o) → (∃ o, h'.get? e = some o ∧ o.cls = .type "StopIteration") → E (.ref e) { st with heap := h', toks := tk }) :
    wpAny (model prog w) A (Builtin.«zip.__next__» ⟨[.ref z], []⟩) Q E st := by
  obtain ⟨hp, g, d, tk0, os⟩ := st
  show wpAny _ _ (field (.ref z) 2 >>= _) _ _ _; refine wpAny_bind (wpAny_field out rfl (x := .bool false) rfl ?_)
  show wpAny _ _ (field (.ref z) 3 >>= _) _ _ _; refine wpAny_bind (wpAny_field out rfl (x := .ref TI) rfl ?_)
  refine wpAny_bind (wpAny_seqItems both rfl ?_); show wpAny _ _ (Builtin.SmallTypes.ownedTupleIsFree (.ref z) >>= _) _ _ _
  refine wpAny_bind (wpAny_tupleHeld_zip out hT fun g1 out1 b1 => ?_)
  replace b1 : Heap.SameBut z hp g1 := b1
  simp only [Bool.false_eq_true, if_false]; refine wpAny_bind ?_; rw [← Array.forIn_toList]; simp only [List.forIn_cons, List.forIn_nil]
  refine wpAny_bind (wpAny_bind (wpAny_holding ?_)); show wpAny _ _ (Builtin.SmallTypes.nextOf (.ref i1) >>= _) _ _ ⟨g1, g, d, tk0, os⟩
  by_cases more : i < n1
  · refine wpAny_bind (D1.item i _ _ _ more (D1.over at1 b1 S.zf1) fun x g2 tk1 px n1' b2 => wpAny_pure ?_)
    replace b2 : Heap.SameBut i1 g1 g2 := b2
    refine wpAny_pure ?_; refine wpAny_bind (wpAny_bind (wpAny_holding ?_)); show wpAny _ _ (Builtin.SmallTypes.nextOf (.ref i2) >>= _) _ _ ⟨g2, g, d, tk1, os⟩
    have e2 : i = n2 := by omega
    subst e2
    refine wpAny_bind (D2.done _ _ _ (D2.over (D2.over at2 b1 S.zf2) b2 S.sep1_2) fun g3 e b3 he => ?_)
    exact now g3 tk1 e (fun c o c1 c2 c3 q => b3 _ _ c3 (b2.extBut _ _ c2 (b1.extBut _ _ c1 q))) he
  · have e1 : i = n1 := by omega
    subst e1
    refine wpAny_bind (D1.done _ _ _ (D1.over at1 b1 S.zf1) fun g3 e b3 he => ?_)
    exact now g3 tk0 e (fun c o c1 c2 c3 q => b3 _ _ c2 (b1.extBut _ _ c1 q)) he
theorem out_pyNext (S : ZipSep2 z TI TO i1 i2 fp1 fp2) (D1 : Draws prog w A.in1 i1 fp1 n1 P1 S1) (D2 : Draws prog w A.in1 i2 fp2 n2 P2 S2) {Q : Option Value → Shared → Prop}
    (out : IsZipHeld st.heap z TI TO T f) (hT : st.heap.get? T = some oT) (both : IsTupOf2 st.heap TI (.ref i1) (.ref i2)) (at1 : S1 i st.heap) (at2 : S2 i st.heap) (l1 : i < n1) (l2 : i < n2)
    (now : ∀ x y h' tk, P1 i x → P2 i y → IsZipHeld h' z TI TO T true → S1 (i + 1) h' → S2 (i + 1) h' → IsTupOf2 h' st.heap.objs.size x y → (∀ c o, c ≠ z → c ≠ i1 → c ≠ i2 → st.heap.get? c = some o → h'.get? c = some o) → Q (some (.ref st.heap.objs.size)) { st with heap := h', toks := tk }) :
    wpAny (model prog w) A (pyNext (.ref z)) Q E st := by
  have ty : st.TypeIs (.ref z) "zip" := ⟨_, out, rfl⟩
  unfold pyNext
  refine wpAny_bind (wpAny_attempt (wpAny_callSpecial?_slot (name := Str.ofString "__next__") ty F.slot_zip_next (wpAny_call_entry F.slot_zip_next ty F.entry_zip_next (out_next S D1 D2 out hT both at1 at2 l1 l2 ?_) (F.args_zip_next_1 _))))
  exact fun x y h' tk a b c d e g k => wpAny_pure (now x y h' tk a b c d e g k)
theorem out_pyNext_end (S : ZipSep2 z TI TO i1 i2 fp1 fp2) (D1 : Draws prog w A.in1 i1 fp1 n1 P1 S1) (D2 : Draws prog w A.in1 i2 fp2 n2 P2 S2) {Q : Option Value → Shared → Prop}
    (out : IsZipHeld st.heap z TI TO T f) (hT : st.heap.get? T = some oT) (both : IsTupOf2 st.heap TI (.ref i1) (.ref i2)) (at1 : S1 i st.heap) (at2 : S2 i st.heap) (l1 : i ≤ n1) (l2 : i ≤ n2) (last : i = n1 ∨ i = n2)
    (now : ∀ h' tk, (∀ c o, c ≠ z → c ≠ i1 → c ≠ i2 → st.heap.get? c = some o → h'.get? c = some o) → Q none { st with heap := h', toks := tk }) :
    wpAny (model prog w) A (pyNext (.ref z)) Q E st := by
  have ty : st.TypeIs (.ref z) "zip" := ⟨_, out, rfl⟩
  unfold pyNext
  refine wpAny_bind (wpAny_attempt (wpAny_callSpecial?_slot (name := Str.ofString "__next__") ty F.slot_zip_next (wpAny_call_entry F.slot_zip_next ty F.entry_zip_next (out_end S D1 D2 out hT both at1 at2 l1 l2 last ?_) (F.args_zip_next_1 _))))
  rintro h' tk e kp ⟨o, ho, hc⟩
  exact wpAny_bind (wpAny_isInstance (T := "StopIteration") (b := true) ⟨o, ho, hc⟩ isSubtype_stop (wpAny_pure (now _ _ kp)))
/-- the zip of the list l and the tuple t, begun -/
def ZipLT (h : Heap) (z TI TO i1 i2 l t : Addr) (xs ys : Array Value) (n : Nat) : Prop := IsTupOf2 h TI (.ref i1) (.ref i2) ∧ (h.IsListIter i1 l n ∧ h.IsList l xs) ∧ (h.IsTupleIter i2 t n ∧ h.IsTuple t ys)
theorem ZipLT.keep {h h' : Heap} {z TI TO i1 i2 l t : Addr} {xs ys : Array Value} {n : Nat} (q : ZipLT h z TI TO i1 i2 l t xs ys n) (k : ∀ b, b = TI ∨ b = i1 ∨ b = i2 ∨ b = l ∨ b = t → ∀ o, h.get? b = some o → h'.get? b = some o) : ZipLT h' z TI TO i1 i2 l t xs ys n :=
  ⟨k _ (.inl rfl) _ q.1, ⟨q.2.1.1.at fun o e => k _ (.inr (.inl rfl)) o e, q.2.1.2.at fun o e => k _ (.inr (.inr (.inr (.inl rfl)))) o e⟩, ⟨q.2.2.1.at fun o e => k _ (.inr (.inr (.inl rfl))) o e, q.2.2.2.at fun o e => k _ (.inr (.inr (.inr (.inr rfl)))) o e⟩⟩
theorem pairs_LT (z TI TO i1 i2 l t : Addr) (S : ZipSep2 z TI TO i1 i2 [i1, l] [i2, t]) (hl : l ≠ i1) (ht : t ≠ i2) (xs ys : Array Value) :
    PairArg prog w "zip" z [z, TI, TO, i1, i2, l, t] [z, TO, i1, i2] (min xs.size ys.size) (fun i k v => xs[i]? = some k ∧ ys[i]? = some v)
      (fun h => IsZip h z TI TO .none ∧ (∃ a b, IsTupOf2 h TO a b) ∧ ZipLT h z TI TO i1 i2 l t xs ys 0) where
  type := fun s ok => ⟨_, ok.1, rfl⟩
  notDict := by decide
  keep := fun h h' ok k => by
    obtain ⟨a1, ⟨a, b, a2⟩, a3⟩ := ok
    exact ⟨k _ _ a1, ⟨a, b, k _ _ a2⟩, a3.keep fun b _ o e => k b o e⟩
  there := fun h ok b hb => by
    obtain ⟨a1, ⟨a, c, a2⟩, a3, ⟨⟨o1, e1, _⟩, ⟨o2, e2, _⟩⟩, ⟨⟨o3, e3, _⟩, ⟨o4, e4, _⟩⟩⟩ := ok
    have either : b = z ∨ b = TI ∨ b = TO ∨ b = i1 ∨ b = i2 ∨ b = l ∨ b = t := by simpa using hb
    rcases either with q | q | q | q | q | q | q <;> subst q
    · exact ⟨_, a1⟩
    · exact ⟨_, a3⟩
    · exact ⟨_, a2⟩
    · exact ⟨_, e1⟩
    · exact ⟨_, e3⟩
    · exact ⟨_, e2⟩
    · exact ⟨_, e4⟩
  sub := fun b hb => by
    have either : b = z ∨ b = TO ∨ b = i1 ∨ b = i2 := by simpa using hb
    rcases either with q | q | q | q <;> subst q <;> simp
  noKeys := fun A s Q E hA ok now => getAttrOr_miss_zip ok.1 rfl rfl rfl zip_no_keys (by decide +kernel) hA now
  iter := fun A s d Q E hA ok dlt dfar now => by
    obtain ⟨a1, ⟨a, b, a2⟩, a3⟩ := ok
    have far : d ≠ z ∧ d ≠ TI ∧ d ≠ TO ∧ d ≠ i1 ∧ d ≠ i2 ∧ d ≠ l ∧ d ≠ t := by simpa using dfar
    obtain ⟨d1, d2, d3, d4, d5, d6, d7⟩ := far
    have D1 := Draws.list (prog := prog) (w := w) (A := A.in1) hA i1 l hl xs
    have D2 := Draws.tuple (prog := prog) (w := w) (A := A.in1) hA i2 t ht ys
    refine wpAny_pyIter_zip a1 (now z [z, TO, i1, i2] (fun n h => ZipLT h z TI TO i1 i2 l t xs ys n ∧ ((IsZip h z TI TO .none ∧ ∃ a b, IsTupOf2 h TO a b) ∨ ∃ T f oT, IsZipHeld h z TI TO T f ∧ h.get? T = some oT ∧ T ≠ z ∧ T ≠ i1 ∧ T ≠ i2 ∧ T ≠ d)) s.heap s.toks ?_ ⟨a3, .inl ⟨a1, a, b, a2⟩⟩ (fun _ _ e => e) fun b hb => .inl hb)
    refine ⟨fun hm => ?_, fun n h h' q k => ?_, fun n s1 Q1 E1 hn q dl now1 => ?_, fun s1 Q1 E1 q now1 => ?_⟩
    · have either : d = z ∨ d = TO ∨ d = i1 ∨ d = i2 := by simpa using hm
      rcases either with q | q | q | q
      · exact d1 q
      · exact d3 q
      · exact d4 q
      · exact d5 q
    · refine ⟨q.1.keep fun b hb o e => k b o (fun y => ?_) e, ?_⟩
      · rcases hb with q | q | q | q | q <;> rw [q] at y
        · exact d2 y.symm
        · exact d4 y.symm
        · exact d5 y.symm
        · exact d6 y.symm
        · exact d7 y.symm
      · rcases q.2 with ⟨q1, a, b, q2⟩ | ⟨T, f, oT, q1, q2, r1, r2, r3, r4⟩
        · exact .inl ⟨k _ _ (Ne.symm d1) q1, a, b, k _ _ (Ne.symm d3) q2⟩
        · exact .inr ⟨T, f, oT, k _ _ (Ne.symm d1) q1, k _ _ r4 q2, r1, r2, r3, r4⟩
    · obtain ⟨⟨both, at1, at2⟩, q⟩ := q
      have m1 : n < xs.size := Nat.lt_of_lt_of_le hn (Nat.min_le_left ..)
      have m2 : n < ys.size := Nat.lt_of_lt_of_le hn (Nat.min_le_right ..)
      have lt : ∀ {c o}, s1.heap.get? c = some o → s1.heap.objs.size ≠ c := fun e => Nat.ne_of_gt (Heap.lt_size e)
      have j1 : s1.heap.objs.size ≠ i1 := let ⟨_, e⟩ := D1.live _ _ at1; lt e
      have j2 : s1.heap.objs.size ≠ i2 := let ⟨_, e⟩ := D2.live _ _ at2; lt e
      rcases q with ⟨q1, a, b, q2⟩ | ⟨T, f, oT, q1, q2, r1, r2, r3, r4⟩
      · refine wpAny_pyNext_zipD2_item S D1 D2 q1 both q2 at1 at2 m1 m2 fun x y h' tk px py b1 b2 b3 b4 b5 b6 k => ?_
        exact now1 s1.heap.objs.size x y h' tk ⟨px, py⟩ (.inl ⟨_, b5, rfl, _, rfl⟩) ⟨⟨k _ _ S.TIz S.TITO S.TIi1 S.TIi2 both, b3, b4⟩, .inr ⟨_, false, _, b1, b5, lt q1, j1, j2, Nat.ne_of_gt dl⟩⟩
          fun c o hc e => k c o (fun y => hc (by simp [y])) (fun y => hc (by simp [y])) (fun y => hc (by simp [y])) (fun y => hc (by simp [y])) e
      · refine out_pyNext S D1 D2 q1 q2 both at1 at2 m1 m2 fun x y h' tk px py b1 b3 b4 b5 k => ?_
        exact now1 s1.heap.objs.size x y h' tk ⟨px, py⟩ (.inl ⟨_, b5, rfl, _, rfl⟩) ⟨⟨k _ _ S.TIz S.TIi1 S.TIi2 both, b3, b4⟩, .inr ⟨T, true, oT, b1, k _ _ r1 r2 r3 q2, r1, r2, r3, r4⟩⟩
          fun c o hc e => k c o (fun y => hc (by simp [y])) (fun y => hc (by simp [y])) (fun y => hc (by simp [y])) e
    · obtain ⟨⟨both, at1, at2⟩, q⟩ := q
      rcases q with ⟨q1, a, b, q2⟩ | ⟨T, f, oT, q1, q2, r1, r2, r3, r4⟩
      · exact wpAny_pyNext_zipD2_end S D1 D2 q1 both q2 at1 at2 (Nat.min_le_left ..) (Nat.min_le_right ..) (by omega) fun h' tk k => now1 h' tk fun c o hc e => k c o (fun y => hc (by simp [y])) (fun y => hc (by simp [y])) (fun y => hc (by simp [y])) (fun y => hc (by simp [y])) e
      · exact out_pyNext_end S D1 D2 q1 q2 both at1 at2 (Nat.min_le_left ..) (Nat.min_le_right ..) (by omega) fun h' tk k => now1 h' tk fun c o hc e => k c o (fun y => hc (by simp [y])) (fun y => hc (by simp [y])) (fun y => hc (by simp [y])) e
end
/-- dict(zip(e1, e2)): keys from a list, values from a tuple -/
def eDictZip (K : PySem.W.Frag) (ta : TA) : TE := fun σ H Q => ta σ H fun vs H1 => ∃ (a b : Addr) (ks : List Key) (xs : List V), vs = [.ref a, .ref b] ∧ SqL K H1 a (ks.map kV) ∧ SqT K H1 b xs ∧ ∀ p, H1 p = none → Q (.ref p) (upd H1 p (.dK (mergeK [] (ks.zip xs))))
theorem pe_dictZip (K : PySem.W.Frag) {X : Cx} (hk : X.K = K) (hcalm : X.calm = true) {e e2 : Expr} {ta : TA} {p p2 pos pos2 : Pos} (hd : Gl X "dict") (md : X.mg "dict" = none) (hg : Gl X "zip") (hm : X.mg "zip" = none) (ha : PA X [e, e2] ta)
    (hs : starEach [e, e2] X.env = (false, eval e X.env) :: starEach [e2] X.env := by rfl) (hpl : (backTo pos2 (starEach [e2] X.env)).any (·.1) = false := by rfl)
    (hs1 : starEach [.Call (.Name "zip" p2) [e, e2] [] pos2] X.env = [(false, eval (.Call (.Name "zip" p2) [e, e2] [] pos2) X.env)] := by rfl) :
    PE X (.Call (.Name "dict" p) [.Call (.Name "zip" p2) [e, e2] [] pos2] [] pos) (eDictZip K ta) := by
  subst hk
  refine ⟨fun pins st σ H Q J asked => ?_⟩
  refine Call_ (ld_blt J hd md boot_dict (PyProof.Rows.callWith_type1 (args_cons (Call_ (ld_blt J hg hm boot_zip (PyProof.Rows.callWith_type1 (thn (ha.run pos2 pins st σ H _ J asked) fun us st1 ⟨vs, H1, J1, rel, now⟩ => ?_) hs hpl))) hs1) hs1 rfl))
  obtain ⟨a, b, ks, xs, ex, hq1, hq2, now⟩ := now
  subst ex
  cases rel with
  | cons r1 rel =>
  cases rel with
  | cons r2 rel =>
  cases rel
  cases r1
  cases r2
  obtain ⟨its, rv, p1, z1⟩ := J1.list hq1
  obtain ⟨its2, rv2, p2, z2⟩ := J1.tuple hq2
  have al : a < st1.heap.objs.size := p1.lt
  have bl : b < st1.heap.objs.size := by obtain ⟨o, ho, _⟩ := p2; exact Heap.lt_size ho
  have B1 := begins_list a its.toArray
  have B2 := begins_tuple b its2.toArray
  refine zip_begins2 B1 B2 p1.isList p2 fun h' c1 c2 c3 c4 c5 size kp => args_nil ?_
  have S := zip_sep2 (N := st1.heap.objs.size) (fp1 := [a]) (fp2 := [b]) (by simpa using al) (by simpa using bl)
  have P := pairs_LT (prog := X.prog) (w := X.w) _ _ _ _ _ a b S (Nat.ne_of_lt al) (Nat.ne_of_lt (Nat.lt_succ_of_lt bl)) its.toArray its2.toArray
  have n1 := rv.length
  have n2 := rv2.length
  rw [List.length_map] at n1 z1
  have all : ∀ (ks : List Key) (xs : List V) (us vs : List Value), Vals (ks.map kV) us → Vals xs vs → ∃ rs : List (Key × Value), KV (ks.zip xs) rs ∧ rs.length = min us.length vs.length ∧ ∀ (i : Nat) (k v : Value), us[i]? = some k → vs[i]? = some v → ∃ q, rs[i]? = some (q, v) ∧ (mixKind X.prog X.w).is q k = true := by
    intro ks
    induction ks with
    | nil => intro xs us vs r1 r2; cases r1; exact ⟨[], .nil, by simp, fun i k v e => nomatch e⟩
    | cons k ks ih =>
      intro xs us vs r1 r2
      cases r1 with
      | cons h1 t1 =>
      cases r2 with
      | nil => exact ⟨[], .nil, by simp, fun i k v _ e => nomatch e⟩
      | cons h2 t2 =>
        obtain ⟨rs, e1, e2, e3⟩ := ih _ _ _ t1 t2
        refine ⟨(k, _) :: rs, .cons ⟨rfl, h2⟩ e1, by simp only [List.length_cons, e2]; omega, fun i q v e f => ?_⟩
        cases i with
        | zero => cases e; cases f; exact ⟨k, rfl, kV_is h1⟩
        | succ i => exact e3 i q v e f
  obtain ⟨rs, e1, e2, e3⟩ := all ks xs its its2 rv rv2
  have PH : PairsHave (mixKind X.prog X.w) (min its.toArray.size its2.toArray.size) (fun i k v => its.toArray[i]? = some k ∧ its2.toArray[i]? = some v) rs :=
    ⟨by simpa using e2, fun i k v q => e3 i k v (by simpa using q.1) (by simpa using q.2)⟩
  refine _root_.PySem.call_dict_pairs (s := { st1 with heap := h' }) P (J1.ok.hd hcalm) ⟨c1, ⟨_, _, c3⟩, c2, ⟨⟨_, c4, rfl, rfl⟩, B1.keeps _ _ p1.isList kp⟩, ⟨⟨_, c5, rfl, rfl⟩, B2.keeps _ _ p2 kp⟩⟩ PH (by have := n1; have := n2; simp only [List.size_toArray]; omega) fun h2 tk isd kp2 => ?_
  replace isd : h2.DictOf (mixKind X.prog X.w) h'.objs.size (merged [] rs) := isd
  have low : st1.heap.objs.size ≤ h'.objs.size := by rw [size]; exact Nat.le_add_right _ _
  have big : sysModules < h'.objs.size := Nat.lt_of_lt_of_le J1.big low
  have ne : (h'.objs.size == sysModules) = false := beq_eq_false_iff_ne.mpr (Nat.ne_of_gt big)
  have few : (mergeK [] (ks.zip xs)).length ≤ sizeLine := by
    refine Nat.le_trans (length_mergeK _ []) ?_
    rw [List.length_nil, Nat.zero_add, List.length_zip]
    omega
  refine ⟨.ref h'.objs.size, upd H1 h'.objs.size (.dK (mergeK [] (ks.zip xs))), J1.laid (t' := tk) (fun c o q => kp2 c o (fun hm => ?_) (kp c o q)) low (show ObjOk X.prog X.w _ _ _ (.dK (mergeK [] (ks.zip xs))) from ⟨few, ne, merged [] rs, KV.merge e1 .nil, isd⟩), rfl, now _ (J1.hok.fresh low)⟩
  have cl := Heap.lt_size q
  have either : c = st1.heap.objs.size + 4 ∨ c = st1.heap.objs.size + 3 ∨ c = st1.heap.objs.size ∨ c = st1.heap.objs.size + 1 := by simpa using hm
  rcases either with y | y | y | y <;> rw [y] at cl
  · exact absurd cl (Nat.not_lt.mpr (Nat.le_add_right _ _))
  · exact absurd cl (Nat.not_lt.mpr (Nat.le_add_right _ _))
  · exact absurd cl (Nat.lt_irrefl _)
  · exact absurd cl (Nat.not_lt.mpr (Nat.le_add_right _ _))
/-! ### dict(zip(xs, ys)), xs and ys tuples -/
section
open Sem (wp)
variable {prog : Program} {w : World}
/-- the zip of the list l and the tuple t, begun (tuples) -/
def ZipTT (h : Heap) (z TI TO i1 i2 l t : Addr) (xs ys : Array Value) (n : Nat) : Prop := IsTupOf2 h TI (.ref i1) (.ref i2) ∧ (h.IsTupleIter i1 l n ∧ h.IsTuple l xs) ∧ (h.IsTupleIter i2 t n ∧ h.IsTuple t ys)
theorem ZipTT.keep {h h' : Heap} {z TI TO i1 i2 l t : Addr} {xs ys : Array Value} {n : Nat} (q : ZipTT h z TI TO i1 i2 l t xs ys n) (k : ∀ b, b = TI ∨ b = i1 ∨ b = i2 ∨ b = l ∨ b = t → ∀ o, h.get? b = some o → h'.get? b = some o) : ZipTT h' z TI TO i1 i2 l t xs ys n :=
  ⟨k _ (.inl rfl) _ q.1, ⟨q.2.1.1.at fun o e => k _ (.inr (.inl rfl)) o e, q.2.1.2.at fun o e => k _ (.inr (.inr (.inr (.inl rfl)))) o e⟩, ⟨q.2.2.1.at fun o e => k _ (.inr (.inr (.inl rfl))) o e, q.2.2.2.at fun o e => k _ (.inr (.inr (.inr (.inr rfl)))) o e⟩⟩
theorem pairs_TT (z TI TO i1 i2 l t : Addr) (S : ZipSep2 z TI TO i1 i2 [i1, l] [i2, t]) (hl : l ≠ i1) (ht : t ≠ i2) (xs ys : Array Value) :
    PairArg prog w "zip" z [z, TI, TO, i1, i2, l, t] [z, TO, i1, i2] (min xs.size ys.size) (fun i k v => xs[i]? = some k ∧ ys[i]? = some v)
      (fun h => IsZip h z TI TO .none ∧ (∃ a b, IsTupOf2 h TO a b) ∧ ZipTT h z TI TO i1 i2 l t xs ys 0) where
  type := fun s ok => ⟨_, ok.1, rfl⟩
  notDict := by decide
  keep := fun h h' ok k => by
    obtain ⟨a1, ⟨a, b, a2⟩, a3⟩ := ok
    exact ⟨k _ _ a1, ⟨a, b, k _ _ a2⟩, a3.keep fun b _ o e => k b o e⟩
  there := fun h ok b hb => by
    obtain ⟨a1, ⟨a, c, a2⟩, a3, ⟨⟨o1, e1, _⟩, ⟨o2, e2, _⟩⟩, ⟨⟨o3, e3, _⟩, ⟨o4, e4, _⟩⟩⟩ := ok
    have either : b = z ∨ b = TI ∨ b = TO ∨ b = i1 ∨ b = i2 ∨ b = l ∨ b = t := by simpa using hb
    rcases either with q | q | q | q | q | q | q <;> subst q
    · exact ⟨_, a1⟩
    · exact ⟨_, a3⟩
    · exact ⟨_, a2⟩
    · exact ⟨_, e1⟩
    · exact ⟨_, e3⟩
    · exact ⟨_, e2⟩
    · exact ⟨_, e4⟩
  sub := fun b hb => by
    have either : b = z ∨ b = TO ∨ b = i1 ∨ b = i2 := by simpa using hb
    rcases either with q | q | q | q <;> subst q <;> simp
  noKeys := fun A s Q E hA ok now => getAttrOr_miss_zip ok.1 rfl rfl rfl zip_no_keys (by decide +kernel) hA now
  iter := fun A s d Q E hA ok dlt dfar now => by
    obtain ⟨a1, ⟨a, b, a2⟩, a3⟩ := ok
    have far : d ≠ z ∧ d ≠ TI ∧ d ≠ TO ∧ d ≠ i1 ∧ d ≠ i2 ∧ d ≠ l ∧ d ≠ t := by simpa using dfar
    obtain ⟨d1, d2, d3, d4, d5, d6, d7⟩ := far
    have D1 := Draws.tuple (prog := prog) (w := w) (A := A.in1) hA i1 l hl xs
    have D2 := Draws.tuple (prog := prog) (w := w) (A := A.in1) hA i2 t ht ys
    refine wpAny_pyIter_zip a1 (now z [z, TO, i1, i2] (fun n h => ZipTT h z TI TO i1 i2 l t xs ys n ∧ ((IsZip h z TI TO .none ∧ ∃ a b, IsTupOf2 h TO a b) ∨ ∃ T f oT, IsZipHeld h z TI TO T f ∧ h.get? T = some oT ∧ T ≠ z ∧ T ≠ i1 ∧ T ≠ i2 ∧ T ≠ d)) s.heap s.toks ?_ ⟨a3, .inl ⟨a1, a, b, a2⟩⟩ (fun _ _ e => e) fun b hb => .inl hb)
    refine ⟨fun hm => ?_, fun n h h' q k => ?_, fun n s1 Q1 E1 hn q dl now1 => ?_, fun s1 Q1 E1 q now1 => ?_⟩
    · have either : d = z ∨ d = TO ∨ d = i1 ∨ d = i2 := by simpa using hm
      rcases either with q | q | q | q
      · exact d1 q
      · exact d3 q
      · exact d4 q
      · exact d5 q
    · refine ⟨q.1.keep fun b hb o e => k b o (fun y => ?_) e, ?_⟩
      · rcases hb with q | q | q | q | q <;> rw [q] at y
        · exact d2 y.symm
        · exact d4 y.symm
        · exact d5 y.symm
        · exact d6 y.symm
        · exact d7 y.symm
      · rcases q.2 with ⟨q1, a, b, q2⟩ | ⟨T, f, oT, q1, q2, r1, r2, r3, r4⟩
        · exact .inl ⟨k _ _ (Ne.symm d1) q1, a, b, k _ _ (Ne.symm d3) q2⟩
        · exact .inr ⟨T, f, oT, k _ _ (Ne.symm d1) q1, k _ _ r4 q2, r1, r2, r3, r4⟩
    · obtain ⟨⟨both, at1, at2⟩, q⟩ := q
      have m1 : n < xs.size := Nat.lt_of_lt_of_le hn (Nat.min_le_left ..)
      have m2 : n < ys.size := Nat.lt_of_lt_of_le hn (Nat.min_le_right ..)
      have lt : ∀ {c o}, s1.heap.get? c = some o → s1.heap.objs.size ≠ c := fun e => Nat.ne_of_gt (Heap.lt_size e)
      have j1 : s1.heap.objs.size ≠ i1 := let ⟨_, e⟩ := D1.live _ _ at1; lt e
      have j2 : s1.heap.objs.size ≠ i2 := let ⟨_, e⟩ := D2.live _ _ at2; lt e
      rcases q with ⟨q1, a, b, q2⟩ | ⟨T, f, oT, q1, q2, r1, r2, r3, r4⟩
      · refine wpAny_pyNext_zipD2_item S D1 D2 q1 both q2 at1 at2 m1 m2 fun x y h' tk px py b1 b2 b3 b4 b5 b6 k => ?_
        exact now1 s1.heap.objs.size x y h' tk ⟨px, py⟩ (.inl ⟨_, b5, rfl, _, rfl⟩) ⟨⟨k _ _ S.TIz S.TITO S.TIi1 S.TIi2 both, b3, b4⟩, .inr ⟨_, false, _, b1, b5, lt q1, j1, j2, Nat.ne_of_gt dl⟩⟩
          fun c o hc e => k c o (fun y => hc (by simp [y])) (fun y => hc (by simp [y])) (fun y => hc (by simp [y])) (fun y => hc (by simp [y])) e
      · refine out_pyNext S D1 D2 q1 q2 both at1 at2 m1 m2 fun x y h' tk px py b1 b3 b4 b5 k => ?_
        exact now1 s1.heap.objs.size x y h' tk ⟨px, py⟩ (.inl ⟨_, b5, rfl, _, rfl⟩) ⟨⟨k _ _ S.TIz S.TIi1 S.TIi2 both, b3, b4⟩, .inr ⟨T, true, oT, b1, k _ _ r1 r2 r3 q2, r1, r2, r3, r4⟩⟩
          fun c o hc e => k c o (fun y => hc (by simp [y])) (fun y => hc (by simp [y])) (fun y => hc (by simp [y])) e
    · obtain ⟨⟨both, at1, at2⟩, q⟩ := q
      rcases q with ⟨q1, a, b, q2⟩ | ⟨T, f, oT, q1, q2, r1, r2, r3, r4⟩
      · exact wpAny_pyNext_zipD2_end S D1 D2 q1 both q2 at1 at2 (Nat.min_le_left ..) (Nat.min_le_right ..) (by omega) fun h' tk k => now1 h' tk fun c o hc e => k c o (fun y => hc (by simp [y])) (fun y => hc (by simp [y])) (fun y => hc (by simp [y])) (fun y => hc (by simp [y])) e
      · exact out_pyNext_end S D1 D2 q1 q2 both at1 at2 (Nat.min_le_left ..) (Nat.min_le_right ..) (by omega) fun h' tk k => now1 h' tk fun c o hc e => k c o (fun y => hc (by simp [y])) (fun y => hc (by simp [y])) (fun y => hc (by simp [y])) e
end
/-- dict(zip(e1, e2)): from tuples -/
def eDictZipTT (K : PySem.W.Frag) (ta : TA) : TE := fun σ H Q => ta σ H fun vs H1 => ∃ (a b : Addr) (ks : List Key) (xs : List V), vs = [.ref a, .ref b] ∧ SqT K H1 a (ks.map kV) ∧ SqT K H1 b xs ∧ ∀ p, H1 p = none → Q (.ref p) (upd H1 p (.dK (mergeK [] (ks.zip xs))))
theorem pe_dictZipTT (K : PySem.W.Frag) {X : Cx} (hk : X.K = K) (hcalm : X.calm = true) {e e2 : Expr} {ta : TA} {p p2 pos pos2 : Pos} (hd : Gl X "dict") (md : X.mg "dict" = none) (hg : Gl X "zip") (hm : X.mg "zip" = none) (ha : PA X [e, e2] ta)
    (hs : starEach [e, e2] X.env = (false, eval e X.env) :: starEach [e2] X.env := by rfl) (hpl : (backTo pos2 (starEach [e2] X.env)).any (·.1) = false := by rfl)
    (hs1 : starEach [.Call (.Name "zip" p2) [e, e2] [] pos2] X.env = [(false, eval (.Call (.Name "zip" p2) [e, e2] [] pos2) X.env)] := by rfl) :
    PE X (.Call (.Name "dict" p) [.Call (.Name "zip" p2) [e, e2] [] pos2] [] pos) (eDictZipTT K ta) := by
  subst hk
  refine ⟨fun pins st σ H Q J asked => ?_⟩
  refine Call_ (ld_blt J hd md boot_dict (PyProof.Rows.callWith_type1 (args_cons (Call_ (ld_blt J hg hm boot_zip (PyProof.Rows.callWith_type1 (thn (ha.run pos2 pins st σ H _ J asked) fun us st1 ⟨vs, H1, J1, rel, now⟩ => ?_) hs hpl))) hs1) hs1 rfl))
  obtain ⟨a, b, ks, xs, ex, hq1, hq2, now⟩ := now
  subst ex
  cases rel with
  | cons r1 rel =>
  cases rel with
  | cons r2 rel =>
  cases rel
  cases r1
  cases r2
  obtain ⟨its, rv, p1, z1⟩ := J1.tuple hq1
  obtain ⟨its2, rv2, p2, z2⟩ := J1.tuple hq2
  have al : a < st1.heap.objs.size := by obtain ⟨o, ho, _⟩ := p1; exact Heap.lt_size ho
  have bl : b < st1.heap.objs.size := by obtain ⟨o, ho, _⟩ := p2; exact Heap.lt_size ho
  have B1 := begins_tuple a its.toArray
  have B2 := begins_tuple b its2.toArray
  refine zip_begins2 B1 B2 p1 p2 fun h' c1 c2 c3 c4 c5 size kp => args_nil ?_
  have S := zip_sep2 (N := st1.heap.objs.size) (fp1 := [a]) (fp2 := [b]) (by simpa using al) (by simpa using bl)
  have P := pairs_TT (prog := X.prog) (w := X.w) _ _ _ _ _ a b S (Nat.ne_of_lt al) (Nat.ne_of_lt (Nat.lt_succ_of_lt bl)) its.toArray its2.toArray
  have n1 := rv.length
  have n2 := rv2.length
  rw [List.length_map] at n1 z1
  have all : ∀ (ks : List Key) (xs : List V) (us vs : List Value), Vals (ks.map kV) us → Vals xs vs → ∃ rs : List (Key × Value), KV (ks.zip xs) rs ∧ rs.length = min us.length vs.length ∧ ∀ (i : Nat) (k v : Value), us[i]? = some k → vs[i]? = some v → ∃ q, rs[i]? = some (q, v) ∧ (mixKind X.prog X.w).is q k = true := by
    intro ks
    induction ks with
    | nil => intro xs us vs r1 r2; cases r1; exact ⟨[], .nil, by simp, fun i k v e => nomatch e⟩
    | cons k ks ih =>
      intro xs us vs r1 r2
      cases r1 with
      | cons h1 t1 =>
      cases r2 with
      | nil => exact ⟨[], .nil, by simp, fun i k v _ e => nomatch e⟩
      | cons h2 t2 =>
        obtain ⟨rs, e1, e2, e3⟩ := ih _ _ _ t1 t2
        refine ⟨(k, _) :: rs, .cons ⟨rfl, h2⟩ e1, by simp only [List.length_cons, e2]; omega, fun i q v e f => ?_⟩
        cases i with
        | zero => cases e; cases f; exact ⟨k, rfl, kV_is h1⟩
        | succ i => exact e3 i q v e f
  obtain ⟨rs, e1, e2, e3⟩ := all ks xs its its2 rv rv2
  have PH : PairsHave (mixKind X.prog X.w) (min its.toArray.size its2.toArray.size) (fun i k v => its.toArray[i]? = some k ∧ its2.toArray[i]? = some v) rs :=
    ⟨by simpa using e2, fun i k v q => e3 i k v (by simpa using q.1) (by simpa using q.2)⟩
  refine _root_.PySem.call_dict_pairs (s := { st1 with heap := h' }) P (J1.ok.hd hcalm) ⟨c1, ⟨_, _, c3⟩, c2, ⟨⟨_, c4, rfl, rfl⟩, B1.keeps _ _ p1 kp⟩, ⟨⟨_, c5, rfl, rfl⟩, B2.keeps _ _ p2 kp⟩⟩ PH (by have := n1; have := n2; simp only [List.size_toArray]; omega) fun h2 tk isd kp2 => ?_
  replace isd : h2.DictOf (mixKind X.prog X.w) h'.objs.size (merged [] rs) := isd
  have low : st1.heap.objs.size ≤ h'.objs.size := by rw [size]; exact Nat.le_add_right _ _
  have big : sysModules < h'.objs.size := Nat.lt_of_lt_of_le J1.big low
  have ne : (h'.objs.size == sysModules) = false := beq_eq_false_iff_ne.mpr (Nat.ne_of_gt big)
  have few : (mergeK [] (ks.zip xs)).length ≤ sizeLine := by
    refine Nat.le_trans (length_mergeK _ []) ?_
    rw [List.length_nil, Nat.zero_add, List.length_zip]
    omega
  refine ⟨.ref h'.objs.size, upd H1 h'.objs.size (.dK (mergeK [] (ks.zip xs))), J1.laid (t' := tk) (fun c o q => kp2 c o (fun hm => ?_) (kp c o q)) low (show ObjOk X.prog X.w _ _ _ (.dK (mergeK [] (ks.zip xs))) from ⟨few, ne, merged [] rs, KV.merge e1 .nil, isd⟩), rfl, now _ (J1.hok.fresh low)⟩
  have cl := Heap.lt_size q
  have either : c = st1.heap.objs.size + 4 ∨ c = st1.heap.objs.size + 3 ∨ c = st1.heap.objs.size ∨ c = st1.heap.objs.size + 1 := by simpa using hm
  rcases either with y | y | y | y <;> rw [y] at cl
  · exact absurd cl (Nat.not_lt.mpr (Nat.le_add_right _ _))
  · exact absurd cl (Nat.not_lt.mpr (Nat.le_add_right _ _))
  · exact absurd cl (Nat.lt_irrefl _)
  · exact absurd cl (Nat.not_lt.mpr (Nat.le_add_right _ _))
theorem one_at {K : PySem.W.Frag} {a : Addr} {od : Option Addr} {z : Str} {t1 : Tok} {n : Nat} {sl : Array (Option Value)} (l : K.lookup a = some ⟨.type "tuple", od, .seq #[.str z t1] n, sl⟩) (H : Hp) : SqT K H a [.str z] :=
  .inr ⟨_, _, _, l, rfl, rfl, (show 1 ≤ sizeLine by decide), .cons ⟨_, rfl⟩ .nil⟩
/-! ### dicts whose keys are tuples of tuples -/
mutual
/-- a value that is such a key -/
inductive NkV (H : Hp) : NestedKey → V → Prop
  | num (i : Int) : NkV H (.num i) (.int i)
  | text (x : Str) : NkV H (.text x) (.str x)
  | tup {a : Addr} {xs : List V} {ks : List NestedKey} : H a = some (.tup xs) → NkL H ks xs → NkV H (.tup ks) (.ref a)
inductive NkL (H : Hp) : List NestedKey → List V → Prop
  | nil : NkL H [] []
  | cons {k : NestedKey} {x : V} {ks : List NestedKey} {xs : List V} : NkV H k x → NkL H ks xs → NkL H (k :: ks) (x :: xs)
end
section
variable {P : Program} {w : World} {H H' : Hp} {h : Heap}
mutual
theorem NkV.keep (kp : TK H H') : ∀ {k : NestedKey} {x : V}, NkV H k x → NkV H' k x
  | _, _, .num i => .num i
  | _, _, .text x => .text x
  | _, _, .tup e l => .tup (kp _ _ e) (NkL.keep kp l)
theorem NkL.keep (kp : TK H H') : ∀ {ks : List NestedKey} {xs : List V}, NkL H ks xs → NkL H' ks xs
  | _, _, .nil => .nil
  | _, _, .cons a b => .cons (NkV.keep kp a) (NkL.keep kp b)
end
mutual
theorem NkV.is (ok : HOk P w H h) : ∀ {k : NestedKey} {x : V} {u : Value}, NkV H k x → RelV x u → NestedIs h k u
  | _, _, u, .num i, r => by
    obtain ⟨t, rfl⟩ := (show ∃ t, u = Value.int i t from r)
    exact .int i t
  | _, _, u, .text x, r => by
    obtain ⟨t, rfl⟩ := (show ∃ t, u = Value.str x t from r)
    exact .text x t
  | _, _, u, @NkV.tup _ a xs ks e l, r => by
    obtain rfl : u = Value.ref a := r
    obtain ⟨_, its, rv, o, e1, e2, n, e3⟩ := (show ObjOk P w H h a (.tup xs) from ok a _ e)
    exact .tup e1 e2 e3 (by simpa using NkL.is ok l rv)
theorem NkL.is (ok : HOk P w H h) : ∀ {ks : List NestedKey} {xs : List V} {us : List Value}, NkL H ks xs → Vals xs us → NestedAll h ks us
  | _, _, _, .nil, .nil => .nil
  | _, _, _, .cons a b, .cons r t => .cons (NkV.is ok a r) (NkL.is ok b t)
end
/-- what stands in the heap for a dict with the entries kas: key, the key's address, number -/
def nkRow (k : NestedKey × Addr × Int) (x : NestedKey × Addr × Value) : Prop := x.1 = k.1 ∧ x.2.1 = k.2.1 ∧ ∃ t, x.2.2 = .int k.2.2 t
def nkObj (P : Program) (w : World) (d : Addr) (kas : List (NestedKey × Addr × Int)) (h : Heap) : Prop :=
  (d == sysModules) = false ∧ kas.length ≤ sizeLine ∧ ∃ xs : List (NestedKey × Addr × Value), All2 nkRow kas xs ∧ ∃ o es ep, h.get? d = some o ∧ o.ExactDict ∧ o.data = .dict es ep ∧ es.toList = xs.map (entryOfKey (nestedKind P w)) ∧ (xs.map (·.1)).Nodup
def nkO (P : Program) (w : World) (d : Addr) (kas : List (NestedKey × Addr × Int)) : HO := .ext (nkObj P w d kas)
structure NkD (P : Program) (w : World) (H : Hp) (d : Addr) (kas : List (NestedKey × Addr × Int)) : Prop where
  at_ : H d = some (nkO P w d kas)
  key : ∀ q ∈ kas, NkV H q.1 (.ref q.2.1) ∧ q.1.depth ≤ 8
theorem nkO_tup {d : Addr} {kas : List (NestedKey × Addr × Int)} {xs : List V} : nkO P w d kas ≠ .tup xs := fun z => by
  have z' : HO.ext _ = HO.tup xs := z
  cases z'
theorem nkObj_ok {d : Addr} {kas : List (NestedKey × Addr × Int)} (q : nkObj P w d kas h) : ObjOk P w H h d (nkO P w d kas) := by
  have q0 := q
  obtain ⟨_, _, xs, _, o, es, ep, e, _⟩ := q0
  refine ⟨q, ⟨o, e⟩, fun h1 h2 q1 k => ?_⟩
  obtain ⟨a1, a2, xs, al, o, es, ep, e, r⟩ := q1
  exact ⟨a1, a2, xs, al, o, es, ep, k _ e, r⟩
theorem nk_names : ∀ {kas : List (NestedKey × Addr × Int)} {xs : List (NestedKey × Addr × Value)}, All2 nkRow kas xs → xs.map (·.1) = kas.map (·.1)
  | _, _, .nil => rfl
  | _, _, .cons r t => by rw [List.map_cons, List.map_cons, r.1, nk_names t]
/-- the number at a key -/
def nkAt (kas : List (NestedKey × Addr × Int)) (k : NestedKey) : Option Int := (kas.find? fun q => decide (q.1 = k)).map fun q => q.2.2
theorem nk_at {k : NestedKey} : ∀ {kas : List (NestedKey × Addr × Int)} {xs : List (NestedKey × Addr × Value)}, All2 nkRow kas xs → (nkAt kas k = none ∧ atKey xs k = none) ∨ ∃ n a t, nkAt kas k = some n ∧ atKey xs k = some (a, .int n t)
  | _, _, .nil => .inl ⟨rfl, rfl⟩
  | _, _, @All2.cons _ _ _ c x cs xs r t => by
    unfold nkAt atKey
    rw [List.find?_cons, List.find?_cons, r.1]
    by_cases e : c.1 = k
    · rw [decide_eq_true e]
      obtain ⟨tt, ht⟩ := r.2.2
      refine .inr ⟨c.2.2, x.2.1, tt, rfl, ?_⟩
      show some x.2 = _
      rw [← ht]
    · rw [decide_eq_false e]
      exact nk_at t
theorem NkD.get {d : Addr} {kas : List (NestedKey × Addr × Int)} (D : NkD P w H d kas) (ok : HOk P w H h) : (d == sysModules) = false ∧ kas.length ≤ sizeLine ∧ ∃ xs, All2 nkRow kas xs ∧ h.DictOfH (nestedKind P w) d xs := by
  obtain ⟨⟨a1, a2, xs, al, o, es, ep, e1, e2, e3, e4, e5⟩, _⟩ := (show ObjOk P w H h d (nkO P w d kas) from ok d _ D.at_)
  refine ⟨a1, a2, xs, al, o, es, ep, e1, e2, e3, e4, fun x hx => ?_, e5⟩
  have : ∀ {kas : List (NestedKey × Addr × Int)} {xs : List (NestedKey × Addr × Value)}, All2 nkRow kas xs → ∀ x ∈ xs, ∃ q ∈ kas, x.1 = q.1 ∧ x.2.1 = q.2.1 := by
    intro kas xs al
    induction al with
    | nil => intro x hx; cases hx
    | cons r t ih =>
      intro x hx
      rcases List.mem_cons.mp hx with rfl | hx
      · exact ⟨_, List.mem_cons_self .., r.1, r.2.1⟩
      · obtain ⟨q, hq, z⟩ := ih x hx
        exact ⟨q, List.mem_cons_of_mem _ hq, z⟩
  obtain ⟨q, hq, z1, z2⟩ := this al x hx
  obtain ⟨k1, k2⟩ := D.key q hq
  rw [z1, z2]
  exact ⟨NkV.is ok k1 rfl, k2⟩
theorem NkD.go {d : Addr} {kas : List (NestedKey × Addr × Int)} (D : NkD P w H d kas) (e : H' d = H d) (kp : TK H H') : NkD P w H' d kas := ⟨e.trans D.at_, fun q hq => ⟨(D.key q hq).1.keep kp, (D.key q hq).2⟩⟩
theorem NkD.same {d : Addr} {kas : List (NestedKey × Addr × Int)} (D : NkD P w H d kas) (s : Same H H') : NkD P w H' d kas := D.go ((s _ _ D.at_).trans D.at_.symm) (TK.same s)
end
section
variable {X : Cx} {o i e : Expr} {pos pos' : Pos} {td ty tv : TE}
theorem nk_room {X : Cx} (hu : X.A.units + 65 < cLine) : (nestedKind X.prog X.w).room X.A.in1 := by
  show X.A.in1.units + 8 < cLine
  show X.A.units + 1 + 8 < cLine
  omega
/-- {}, for such keys -/
def tNkNew (P : Program) (w : World) : TE := fun _ H Q => ∀ p, H p = none → NkD P w (upd H p (nkO P w p [])) p [] → Q (.ref p) (upd H p (nkO P w p []))
theorem pe_nknew (P : Program) (w : World) (h1 : X.prog = P) (h2 : X.w = w) : PE X (.Dict [] [] pos) (tNkNew P w) := by
  subst h1 h2
  refine ⟨fun pins s σ H Q I h => ?_⟩
  have hb := I.big
  have ob : nkObj X.prog X.w s.heap.objs.size [] (s.heap.push { cls := .type "dict", data := .dict #[] }) := ⟨beq_eq_false_iff_ne.mpr (Ne.symm (Nat.ne_of_lt hb)), Nat.zero_le _, [], .nil, _, #[], 0, Heap.get?_push_size _ rfl, ⟨rfl, rfl, rfl⟩, rfl, rfl, List.nodup_nil⟩
  exact wpAny_Dict_empty ⟨.ref s.heap.objs.size, _, I.laid (a := s.heap.objs.size) (o := nkO X.prog X.w s.heap.objs.size []) (t' := s.toks) (fun _ _ q => Heap.get?_push_of_some _ q) (Nat.le_refl _) (nkObj_ok ob), rfl, h _ (I.hok.fresh (Nat.le_refl _)) ⟨upd_same, fun q hq => by cases hq⟩⟩
/-- y not in d -/
def tNkOut (P : Program) (w : World) (ty td : TE) : TE := fun σ H Q => ty σ H fun y H1 => td σ H1 fun x H2 => ∃ (d b : Addr) (kas : List (NestedKey × Addr × Int)) (k : NestedKey), x = .ref d ∧ y = .ref b ∧ NkD P w H2 d kas ∧ NkV H2 k (.ref b) ∧ k.depth ≤ 8 ∧ Q (.bl (!(nkAt kas k).isSome)) H2
theorem pc_nkout (P : Program) (w : World) (h1 : X.prog = P) (h2 : X.w = w) (hu : X.A.units + 65 < cLine) (hi : PE X i ty) (ho : PE X o td) : PC X .NotIn i o (tNkOut P w ty td) := by
  subst h1 h2
  refine ⟨fun pins s σ H Q I h => ?_⟩
  refine thn (hi.run pins s σ H _ I h) fun iv s1 ⟨y, H1, I1, ry, q1⟩ => thn (ho.run pins s1 σ H1 _ I1 q1) fun u s2 ⟨x, H2, I2, rx, d, b, kas, k, ex, ey, D, kv, dp, q2⟩ => ?_
  subst ex ey
  obtain rfl : u = Value.ref d := rx
  obtain rfl : iv = Value.ref b := ry
  obtain ⟨a1, a2, xs, al, dd⟩ := D.get I2.hok
  refine wpAny_notIn_heap (nk_room hu) ⟨NkV.is I2.hok kv rfl, dp⟩ a1 dd ⟨.bl (!(nkAt kas k).isSome), H2, I2.tok _, ?_, q2⟩
  rcases nk_at (k := k) al with ⟨z1, z2⟩ | ⟨n, a, t, z1, z2⟩ <;> rw [z1, z2] <;> rfl
/-- d[y] -/
def tNkGet (P : Program) (w : World) (td ty : TE) : TE := fun σ H Q => td σ H fun x H1 => ty σ H1 fun y H2 => ∃ (d b : Addr) (kas : List (NestedKey × Addr × Int)) (k : NestedKey) (n : Int), x = .ref d ∧ y = .ref b ∧ NkD P w H2 d kas ∧ NkV H2 k (.ref b) ∧ k.depth ≤ 8 ∧ nkAt kas k = some n ∧ Q (.int n) H2
theorem pe_nkget (P : Program) (w : World) (h1 : X.prog = P) (h2 : X.w = w) (hu : X.A.units + 65 < cLine) (ho : PE X o td) (hi : PE X i ty) (hs : NoSl i) : PE X (.Subscript o i pos) (tNkGet P w td ty) := by
  subst h1 h2
  refine ⟨fun pins s σ H Q I h => ?_⟩
  refine subD_of PySem.F.slot_dict_getitem.lookup hs (thn (ho.run pins s σ H _ I h) fun u s1 ⟨x, H1, I1, rx, q1⟩ => thn (hi.run pins s1 σ H1 _ I1 q1) fun iv s2 ⟨y, H2, I2, ry, d, b, kas, k, n, ex, ey, D, kv, dp, hk, q2⟩ => ?_)
  subst ex ey
  obtain rfl : u = Value.ref d := rx
  obtain rfl : iv = Value.ref b := ry
  obtain ⟨a1, a2, xs, al, dd⟩ := D.get I2.hok
  refine ⟨dd.typeIs, ?_⟩
  rcases nk_at (k := k) al with ⟨z1, z2⟩ | ⟨m, a, t, z1, z2⟩
  · rw [z1] at hk; cases hk
  · rw [z1] at hk
    cases hk
    exact wpAny_getItem_heap (nk_room hu) ⟨NkV.is I2.hok kv rfl, dp⟩ dd z2 ⟨.int n, H2, I2.tok _, ⟨t, rfl⟩, q2⟩
/-- len(d) -/
theorem call_lenNk (P : Program) (w : World) (h1 : X.prog = P) (h2 : X.w = w) : CallR X (.builtin "len") (fun vs H Q => ∃ (d : Addr) (kas : List (NestedKey × Addr × Int)), vs = [.ref d] ∧ NkD P w H d kas ∧ Q (.int (kas.length : Nat)) H) := by
  subst h1 h2
  intro pins s σ H vs us Q I r asked
  obtain ⟨d, kas, rfl, D, q⟩ := asked
  obtain ⟨u, rfl, ru⟩ := vals1 r
  obtain rfl : u = Value.ref d := ru
  obtain ⟨a1, a2, xs, al, dd⟩ := D.get I.hok
  have l := al.length
  refine PySem.call_len_dictH a1 dd (by rw [← l]; rw [sizeLine_eq] at a2; omega) ?_
  exact ⟨.int (kas.length : Nat), H, I.tok _, ⟨_, by rw [l]⟩, q⟩
/-- d[y] = v, y not yet in d -/
def sNkPut (P : Program) (w : World) (td ty tv : TE) : TS := fun D σ H => tv σ H fun v H1 => td σ H1 fun x H2 => ty σ H2 fun y H3 => ∃ (d b : Addr) (kas : List (NestedKey × Addr × Int)) (k : NestedKey) (n : Int), x = .ref d ∧ y = .ref b ∧ v = .int n ∧ NkD P w H3 d kas ∧ NkV H3 k (.ref b) ∧ k.depth ≤ 8 ∧ nkAt kas k = none ∧ kas.length < sizeLine ∧
  (NkD P w (upd H3 d (nkO P w d (kas ++ [(k, b, n)]))) d (kas ++ [(k, b, n)]) → D.nx σ (upd H3 d (nkO P w d (kas ++ [(k, b, n)]))))
theorem ps_nkput {value : Expr} (P : Program) (w : World) (h1 : X.prog = P) (h2 : X.w = w) (hu : X.A.units + 65 < cLine) (ho : PE X o td) (hi : PE X i ty) (hv : PE X value tv) (hs : swapsWith value (some (.Subscript o i pos')) pos.line X.env = pure false) :
    PS X (.Assign [.Subscript o i pos'] value pos) (sNkPut P w td ty tv) := by
  subst h1 h2
  refine ⟨fun pins s σ H D I h => ?_⟩
  refine wpAny_Assign_Subscript (thn (hv.run pins s σ H _ I h) fun r s1 ⟨v, H1, I1, rv, q1⟩ => thn (ho.run pins s1 σ H1 _ I1 q1) fun u s2 ⟨x, H2, I2, rx, q2⟩ => thn (hi.run pins s2 σ H2 _ I2 q2) fun iv s3 ⟨y, H3, I3, ry, d, b, kas, k, n, ex, ey, ev, Dk, kv, dp, hk, hl, q3⟩ => ?_) hs
  subst ex ey ev
  obtain rfl : u = Value.ref d := rx
  obtain rfl : iv = Value.ref b := ry
  obtain ⟨t, rfl⟩ := (show ∃ t, r = Value.int n t from rv)
  obtain ⟨a1, a2, xs, al, dd⟩ := Dk.get I3.hok
  have l := al.length
  have z2 : atKey xs k = none := by
    rcases nk_at (k := k) al with ⟨z1, z2⟩ | ⟨m, a, t, z1, z2⟩
    · exact z2
    · rw [z1] at hk; cases hk
  refine wpAny_setItem_heap (hsz := by rw [← l]; exact a2) (nk_room hu) ⟨NkV.is I3.hok kv rfl, dp⟩ dd fun h' dd' hsb => ?_
  rw [storedH_new z2] at dd'
  obtain ⟨ob, es, ep, g1, g2, g3, g4, g5, g6⟩ := dd'
  have kp : TK H3 (upd H3 d (nkO X.prog X.w d (kas ++ [(k, b, n)]))) := fun a ys e => by
    rw [upd_ne (ne_of e Dk.at_ (fun z => nkO_tup z.symm))]
    exact e
  have new : nkObj X.prog X.w d (kas ++ [(k, b, n)]) h' := ⟨a1, by rw [List.length_append]; exact hl, _, al.snoc ⟨rfl, rfl, t, rfl⟩, ob, es, ep, g1, g2, g3, g4, g6⟩
  refine ⟨σ, _, d_write I3 (by rw [Dk.at_]; exact True.intro) hsb ⟨ob, g1⟩ (nkObj_ok new), q3 ⟨upd_same, fun q hq => ?_⟩⟩
  rcases List.mem_append.mp hq with hq | hq
  · exact ⟨(Dk.key q hq).1.keep kp, (Dk.key q hq).2⟩
  · rw [List.mem_singleton.mp hq]
    exact ⟨kv.keep kp, dp⟩
end
/-! ### numbers from 0 on, slices -/
abbrev nV (n : Nat) : V := .int ((n : Nat) : Int)
theorem cut_drop (xs : List V) (k : Nat) : cutV xs (some ((k : Nat) : Int)) none = xs.drop k := by
  unfold cutV
  rw [HT.sIx_nat, HT.sIx_none]
  rcases Nat.le_total k xs.length with h | h
  · rw [Nat.min_eq_left h, List.take_of_length_le]
    rw [List.length_drop]; exact Nat.le_refl _
  · rw [Nat.min_eq_right h, Nat.sub_self, List.take_zero, List.drop_eq_nil_of_le h]
/-! ### slices and sums of tuples, whatever they are -/
theorem slA_of {K : PySem.W.Frag} {H : Hp} {a : Addr} {xs : List V} {lo hi : Option Int} {Q : VK} (h : H a = some (.tup xs)) (k : ∀ (p : Addr) (H' : Hp), H' p = some (.tup (cutV xs lo hi)) → Same H H' → Q (.ref p) H') : rSlA K (.ref a) lo hi H Q := by
  refine ⟨a, xs, rfl, SqT.of h, fun z => k a H ?_ (Same.refl _), fun _ p np => k p _ upd_same (same_new np)⟩
  unfold cutV
  rw [z.1, z.2, List.drop_zero, Nat.sub_zero, List.take_length]
  exact h
theorem catA_of {K : PySem.W.Frag} {H : Hp} {a b : Addr} {xs ys : List V} {Q : VK} (h : H a = some (.tup xs)) (g : H b = some (.tup ys)) (l : xs.length + ys.length ≤ 1000) (k : ∀ (p : Addr) (H' : Hp), H' p = some (.tup (xs ++ ys)) → Same H H' → Q (.ref p) H') : rCatA K (.ref a) (.ref b) H Q := by
  refine ⟨a, b, xs, ys, rfl, rfl, SqT.of h, SqT.of g, little l, fun e => k b H ?_ (Same.refl _), fun _ e => k a H ?_ (Same.refl _), fun _ _ p np => k p _ upd_same (same_new np)⟩
  · rw [e]; exact g
  · rw [e, List.append_nil]; exact h
theorem cut_take (xs : List V) (k : Nat) : cutV xs none (some ((k : Nat) : Int)) = xs.take k := by
  unfold cutV
  rw [HT.sIx_nat, HT.sIx_none, List.drop_zero, Nat.sub_zero]
  by_cases h : k ≤ xs.length
  · rw [Nat.min_eq_left h]
  · rw [Nat.min_eq_right (by omega), List.take_length, List.take_of_length_le (by omega)]
theorem cut_part {xs : List V} {lo hi : Option Int} : ∀ x ∈ cutV xs lo hi, x ∈ xs := fun x hx => List.mem_of_mem_drop (List.mem_of_mem_take hx)
theorem cut_nats {ns : List Nat} {lo hi : Option Int} : ∃ ms : List Nat, cutV (ns.map nV) lo hi = ms.map nV ∧ ms.length ≤ ns.length ∧ ∀ x ∈ ms, x ∈ ns := by
  refine ⟨(ns.drop (HT.sIx (ns.map nV).length 0 lo)).take (HT.sIx (ns.map nV).length (ns.map nV).length hi - HT.sIx (ns.map nV).length 0 lo), ?_, ?_, fun x hx => List.mem_of_mem_drop (List.mem_of_mem_take hx)⟩
  · unfold cutV
    rw [List.map_take, List.map_drop]
  · rw [List.length_take, List.length_drop]
    omega
section
variable {P : Program} {w : World} {K : PySem.W.Frag} {mg : Str → Option Value} {base : Heap}
def sp_law_flow (K : PySem.W.Frag) : Sp := fun vs H Q _ => ∃ (a : Addr) (ns : List Int), vs = [.ref a] ∧ SqL K H a (ns.map V.int) ∧ ∀ (f c : Addr) (H' : Hp), H f = none → H c = none → Flow H' f c → Same H H' → Q (.ref f) H'
theorem ok_law_flow {f : Addr} {fd : FuncData} (F : Fun K "_law_flow" "_law_flow" s_law_flow f fd) {C : Addr} (T : Top w K mg C) : FnOk P w K mg base CX0 1 f fd ["_law_script"] (sp_law_flow K) := by
  refine F.ok sc_law_flow (fun vs H Q E h => ?_) (fun cdv A outer s H vs Q E hr h => ?_)
  · obtain ⟨a, ns, rfl, _⟩ := h
    rfl
  obtain ⟨a, ns, rfl, hS, q⟩ := h
  refine ⟨_, (pss_one (ps_ret (pe_lst (pa_cons (pe_callTy (call_list_ofK K rfl) (by rfl) T.m_list (by decide +kernel) (pa_cons (pv 0) pa_nil)) (pa_cons pe_int (pa_cons pe_int (pa_cons pe_int (pa_cons pe_int pa_nil)))))))), ?_⟩
  refine ⟨_, rfl, a, _, rfl, .inl hS, fun c hc => ?_⟩
  refine ⟨(by show 5 ≤ sizeLine; decide), fun f hf => ?_⟩
  have nf : H f = none := by
    cases e : H f with
    | none => rfl
    | some o => rw [same_new hc _ _ e] at hf; cases hf
  have s1 := same_new (o := .lst (ns.map V.int)) hc
  refine q f c _ nf hc ⟨ns, 0, 0, 1, 0, upd_same, same_new hf _ _ upd_same, by decide, by decide, by decide, by decide⟩ fun b o e => same_new hf _ _ (s1 _ _ e)
def sp_law_pick (K : PySem.W.Frag) : Sp := fun vs H Q _ => ∃ (f c : Addr) (m : Int), vs = [.ref f, .int m] ∧ 0 < m ∧ m.natAbs.log2 < 9000 ∧ Flow H f c ∧
  ∀ (v : Int) (H' : Hp), 0 ≤ v → v < m → Flow H' f c → But f H H' → Q (.int v) H'
theorem ok_law_pick {f : Addr} {fd : FuncData} (F : Fun K "_law_pick" "_law_pick" s_law_pick f fd) {C : Addr} (T : Top w K mg C) : FnOk P w K mg base CX0 1 f fd ["_law_flow_here", "_law_many"] (sp_law_pick K) := by
  refine F.ok sc_law_pick (fun vs H Q E h => ?_) (fun cdv A outer s H vs Q E hr h => ?_)
  · obtain ⟨f, c, m, rfl, _⟩ := h
    rfl
  obtain ⟨f, c, m, rfl, m0, m9, hF, q⟩ := h
  obtain ⟨ns, i, p, z, r, hf, hc, hi, hp, hz, hz2⟩ := hF
  have ncf : c ≠ f := ne_of hc hf (by intro e; injection e with e; cases ns with | nil => cases e | cons x l => cases e)
  let R1 : TS := fun D' σ' H' => D'.rt = Q ∧ ∃ x2 : Option V, σ' = [some (.ref f), some (.int m), x2, none] ∧ (∃ (i p z r : Int), H' f = some (.lst [.ref c, .int i, .int p, .int z, .int r]) ∧ H' c = some (.lst (ns.map V.int)) ∧ 0 ≤ i ∧ 0 ≤ p ∧ 0 ≤ z ∧ z < 2147483647) ∧ But f H H'
  refine ⟨_, (pss_cons (ps_if (PW.pt (pw_and (pt_cmpR op_eq (pe_ix (ix_listK K rfl) (pv 0) pe_int (fun _ _ => rfl)) pe_int (nomark _)) (pw_and1 (pt_cmpR op_lt (pe_ix (ix_listK K rfl) (pv 0) pe_int (fun _ _ => rfl)) (pe_callB (call_len_seqK K rfl) (by rfl) T.m_len (by decide +kernel) (pa_cons (pe_ix (ix_listK K rfl) (pv 0) pe_int (fun _ _ => rfl)) pa_nil)) (nomark _))))) (pss_cons (ps_set (i := 2) sc_law_pick.nd rfl (Or.inl rfl) (pe_ix (ix_listK K rfl) (pe_ix (ix_listK K rfl) (pv 0) pe_int (fun _ _ => rfl)) (pe_ix (ix_listK K rfl) (pv 0) pe_int (fun _ _ => rfl)) (fun _ _ => rfl)))
      (pss_cons (ps_asg (pe_op op_add (pe_ix (ix_listK K rfl) (pv 0) pe_int (fun _ _ => rfl)) pe_int) (pg_sub (pv 0) pe_int set_list))
      (pss_one (ps_if (pt_cmpR op_ge (pv 2) (pe_op op_pow pe_int pe_int) (nomark _)) (pss_one (ps_asg (pv 2) (pg_sub (pv 0) pe_int set_list))) (pss_one (ps_asg (pe_op op_mod (pe_op op_add (pe_op op_add (pe_op op_mul (pe_ix (ix_listK K rfl) (pv 0) pe_int (fun _ _ => rfl)) pe_int) (pe_op op_mod (pv 2) pe_int)) pe_int) pe_int) (pg_sub (pv 0) pe_int set_list))))))) pss_nil)
      (PSs.to (pss_cons (ps_if (pt_cmpR op_gt (pe_ix (ix_listK K rfl) (pv 0) pe_int (fun _ _ => rfl)) pe_int (nomark _)) (pss_cons (ps_set (i := 3) sc_law_pick.nd rfl (Or.inl rfl) (pe_op op_mod (pe_ix (ix_listK K rfl) (pv 0) pe_int (fun _ _ => rfl)) (pv 1)))
      (pss_cons (ps_asg (pe_op op_fdivW (pe_ix (ix_listK K rfl) (pv 0) pe_int (fun _ _ => rfl)) (pv 1)) (pg_sub (pv 0) pe_int set_list))
      (pss_one (ps_ret (pv 3))))) pss_nil)
      (pss_cons (ps_asg (pe_op op_add (pe_ix (ix_listK K rfl) (pv 0) pe_int (fun _ _ => rfl)) pe_int) (pg_sub (pv 0) pe_int set_list))
      (pss_cons (ps_asg (pe_op op_mod (pe_op op_add (pe_op op_add (pe_op op_mul (pe_ix (ix_listK K rfl) (pv 0) pe_int (fun _ _ => rfl)) pe_int) pe_int) (pe_ix (ix_listK K rfl) (pv 0) pe_int (fun _ _ => rfl))) pe_int) (pg_sub (pv 0) pe_int set_list))
      (pss_one (ps_ret (pe_op op_mod (pe_op op_fdiv (pe_op op_mod (pe_op op_mul (pe_op op_add (pe_op op_mod (pe_ix (ix_listK K rfl) (pv 0) pe_int (fun _ _ => rfl)) pe_int) pe_int) (pe_op op_add (pe_op op_fdiv (pe_ix (ix_listK K rfl) (pv 0) pe_int (fun _ _ => rfl)) pe_int) pe_int)) pe_int) pe_int) (pv 1))))))) R1 ?tail1)), ?_⟩
  case tail1 =>
    rintro D' σ' H1 ⟨eD, x2, rfl, ⟨i, p, z, r, hf, hc, hi, hp, hz, hz2⟩, bt⟩
    refine ⟨_, rfl, f, _, _, _, rfl, rfl, SqL.of hf, atI_nat (j := 2) rfl, _, _, rfl, rfl, _, rfl, if_bl (fun c1 => ?_) (fun c1 => ?_)⟩
    · refine ⟨_, rfl, f, _, _, _, rfl, rfl, SqL.of hf, atI_nat (j := 2) rfl, _, rfl, _, _, rfl, rfl, m0, ?_⟩
      refine ⟨_, rfl, f, _, _, _, rfl, rfl, SqL.of hf, atI_nat (j := 2) rfl, _, rfl, _, _, rfl, rfl, ⟨m0, m9⟩, _, rfl, f, _, _, 2, rfl, rfl, hf, rfl, ?_⟩
      refine ⟨_, rfl, ?_⟩
      rw [eD]
      exact q _ _ (Int.emod_nonneg _ (by omega)) (Int.emod_lt_of_pos _ m0) ⟨ns, i, p / m, z, r, upd_same, (by rw [upd_ne ncf]; exact hc), hi, Int.ediv_nonneg hp (by omega), hz, hz2⟩ bt.upd
    · refine ⟨_, rfl, f, _, _, _, rfl, rfl, SqL.of hf, atI_nat (j := 4) rfl, _, _, rfl, rfl, _, rfl, f, _, _, 4, rfl, rfl, hf, rfl, ?_⟩
      have hf2 : upd H1 f (.lst ([V.ref c, V.int i, V.int p, V.int z, V.int r].set 4 (V.int (r + 1)))) f = some (.lst [.ref c, .int i, .int p, .int z, .int (r + 1)]) := upd_same
      refine ⟨_, rfl, f, _, _, _, rfl, rfl, SqL.of hf2, atI_nat (j := 3) rfl, _, _, rfl, rfl, .inl ⟨by omega, by omega⟩, _, _, rfl, rfl, _, rfl, f, _, _, _, rfl, rfl, SqL.of hf2, atI_nat (j := 4) rfl, _, _, rfl, rfl, _, _, rfl, rfl, (by show (0 : Int) < 2147483647; decide), _, rfl, f, _, _, 3, rfl, rfl, hf2, rfl, ?_⟩
      have z0 : 0 ≤ (z * 48271 + 12820163 + (r + 1)) % 2147483647 := Int.emod_nonneg _ (by decide)
      have z1 : (z * 48271 + 12820163 + (r + 1)) % 2147483647 < 2147483647 := Int.emod_lt_of_pos _ (by decide)
      have hf3 : upd (upd H1 f (.lst ([V.ref c, V.int i, V.int p, V.int z, V.int r].set 4 (V.int (r + 1))))) f (.lst ([V.ref c, V.int i, V.int p, V.int z, V.int (r + 1)].set 3 (V.int ((z * 48271 + 12820163 + (r + 1)) % 2147483647)))) f =
        some (.lst [.ref c, .int i, .int p, .int ((z * 48271 + 12820163 + (r + 1)) % 2147483647), .int (r + 1)]) := upd_same
      have hc3 : upd (upd H1 f (.lst ([V.ref c, V.int i, V.int p, V.int z, V.int r].set 4 (V.int (r + 1))))) f (.lst ([V.ref c, V.int i, V.int p, V.int z, V.int (r + 1)].set 3 (V.int ((z * 48271 + 12820163 + (r + 1)) % 2147483647)))) c = some (.lst (ns.map V.int)) := by
        rw [upd_ne ncf, upd_ne ncf]
        exact hc
      refine ⟨_, rfl, f, _, _, _, rfl, rfl, SqL.of hf3, atI_nat (j := 3) rfl, _, _, rfl, rfl, (by show (0 : Int) < 65521; decide), _, _, rfl, rfl, _, rfl, f, _, _, _, rfl, rfl, SqL.of hf3, atI_nat (j := 3) rfl, _, _, rfl, rfl, ⟨by decide, by decide⟩, _, _, rfl, rfl, _, _, rfl, rfl, .inl ⟨?_, ?_⟩, _, _, rfl, rfl, (by show (0 : Int) < 1000003; decide), _, _, rfl, rfl, ⟨by decide, by decide⟩, _, rfl, _, _, rfl, rfl, m0, ?_⟩
      · omega
      · omega
      · rw [eD]
        exact q _ _ (Int.emod_nonneg _ (by omega)) (Int.emod_lt_of_pos _ m0) ⟨ns, i, p, _, r + 1, hf3, hc3, hi, hp, z0, z1⟩ bt.upd.upd
  refine ⟨_, rfl, f, _, _, _, rfl, rfl, SqL.of hf, atI_nat (j := 2) rfl, rfl, _, rfl, if_bl (fun c1 => ?_) (fun c1 => ?_)⟩
  · refine ⟨_, rfl, f, _, _, _, rfl, rfl, SqL.of hf, atI_nat (j := 1) rfl, _, rfl, f, _, _, _, rfl, rfl, SqL.of hf, atI_nat (j := 0) rfl, c, _, rfl, .inl (SqL.of hc), _, _, rfl, rfl, _, rfl, if_bl (fun c2 => ?_) (fun c2 => ?_)⟩
    · have c3 : i < ((ns.map V.int).length : Int) := of_decide_eq_true c2
      rw [List.length_map] at c3
      obtain ⟨v, hv⟩ := at_ints hi c3
      refine ⟨_, rfl, f, _, _, _, rfl, rfl, SqL.of hf, atI_nat (j := 0) rfl, _, rfl, f, _, _, _, rfl, rfl, SqL.of hf, atI_nat (j := 1) rfl, c, _, i, _, rfl, rfl, SqL.of hc, hv, ?_⟩
      refine ⟨_, rfl, f, _, _, _, rfl, rfl, SqL.of hf, atI_nat (j := 1) rfl, _, _, rfl, rfl, _, rfl, f, _, _, 1, rfl, rfl, hf, rfl, ?_⟩
      have hf2 : upd H f (.lst ([V.ref c, V.int i, V.int p, V.int z, V.int r].set 1 (V.int (i + 1)))) f = some (.lst [.ref c, .int (i + 1), .int p, .int z, .int r]) := upd_same
      refine ⟨_, rfl, _, _, rfl, rfl, ⟨by decide, by decide, by decide⟩, _, _, rfl, rfl, _, rfl, if_bl (fun c4 => ?_) (fun c4 => ?_)⟩
      · have c5 : (10 : Int) ^ (18 : Int).toNat ≤ v := of_decide_eq_true c4
        have c6 : (0 : Int) ≤ (10 : Int) ^ (18 : Int).toNat := by decide
        refine ⟨_, rfl, _, rfl, f, _, _, 2, rfl, rfl, hf2, rfl, rfl, _, rfl, ⟨i + 1, v, z, r, upd_same, ?_, by omega, by omega, hz, hz2⟩, But.refl.upd.upd⟩
        rw [upd_ne ncf, upd_ne ncf]
        exact hc
      · refine ⟨_, rfl, f, _, _, _, rfl, rfl, SqL.of hf2, atI_nat (j := 3) rfl, _, _, rfl, rfl, .inl ⟨by omega, by omega⟩, _, rfl, _, _, rfl, rfl, (by show (0 : Int) < 1000003; decide), _, _, rfl, rfl, _, _, rfl, rfl, _, _, rfl, rfl, (by show (0 : Int) < 2147483647; decide), _, rfl, f, _, _, 3, rfl, rfl, hf2, rfl, rfl, _, rfl, ⟨i + 1, p, _, r, upd_same, ?_, by omega, hp, Int.emod_nonneg _ (by decide), Int.emod_lt_of_pos _ (by decide)⟩, But.refl.upd.upd⟩
        rw [upd_ne ncf, upd_ne ncf]
        exact hc
    · exact ⟨rfl, _, rfl, ⟨i, p, z, r, hf, hc, hi, hp, hz, hz2⟩, But.refl⟩
  · exact ⟨rfl, _, rfl, ⟨i, p, z, r, hf, hc, hi, hp, hz, hz2⟩, But.refl⟩
end
theorem op_notB {X : Cx} : OpR X (compareOp .IsNot) (fun x y H Q => ∃ a b : Bool, x = .bl a ∧ y = .bl b ∧ Q (.bl (!decide (a = b))) H) := by
  intro pins s σ H x y v u Q I rx ry h
  obtain ⟨a, b, rfl, rfl, q⟩ := h
  obtain rfl : v = Value.bool a := rx
  obtain rfl : u = Value.bool b := ry
  exact wpAny_isNot_plain rfl (fin_bl I q (by cases a <;> cases b <;> rfl))
theorem op_isB {X : Cx} : OpR X (compareOp .Is) (fun x y H Q => ∃ a b : Bool, x = .bl a ∧ y = .bl b ∧ Q (.bl (decide (a = b))) H) := by
  intro pins s σ H x y v u Q I rx ry h
  obtain ⟨a, b, rfl, rfl, q⟩ := h
  obtain rfl : v = Value.bool a := rx
  obtain rfl : u = Value.bool b := ry
  exact wpAny_is_plain rfl (fin_bl I q (by cases a <;> cases b <;> rfl))
/-! ### a name told a dict written out -/
section
variable {X : Cx}
theorem ps_setDc {i : Nat} {y : Str} {py : Pos} {kx vx tg iter : Expr} {ifs : List Expr} {scope : Scope} {own : List (Str × Nat)} {pos spos : Pos} {wi : TI} {g : TG} {tt : TT} {tk tv : TE} (hc : X.calm = true) (hN : X.N.Nodup) (hy : X.N[i]? = some y) (hyl : X.env.scope.names.lookup y = some .local)
    (hsw : swapsWith (.DictComp kx vx [⟨tg, iter, ifs, 0⟩] scope pos) (some (.Name y py)) spos.line X.env = pure true) (hi : L2.PI X tg iter wi) (ok : BlkOk X.N X.env.scope scope own)
    (hg : ∀ (s : Shared) (H : Hp) (C : Addr) (cl : List (Str × Addr)) (fp : List Addr), L2.PG (X.blk s H scope (compEnvC scope cl C X.env) fp) tg g) (ht : ∀ (s : Shared) (H : Hp) (C : Addr) (cl : List (Str × Addr)) (fp : List Addr), PTs (X.blk s H scope (compEnvC scope cl C X.env) fp) ifs tt)
    (hk : ∀ (s : Shared) (H : Hp) (C : Addr) (cl : List (Str × Addr)) (fp : List Addr), L2.PE (X.blk s H scope (compEnvC scope cl C X.env) fp) kx tk)
    (he : ∀ (s : Shared) (H : Hp) (C : Addr) (cl : List (Str × Addr)) (fp : List Addr), L2.PE (X.blk s H scope (compEnvC scope cl C X.env) fp) vx tv) (hs : ∀ x, foldedSetIterable iter X.env x = pure x := by intro _; rfl) :
    PS X (.Assign [.Name y py] (.DictComp kx vx [⟨tg, iter, ifs, 0⟩] scope pos) spos) (tAsg (tDc wi g tt tk tv (own.map (·.2))) (gName i)) := by
  refine ⟨fun pins s σ H D I h => ?_⟩
  rw [exec_Assign_Name_used _ _ _ _ hsw]
  refine wpAny_bind (wpAny_standAt (wpAny_bind ?_))
  show wpAny _ X.A (do let _ ← comprehension (.DictComp kx vx [⟨tg, iter, ifs, 0⟩] scope pos) scope X.env (firstIterPos [⟨tg, iter, ifs, 0⟩] pos) newDict false (eval iter X.env) (some (assign (.Name y py) X.env))) _ _ s
  have h : tDc wi g tt tk tv (own.map (·.2)) σ H (fun x H1 => gName i x σ H1 D.nx) := h
  refine wpAny_bind (thn (dc_core (Qf := fun _ s' => SP X pins D .next s') hc hN I hi ok hg ht hk he hs h fun L C s' m H' I' q hn f => ?_) fun _ s' hq => wpAny_pure (wpAny_pure hq))
  refine wpAny_assign_Name (store_ok2 (v := V.ref L) I' hN hy (.inl hyl) rfl (fun s2 I2 ⟨a, sb, ha⟩ => ?_) (.inr hyl))
  obtain ⟨f0, f1, f2, f3, f4, f5⟩ := f
  have haC : C ≠ a := ha.elim (fun z => by rw [z]; exact f1) fun z e => f4 y a z e.symm
  exact ⟨m, hn.sameBut sb haC, fun h3 sb3 => ⟨_, H', I2.turned (t' := s2.toks) (fun b o hb e => (sb3.2 b hb).trans e) f0 f1 f3 f4 f5, q⟩⟩
theorem sw_dc {kx vx : Expr} {gs : List Comprehension} {scope : Scope} {pos py : Pos} {y : Str} {l : Nat} {env : Env} (hk : env.scope.kind = .function) (hy : env.scope.names.lookup y = some .local) (hl : (py.line == pos.line) = true)
    (ha : (scope.names.any fun (n, k) => n == y && (k == .local || k == .cell)) = false) : swapsWith (.DictComp kx vx gs scope pos) (some (.Name y py)) l env = pure true := by
  have ky : env.kindOf y = some .local := hy
  have hb : env.blockKind = .function := by unfold Env.blockKind; rw [hk]; rfl
  unfold swapsWith
  simp only [hb, ky, ha, Expr.pos, hl]
  rfl
end
/-- a tuple known to its object, which has no names of its own -/
theorem SqT.fz {K : PySem.W.Frag} {H : Hp} {a : Addr} {o : Obj} {xs : List V} (h : H a = some (.frz o (.tup xs))) : SqT K H a xs := .inl (.inr ⟨o, h⟩)
def rTupOfF (K : PySem.W.Frag) : List V → Hp → VK → Prop := fun xs H Q => ∃ p ys, xs = [.ref p] ∧ SqL K H p ys ∧ ∀ l ob, ob.dict = none → H l = none → Q (.ref l) (upd H l (.frz ob (.tup ys)))
theorem call_tuple_ofF {X : Cx} (K : PySem.W.Frag) (same : X.K = K) : CallR X (.type "tuple") (rTupOfF K) := by
  subst same
  intro pins s σ H xs us Q I r h
  obtain ⟨p, ys, ex, sq, q⟩ := h
  subst ex
  obtain ⟨_, rfl, rx⟩ := vals1 r
  cases rx
  obtain ⟨its, rv, pl, few⟩ := I.list sq
  have len := rv.length
  refine call_tuple_list pl.isList (fun h' kp => ?_) (by simp only [List.size_toArray] <;> omega)
  have J : Inv X pins σ H { s with heap := h' } := I.kept (t' := s.toks) kp
  have at_ : (h'.push { cls := .type "tuple", data := .seq its.toArray }).get? h'.objs.size = some { cls := .type "tuple", data := .seq its.toArray } := Heap.get?_push_size _ rfl
  refine ⟨.ref h'.objs.size, _, J.laid (o := .frz { cls := .type "tuple", data := .seq its.toArray } (.tup ys)) (t' := s.toks) (fun b o e => Heap.get?_push_of_some _ e) (Nat.le_refl _) ⟨at_, few, its, rv, IsTup.new _ _⟩, rfl, q _ _ rfl (J.hok.fresh (Nat.le_refl _))⟩
/-! ### dict(t) of a tuple of pairs -/
section
open PySem
theorem pairs_ofT {X : Cx} {pins : List (Addr × Obj)} {σ : L2.St} {H : Hp} {s : Shared} (I : Inv X pins σ H s) : ∀ {ps : List Addr} {kvs : List (Key × V)}, Paired (fun p kv => SqT X.K H p [kV kv.1, kv.2]) ps kvs →
    ∃ (prs : List (Key × Value)) (us : List (Value × Value)), KV kvs prs ∧ prs.length = ps.length ∧ us.length = ps.length ∧ ∀ (j : Nat) (k v : Value), us[j]? = some (k, v) → ∃ (b : Addr) (q : Key), ps[j]? = some b ∧ prs[j]? = some (q, v) ∧ IsTup s.heap b #[k, v] ∧ keyIs q k = true
  | _, _, .nil => ⟨[], [], .nil, rfl, rfl, fun j k v e => by simp at e⟩
  | _, _, .cons (a := p) (b := kv) h t => by
    obtain ⟨prs, us, r, hl, hu, hp⟩ := pairs_ofT I t
    obtain ⟨its, rv, ht, _⟩ := I.tuple h
    obtain ⟨u, y, ei, ru, ry⟩ := vals2 rv
    subst ei
    refine ⟨(kv.1, y) :: prs, (u, y) :: us, .cons ⟨rfl, ry⟩ r, by rw [List.length_cons, List.length_cons, hl], by rw [List.length_cons, List.length_cons, hu], fun j k v e => ?_⟩
    cases j with
    | zero =>
      obtain ⟨rfl, rfl⟩ := Prod.mk.inj (Option.some.inj e)
      exact ⟨p, kv.1, rfl, rfl, ht, kV_is (P := X.prog) (w := X.w) ru⟩
    | succ j =>
      obtain ⟨b, q, e1, e2, e3, e4⟩ := hp j k v (by simpa using e)
      exact ⟨b, q, by simpa using e1, by simpa using e2, e3, e4⟩
theorem call_dictPT {X : Cx} (K : PySem.W.Frag) (same : X.K = K) (hcalm : X.calm = true) : CallR X (.type "dict") (fun xs H Q => ∃ (a : Addr) (ob : Obj) (ps : List Addr) (kvs : List (Key × V)), xs = [.ref a] ∧ ob.dict = none ∧ H a = some (.frz ob (.tup (ps.map V.ref))) ∧ Paired (fun p kv => SqT K H p [kV kv.1, kv.2]) ps kvs ∧
    ∀ p, H p = none → Q (.ref p) (upd H p (.dK (mergeK [] kvs)))) := by
  subst same
  intro pins s σ H xs us Q I r q
  obtain ⟨a, ob, ps, kvs, ex, hd, ha, hp, q⟩ := q
  subst ex
  obtain ⟨u, eu, rx⟩ := vals1 r
  subst eu
  cases rx
  obtain ⟨its, rv, pt, hz⟩ := I.tuple (SqT.fz ha)
  have ei := refs_at rv
  subst ei
  rw [List.length_map] at hz
  obtain ⟨prs, us, rel, hl, hu, hpr⟩ := pairs_ofT I hp
  have got : s.heap.get? a = some ob := (I.hok a _ ha).1
  obtain ⟨o, ho, hc, n, hdat⟩ := pt
  obtain rfl : ob = o := Option.some.inj (got.symm.trans ho)
  have P := PairArg.tuple (prog := X.prog) (w := X.w) a (ps.map Value.ref).toArray (fun j => ps.getD j 0) us
  refine _root_.PySem.call_dict_pairs (knd := mixKind X.prog X.w) (kvs := prs) P (I.ok.hd hcalm) ⟨⟨ob, n, ho, hc, hd, hdat⟩, by simp [hu], fun j k v e => ?_⟩ ⟨by rw [hl, hu], fun i k v e => ?_⟩ (by rw [hu]; exact hz) fun h' tk hd' kp => ?_
  · obtain ⟨b, q, e1, e2, e3, e4⟩ := hpr j k v e
    refine ⟨by simp [e1], .inl ?_⟩
    have : ps.getD j 0 = b := by rw [List.getD_eq_getElem?_getD, e1]; rfl
    show _
    simp only [this]
    exact e3
  · obtain ⟨b, q, e1, e2, e3, e4⟩ := hpr i k v e
    exact ⟨q, e2, e4⟩
  · have notS : (s.heap.objs.size == sysModules) = false := beq_eq_false_iff_ne.mpr fun z => Nat.lt_irrefl _ (z ▸ I.big)
    have few : (mergeK [] kvs).length ≤ sizeLine := Nat.le_trans (length_mergeK kvs []) (by rw [rel.length, hl, List.length_nil, Nat.zero_add]; exact hz)
    exact ⟨.ref s.heap.objs.size, upd H s.heap.objs.size (.dK (mergeK [] kvs)), I.laid (t' := tk) (fun b o e => kp b o (fun z => nomatch z) e) (Nat.le_refl _) (show ObjOk X.prog X.w _ _ _ (.dK (mergeK [] kvs)) from ⟨few, notS, merged [] prs, KV.merge rel .nil, hd'⟩), rfl, q _ (I.hok.fresh (Nat.le_refl _))⟩
end
/-! ### xs[a:] = ys as a target -/
section
open PySem.Spec
variable {prog : Program} {w : World} {A : Around} {E : Value → Shared → Prop} {s : Shared}
theorem tail_run {a n : Nat} (h : a ≤ n) : sliceBounds (some ((a : Nat) : Int)) none none n = (((a : Nat) : Int), ((n : Nat) : Int), 1) := by
  have low : ¬ ((a : Nat) : Int) < 0 := fun z => by omega
  unfold sliceBounds
  simp only [Option.getD_none, low, if_false, Int.one_pos, gt_iff_lt, if_true, Prod.mk.injEq, and_true]
  omega
set_option maxRecDepth 100000 in
theorem tail_slice {l b sl : Addr} {items new : Array Value} {n n2 a : Nat} {vl vu : Value} {Q : Unit → Shared → Prop} (e : s.heap.get? l = some { cls := .type "list", data := .seq items n }) (e2 : s.heap.get? b = some { cls := .type "list", data := .seq new n2 }) (hne : l ≠ b)
    (hs : s.heap.IsSliceOf sl vl vu .none) (pl : IsPart vl (some ((a : Nat) : Int))) (pu : IsPart vu none) (ha : a ≤ items.size) (hsz : items.size + new.size ≤ sizeLine) (h : Q () { s with heap := s.heap.update l (Obj.mapSeq fun xs => xs.extract 0 a ++ new ++ xs.extract items.size xs.size) }) : wpAny (model prog w) A (setItem (.ref l) (.ref sl) (.ref b)) Q E s := by
  have L := PySem.IsL.isList e; have B := PySem.IsL.isList e2
  obtain ⟨os, f1, f2, f3⟩ := id hs; have T : s.TypeIs (.ref sl) "slice" := ⟨os, f1, f2⟩
  have other : Builtin.List.listSameRef (.ref l) (.ref b) = false := beq_eq_false_iff_ne.mpr hne
  have z0 : items.size + new.size ≤ sizeLine := hsz
  have z1 : ((fun xs : Array Value => xs.extract 0 a ++ new ++ xs.extract items.size xs.size) items).size ≤ sizeLine + 1 := by simp only [Array.size_append, Array.size_extract]; omega
  have hmax : (max ((a : Nat) : Int) ((items.size : Nat) : Int)).toNat = items.size := by omega
  unfold setItem; try with_reducible refine wpAny_holding ?_
  (try refine wpAny_bind (wpAny_pure ?_)); refine wpAny_bind (wpAny_sequenceKey L.typeIs (by decide) ?_)
  refine wpAny_bind (wpAny_callSpecial?_slot (name := Str.ofString "__setitem__") L.typeIs slot_list_setitem (wpAny_call_entry slot_list_setitem L.typeIs entry_list_setitem ?_ (args_list_setitem _ _ _)))
  show wpAny _ _ (Builtin.List.listSubscript? (.ref sl) >>= _) _ _ s; refine wpAny_bind ?_
  unfold Builtin.List.listSubscript?; refine wpAny_bind (wpAny_specialOf T slice_no_index ?_)
  simp only [Option.isNone_none, if_true]; refine wpAny_pure ?_
  show wpAny _ _ (typeOf (.ref sl) >>= _) _ _ s; refine wpAny_bind (wpAny_typeOf T ?_)
  (first | rw [if_neg (by decide)] | refine PySem.W.KFB.if_not (by decide) ?_); rw [listSliceParts_eq]
  refine wpAny_bind (wpAny_bind (wpAny_field f1 f3 (x := .none) rfl (wpAny_bind (wpAny_listPart .none ?_)))); rw [if_neg (show ¬ ((rawPart none == rawInt 0) = true) from Bool.false_ne_true)]
  refine wpAny_bind (wpAny_field f1 f3 (x := vl) rfl (wpAny_bind (wpAny_listPart pl ?_))); refine wpAny_bind (wpAny_field f1 f3 (x := vu) rfl (wpAny_bind (wpAny_listPart pu (wpAny_pure ?_))))
  (first | simp only [other, Bool.false_eq_true, if_false] | refine PySem.W.KFB.if_not other ?_ | (dsimp only; rw [if_neg (by rw [other]; exact Bool.false_ne_true)]))
  refine wpAny_bind (m := Builtin.List.listAllItems (.ref b) "must assign iterable to extended slice") ?_; unfold Builtin.List.listAllItems
  refine wpAny_bind (wpAny_typeOf B.typeIs ?_); (first | refine PySem.W.KFB.if_so (by decide) ?_ | rw [if_pos (by decide)] | simp only [beq_self_eq_true, Bool.true_or, if_true])
  unfold Builtin.List.listItems; refine wpAny_bind (wpAny_seqItems e2 rfl (wpAny_pure ?_))
  refine wpAny_bind (wpAny_bind (wpAny_seqItems e rfl (wpAny_pure ?_))); refine wpAny_bind (wpAny_of_eq ((sliceIndices_raw (some ((a : Nat) : Int)) none none items.size (by simp)).trans (congrArg (pure : Int × Int × Int → Sem (Int × Int × Int)) (tail_run ha))) ?_)
  show wpAny _ _ (if ((1 : Int) == 1) = true then _ else _) _ _ s; rw [if_pos (by decide)]; refine wpAny_bind (wpAny_rule ?_)
  (first | simp only [notLongL z0, Bool.false_eq_true, if_false] | refine PySem.W.KFB.if_not (notLongL z0) ?_); (try refine wpAny_bind (wpAny_pure ?_))
  show wpAny _ _ (updateSeq l (fun xs => xs.extract 0 (((a : Nat) : Int)).toNat ++ new ++ xs.extract (max ((a : Nat) : Int) ((items.size : Nat) : Int)).toNat xs.size) >>= _) _ _ s
  rw [hmax, Int.toNat_natCast]
  refine wpAny_bind (wpAny_updateSeq (hz := Nat.le_trans (Nat.le_add_right _ _) hsz) (_hz' := z1) e rfl ?_); refine wpAny_bind (wpAny_letGo ?_)
  (first | exact wpAny_bind (wpAny_pure (wpAny_pure ⟨.none, rfl, wpAny_pure h⟩)) | exact wpAny_pure ⟨.none, rfl, wpAny_pure h⟩)
end
section
variable {X : Cx} {pos p2 : Pos}
theorem tail_at {pins : List (Addr × Obj)} {s : Shared} {σ : L2.St} {H : Hp} {l b sl : Addr} {xs ys : List V} {a : Int} {vl : Value} {Q : Unit → Shared → Prop} (I : Inv X pins σ H s) (hH : H l = some (.lst xs)) (hB : H b = some (.lst ys)) (hne : l ≠ b) (hs : s.heap.IsSliceOf sl vl .none .none) (ra : RelV (.int a) vl)
    (h0 : 0 ≤ a) (h1 : a ≤ xs.length) (hz : xs.length + ys.length ≤ sizeLine) (h : ∀ s', Inv X pins σ (upd H l (.lst (xs.take a.toNat ++ ys))) s' → Q () s') : wpAny (model X.prog X.w) X.A (setItem (.ref l) (.ref sl) (.ref b)) Q X.xe s := by
  obtain ⟨ta, rfl⟩ := ra
  obtain ⟨z, its, n, r, hl, e⟩ := I.lstM hH; obtain ⟨z2, its2, n2, r2, hl2, e2⟩ := I.lstM hB
  obtain ⟨b', rfl⟩ := Int.eq_ofNat_of_zero_le h0
  rw [show ((b' : Nat) : Int).toNat = b' from Int.toNat_natCast b'] at h
  refine tail_slice (a := b') e e2 hne hs (.int _ _) .none (by rw [List.size_toArray]; omega) (by rw [List.size_toArray, List.size_toArray]; omega) (h _ ?_)
  refine I.lset (its' := its.take b' ++ its2) (t' := s.toks) hH e ?_ (Vals.append (r.take _) r2) ?_
  · have := splice_eq its its2 b' its.toArray.size
    rw [show its.drop its.toArray.size = [] by rw [List.size_toArray, List.drop_length], List.append_nil] at this
    exact this
  · rw [List.length_append, List.length_take]
    omega
/-- o[lo:] = .. -/
def gSubT (to : TE) (tl : TO) : TG := fun v σ H Q => to σ H fun o H1 => tl σ H1 fun lo H2 => ∃ (p b : Addr) (xs ys : List V) (a : Int), o = .ref p ∧ v = .ref b ∧ lo = some a ∧ H2 p = some (.lst xs) ∧ H2 b = some (.lst ys) ∧ p ≠ b ∧
  0 ≤ a ∧ a ≤ xs.length ∧ xs.length + ys.length ≤ sizeLine ∧ Q σ (upd H2 p (.lst (xs.take a.toNat ++ ys)))
theorem pg_subT {o lo : Expr} {to : TE} {tl : TO} (ho : PE X o to) (hl : PO X (some lo) tl) (ha : ∀ v, assign (.Subscript o (.Slice (some lo) none none p2) pos) X.env v = (do
      let ov ← holding [v] (eval o X.env)
      let iv ← holding [v, ov] (eval (.Slice (some lo) none none p2) X.env)
      standAt pos
      holding [v, ov, iv] (setItem ov iv v)
      release [iv, v, ov] []) := by intro _; rfl) : PG X (.Subscript o (.Slice (some lo) none none p2) pos) (gSubT to tl) := by
  refine ⟨fun pins s σ H v u Q I r h => ?_⟩
  rw [ha]
  refine wpAny_bind (wpAny_holding (thn (ho.run pins s σ H _ I h) fun ov s1 ⟨x, H1, I1, r1, q1⟩ => ?_))
  refine wpAny_bind (wpAny_holding (wpAny_Slice (thn (hl.run pins s1 σ H1 _ I1 q1) fun vl s2 ⟨l, H2, I2, pl, q2⟩ => ?_)))
  rw [evalPart_none]
  refine wpAny_pure ?_
  refine wpAny_pure ?_
  have I4 : Inv X pins σ H2 { s2 with heap := s2.heap.push { cls := .type "slice", data := .fields #[vl, .none, .none] } } := I2.kept (t' := s2.toks) fun b ob q => Heap.get?_push_of_some _ q
  obtain ⟨p, b, xs, ys, a, rfl, rfl, rfl, g1, g2, g3, g4, g5, g6, g7⟩ := q2
  cases r1
  cases r
  refine wpAny_bind (wpAny_standAt (wpAny_bind (wpAny_holding ?_)))
  refine tail_at I4 g1 g2 g3 (Heap.IsSliceOf.new ..) ?_ g4 g5 g6 fun s' I5 => ?_
  · cases pl
    exact ⟨_, rfl⟩
  · exact wpAny_release ⟨σ, _, I5, g7⟩
end
/-! ### del xs[a:] -/
section
open PySem.Spec
variable {prog : Program} {w : World} {A : Around} {E : Value → Shared → Prop} {s : Shared}
theorem kept_pre (p : Nat → Bool) : ∀ (xs : List Value) (m a : Nat), (∀ k, k < m + xs.length → p k = decide (a ≤ k)) → ((xs.zipIdx m).filterMap fun y => if p y.2 = true then none else some y.1) = xs.take (a - m)
  | [], _, _, _ => by simp
  | x :: xs, m, a, h => by
    have h0 := h m (by simp)
    have ih := kept_pre p xs (m + 1) a fun k hk => h k (by simp only [List.length_cons]; omega)
    rw [List.zipIdx_cons, List.filterMap_cons]
    dsimp only
    by_cases c : a ≤ m
    · rw [h0, decide_eq_true c, if_pos rfl]
      dsimp only
      rw [ih, Nat.sub_eq_zero_of_le c, Nat.sub_eq_zero_of_le (by omega)]
      rfl
    · rw [h0, decide_eq_false c, if_neg Bool.false_ne_true]
      dsimp only
      rw [ih, show a - m = a - (m + 1) + 1 by omega, List.take_succ_cons]
set_option maxRecDepth 100000 in
theorem tail_del {l sl : Addr} {items : Array Value} {n a : Nat} {vl : Value} {Q : Unit → Shared → Prop} (e : s.heap.get? l = some { cls := .type "list", data := .seq items n })
    (hs : s.heap.IsSliceOf sl vl .none .none) (pl : IsPart vl (some ((a : Nat) : Int))) (ha : a ≤ items.size) (hsz : items.size ≤ sizeLine) (h : ∀ f : Array Value → Array Value, f items = (items.toList.take a).toArray → Q () { s with heap := s.heap.update l (Obj.mapSeq f) }) : wpAny (model prog w) A (delItem (.ref l) (.ref sl)) Q E s := by
  have L := PySem.IsL.isList e
  obtain ⟨os, f1, f2, f3⟩ := id hs; have T : s.TypeIs (.ref sl) "slice" := ⟨os, f1, f2⟩
  unfold delItem; try with_reducible refine wpAny_holding ?_
  (try refine wpAny_bind (wpAny_pure ?_)); refine wpAny_bind (wpAny_sequenceKey L.typeIs (by decide) ?_)
  refine wpAny_bind (wpAny_callSpecial?_slot (name := Str.ofString "__delitem__") L.typeIs PySem.F.slot_list_delitem (wpAny_call_entry PySem.F.slot_list_delitem L.typeIs PySem.F.entry_list_delitem ?_ (PySem.F.args_list_delitem_2 _ _)))
  show wpAny _ _ (Builtin.List.listSubscript? (.ref sl) >>= _) _ _ s; refine wpAny_bind ?_
  unfold Builtin.List.listSubscript?; refine wpAny_bind (wpAny_specialOf T slice_no_index ?_)
  simp only [Option.isNone_none, if_true]; refine wpAny_pure ?_
  show wpAny _ _ (typeOf (.ref sl) >>= _) _ _ s; refine wpAny_bind (wpAny_typeOf T ?_)
  (first | rw [if_neg (by decide)] | refine PySem.W.KFB.if_not (by decide) ?_); rw [listSliceParts_eq]
  refine wpAny_bind (wpAny_bind (wpAny_field f1 f3 (x := .none) rfl (wpAny_bind (wpAny_listPart .none ?_)))); rw [if_neg (show ¬ ((rawPart none == rawInt 0) = true) from Bool.false_ne_true)]
  refine wpAny_bind (wpAny_field f1 f3 (x := vl) rfl (wpAny_bind (wpAny_listPart pl ?_))); refine wpAny_bind (wpAny_field f1 f3 (x := .none) rfl (wpAny_bind (wpAny_listPart .none (wpAny_pure ?_))))
  unfold Builtin.List.listItems
  refine wpAny_bind (wpAny_bind (wpAny_seqItems e rfl (wpAny_pure ?_))); refine wpAny_bind (wpAny_of_eq ((sliceIndices_raw (some ((a : Nat) : Int)) none none items.size (by simp)).trans (congrArg (pure : Int × Int × Int → Sem (Int × Int × Int)) (tail_run ha))) ?_)
  refine wpAny_bind (wpAny_rule ?_)
  show wpAny _ _ (updateSeq l _ >>= _) _ _ s
  have sz : (items.toList.take a).toArray.size ≤ sizeLine + 1 := by simp; omega
  refine wpAny_bind (wpAny_updateSeq (hz := hsz) (_hz' := (congrArg (fun z : Array Value => z.size ≤ sizeLine + 1) (congrArg List.toArray ((kept_pre _ items.toList 0 a fun k hk => ?eq1).trans (by rw [Nat.sub_zero])))).mpr sz) e rfl ?nx)
  case nx =>
    refine wpAny_bind (wpAny_letGo ?_)
    first
      | exact wpAny_bind (wpAny_pure (wpAny_pure ⟨.none, rfl, wpAny_pure (h _ (congrArg List.toArray ((kept_pre _ items.toList 0 a fun k hk => ?eq2).trans (by rw [Nat.sub_zero]))))⟩))
      | refine wpAny_pure ⟨.none, rfl, wpAny_pure (h _ (congrArg List.toArray ((kept_pre _ items.toList 0 a fun k hk => ?_).trans (by rw [Nat.sub_zero]))))⟩
    show (if (1 : Int) > 0 then _ else _) = _
    rw [if_pos (by decide)]
    have kn : k < items.size := by simpa using hk
    dsimp only
    rw [Int.emod_one, decide_eq_true (show ((k : Nat) : Int) < ((items.size : Nat) : Int) by omega), Bool.and_true]
    show (decide (((a : Nat) : Int) ≤ ((k : Nat) : Int)) && true) = _
    rw [Bool.and_true]
    exact decide_eq_decide.mpr (by omega)
  case eq1 =>
    show (if (1 : Int) > 0 then _ else _) = _
    rw [if_pos (by decide)]
    have kn : k < items.size := by simpa using hk
    dsimp only
    rw [Int.emod_one, decide_eq_true (show ((k : Nat) : Int) < ((items.size : Nat) : Int) by omega), Bool.and_true]
    show (decide (((a : Nat) : Int) ≤ ((k : Nat) : Int)) && true) = _
    rw [Bool.and_true]
    exact decide_eq_decide.mpr (by omega)
end
section
variable {X : Cx} {pos p2 tpos : Pos}
theorem del_at {pins : List (Addr × Obj)} {s : Shared} {σ : L2.St} {H : Hp} {l sl : Addr} {xs : List V} {a : Int} {vl : Value} {Q : Unit → Shared → Prop} (I : Inv X pins σ H s) (hH : H l = some (.lst xs)) (hs : s.heap.IsSliceOf sl vl .none .none) (ra : RelV (.int a) vl)
    (h0 : 0 ≤ a) (h1 : a ≤ xs.length) (h : ∀ s', Inv X pins σ (upd H l (.lst (xs.take a.toNat))) s' → Q () s') : wpAny (model X.prog X.w) X.A (delItem (.ref l) (.ref sl)) Q X.xe s := by
  obtain ⟨ta, rfl⟩ := ra
  obtain ⟨z, its, n, r, hl, e⟩ := I.lstM hH
  obtain ⟨b', rfl⟩ := Int.eq_ofNat_of_zero_le h0
  rw [show ((b' : Nat) : Int).toNat = b' from Int.toNat_natCast b'] at h
  refine tail_del (a := b') e hs (.int _ _) (by rw [List.size_toArray]; omega) (by rw [List.size_toArray]; omega) fun f hf => h _ ?_
  refine I.lset (its' := its.take b') (t' := s.toks) hH e hf (r.take _) ?_
  rw [List.length_take]
  omega
/-- del o[lo:] -/
def sDelT (to : TE) (tl : TO) : TS := fun D σ H => to σ H fun o H1 => tl σ H1 fun lo H2 => ∃ (p : Addr) (xs : List V) (a : Int), o = .ref p ∧ lo = some a ∧ H2 p = some (.lst xs) ∧ 0 ≤ a ∧ a ≤ xs.length ∧ D.nx σ (upd H2 p (.lst (xs.take a.toNat)))
theorem ps_delT {o lo : Expr} {to : TE} {tl : TO} (ho : PE X o to) (hl : PO X (some lo) tl) : PS X (.Delete [.Subscript o (.Slice (some lo) none none p2) tpos] pos) (sDelT to tl) := by
  refine ⟨fun pins s σ H D I h => ?_⟩
  refine wpAny_Delete (wpAny_deleteEach_cons (wpAny_delete_Subscript (thn (ho.run pins s σ H _ I h) fun u s1 ⟨x, H1, I1, rx, q1⟩ => wpAny_Slice (thn (hl.run pins s1 σ H1 _ I1 q1) fun vl s2 ⟨y, H2, I2, pl, q2⟩ => ?_))))
  rw [evalPart_none]
  refine wpAny_pure ?_
  refine wpAny_pure ?_
  have I4 : Inv X pins σ H2 { s2 with heap := s2.heap.push { cls := .type "slice", data := .fields #[vl, .none, .none] } } := I2.kept (t' := s2.toks) fun b ob q => Heap.get?_push_of_some _ q
  obtain ⟨p, xs, a, rfl, rfl, g1, g2, g3, g4⟩ := q2
  cases rx
  refine del_at I4 g1 (Heap.IsSliceOf.new ..) ?_ g2 g3 fun s' I5 => wpAny_deleteEach_nil ⟨σ, _, I5, g4⟩
  cases pl
  exact ⟨_, rfl⟩
end
/-! ### all(..), any(..) over anything that can be walked, whatever a def of ours does in the element -/
section
open PySem.Spec GxR GenW
/-- the table's growth, when the generator's code object was got -/
structure GotC (P : Addr) (ps : Array Value) (z z' : Shared) : Prop where
  same : z' = { z with heap := z'.heap, toks := z'.toks }
  ext : Heap.ExtBut P z.heap z'.heap
  tab : ∃ more, z'.heap.get? P = some { cls := .none, data := .fields (ps ++ more) } ∧ TriplesOk (ps ++ more).toList
theorem code_gotC {prog : Program} {w : World} {A : Around} {E : Value → Shared → Prop} {env : Env} {gpos : Pos} {nm : Str} {scope : Scope} {c P : Addr} {ps : Array Value} {z : Shared}
    (hcode : env.code = .ref c) (cd : PySem.W.CodeHd z.heap c P) (hP : z.heap.get? P = some { cls := .none, data := .fields ps }) (ht : TriplesOk ps.toList) :
    wpAny (model prog w) A (genexprCode env gpos nm scope) (fun _ z' => GotC P ps z z') E z := by
  cases among : codeAmong gpos ps.toList with
  | some cv => exact wpAny_genexprCode_hit hcode (cd.code hP ht) among ⟨rfl, .refl _ _, #[], by simpa using hP, by simpa using ht⟩
  | none =>
    refine wpAny_genexprCodeX hcode (cd.code hP ht) (cd.tab hP) among fun c' h' tk ext ge lt co _ tab _ => ?_
    obtain ⟨_, _, _, _, _, _, _, _, _, _, _, _, _, _, _, _, _, _, _, tr, _⟩ := co
    exact ⟨rfl, ext, _, tab.2, tr⟩
/-- the generator sleeps: others may have run generators, nothing else has changed -/
def Woke (s s' : Shared) : Prop := ∃ (g' : Array GenState) (tk : Nat), s' = { s with gens := g', toks := tk } ∧ AllBare g'
theorem Woke.trans {a b c : Shared} (h : Woke a b) (k : Woke b c) : Woke a c := by
  obtain ⟨g1, t1, rfl, _⟩ := h
  obtain ⟨g2, t2, rfl, b2⟩ := k
  exact ⟨g2, t2, rfl, b2⟩
theorem inv_woke {X : Cx} {pins : List (Addr × Obj)} {σ : L2.St} {H : Hp} {s s' : Shared} (I : Inv X pins σ H s) (k : Woke s s') : Inv X pins σ H s' := by
  obtain ⟨g', tk, rfl, b⟩ := k
  exact I.call (h' := s.heap) (d' := s.drawn) (ch := []) Un.refl I.hok b (fun _ z => nomatch z)
theorem bare_set {a : Array GenState} {g : Nat} {x : GenState} (h : AllBare a) (hx : x.bare = true) : AllBare (a.setIfInBounds g x) := fun y hy => by
  obtain ⟨i, hi, e⟩ := Array.mem_iff_getElem.mp hy
  rw [Array.getElem_setIfInBounds] at e
  · by_cases z : g = i
    · rw [if_pos z] at e
      rw [← e]; exact hx
    · rw [if_neg z] at e
      rw [← e]; exact h _ (Array.getElem_mem _)
  · rw [Array.size_setIfInBounds] at hi
    exact hi
/-- the context of a generator's frame: the objects at fp are its iterator's -/
abbrev gcx (X : Cx) (A' : Around) (N' : List Str) (s : Shared) (H : Hp) (cenv : Env) (fp : List Addr) (pn : List (Addr × Obj)) : Cx :=
  { X with A := A', N := N', s_0 := s, H_0 := H, env := cenv, outer := X.stack, stack := cenv :: X.stack, ex := fp, fn := fun _ => false, pn := pn, xe := fun _ _ => False }
/-- a generator's names: its own, and those that it takes from the def around it -/
structure GenN (X : Cx) (scope : Scope) (N' : List Str) (sg : L2.St → L2.St) : Prop where
  kind : scope.kind = .function
  co : scope.isCoroutine = false
  cell : ∀ y ∈ scope.names, y.2 ≠ .cell
  dot : scope.names.lookup (".0" : Str) = some NameKind.local
  free : ∀ y ∈ scope.names, y.2 = .free → X.env.scope.names.lookup y.1 = some .cell ∨ X.env.scope.names.lookup y.1 = some .free
  len : ∀ σ, (sg σ).length = N'.length
  took : ∀ σ (i : Nat) x v, N'[i]? = some x → (sg σ)[i]? = some (some v) → scope.names.lookup x = some .free ∧ ∃ j : Nat, X.N[j]? = some x ∧ σ[j]? = some (some v)
theorem gen_start {X : Cx} {pins : List (Addr × Obj)} {σ : L2.St} {H : Hp} {s : Shared} {scope : Scope} {N' : List Str} {sg : L2.St → L2.St} {A' : Around} {it : Value} {fp : List Addr} {code : Value} {h' : Heap} {go : Obj} {gens' : Array GenState} {tk : Nat}
    (I : Inv X pins σ H s) (S : GenN X scope N' sg) (hfp : ∀ b ∈ fp, FpOk X pins H b ∧ b < s.heap.objs.size)
    (hA : A'.frames = some (genEnv scope (cloFrom X.env.cells scope.names []) s.heap.objs.size code builtinsNs X.env :: X.stack)) (hh : A'.handled = none)
    (hn : h'.Ns s.heap.objs.size (fun y => if y = ".0" then some it else none)) (sb : Heap.SameBut s.heap.objs.size (s.heap.push { cls := .type "frame", data := .dict #[] }) h') (hd : ∀ v, go.data ≠ .cell v)
    (hpush : (h'.push go).get? h'.objs.size = some go) (bare : AllBare gens') :
    Inv (gcx X A' N' s H (genEnv scope (cloFrom X.env.cells scope.names []) s.heap.objs.size code builtinsNs X.env) fp [(h'.objs.size, go)]) [] (sg σ) H { s with gens := gens', toks := tk, heap := h'.push go } := by
  have sz : h'.objs.size = s.heap.objs.size + 1 := by rw [sb.1, Heap.size_push]
  have keep : ∀ b o, s.heap.get? b = some o → (h'.push go).get? b = some o := fun b o e => Heap.get?_push_of_some _ (sb.extBut b o (Nat.ne_of_lt (Heap.lt_size e)) (Heap.get?_push_of_some _ e))
  have has : ∀ y ∈ scope.names, y.2 = .free → ∃ c, X.env.cells.lookup y.1 = some c := fun y hy e => I.ok.has _ ((S.free y hy e).elim .inl .inr)
  have look : ∀ {x : Str} {c : Addr}, (cloFrom X.env.cells scope.names []).lookup x = some c → (x, NameKind.free) ∈ scope.names ∧ X.env.cells.lookup x = some c := fun {x c} e => by
    rcases cloFrom_mem (PySem.mem_of_lookup e) with z | ⟨z1, z2⟩
    · cases z
    · obtain ⟨c', e'⟩ := has _ z1 rfl
      rw [e'] at z2
      exact ⟨z1, by rw [e', z2]; rfl⟩
  have find : ∀ {x : Str}, scope.names.lookup x = some .free → ∃ c, (cloFrom X.env.cells scope.names []).lookup x = some c := fun {x} e => mem_lookup (cloFrom_has (PySem.mem_of_lookup e))
  have apart : ∀ b, s.heap.objs.size ≤ b → b ∉ frs X.stack := fun b hb m => by
    rcases List.mem_cons.mp (I.stkSub b m) with z | z
    · exact absurd (Nat.lt_of_lt_of_le I.lt (z ▸ hb)) (Nat.lt_irrefl _)
    · exact I.nofs hb z
  refine ⟨⟨I.ok.mod, S.kind, I.ok.glob, rfl, Nat.le_refl _, fun x y c h1 h2 => I.ok.inj x y c (look h1).2 (look h2).2, fun x hx => ?_, (fun x c h _ => nomatch h), fun _ => hh, hA, .inr ⟨rfl, rfl⟩, fun b hb => ⟨Nat.ne_of_lt (hfp b hb).2, fun x c e => (hfp b hb).1.2.2.2.2.1 x c (look e).2⟩, I.bs, Nat.le_trans I.ok.bsz I.sz, fun b o e hb => ?_, fun b hb m => ?_, I.stack, I.stkFree⟩,
    rfl, bare, Un.kept keep, ⟨_, hn.push _, fun i x v h1 h2 h3 => ?_⟩, fun x c e => ?_, I.hok.fresh (Nat.le_refl _), fun x c e => I.freeC x c (look e).2, fun p hp => ?_, I.hok.kept keep, S.len σ⟩
  · rcases hx with hx | hx
    · exact absurd rfl (S.cell _ (PySem.mem_of_lookup (show scope.names.lookup x = some .cell from hx)))
    · exact find hx
  · rcases (hfp b hb).1.2.2.2.1 with z | z
    · exact I.ok.noex b o e z
    · exact absurd (Nat.lt_of_lt_of_le (Heap.lt_size e) (Nat.le_trans I.ok.bsz z)) (Nat.lt_irrefl _)
  · rcases List.mem_cons.mp (I.stkSub b m) with z | z
    · exact (hfp b hb).1.2.1 z
    · exact (hfp b hb).1.2.2.1 z
  · obtain ⟨fr, j, e1, e2⟩ := S.took σ i x v h1 h2
    have kn := S.free _ (PySem.mem_of_lookup fr) rfl
    obtain ⟨m0, _, hl⟩ := I.loc
    obtain ⟨u, r, lk⟩ := hl j x v e1 e2 (kn.elim (fun z => .inr (.inl z)) (fun z => .inr (.inr z)))
    refine ⟨u, r, ?_⟩
    rcases lk with ⟨z, _⟩ | ⟨_, c, ec, ic⟩
    · have z : X.env.scope.names.lookup x = some .local := z
      rcases kn with k | k <;> rw [k] at z <;> cases z
    · obtain ⟨c', e'⟩ := find fr
      have e3 := (look e').2
      rw [ec] at e3
      obtain rfl := Option.some.inj e3
      obtain ⟨o, ho, hc⟩ := ic
      exact .inr ⟨.inr fr, _, e', o, keep _ _ ho, hc⟩
  · obtain ⟨v, o, ho, hc⟩ := I.cell x c (look e).2
    exact ⟨v, o, keep _ _ ho, hc⟩
  · have hp : p ∈ [(h'.objs.size, go)] ++ ([] : List (Addr × Obj)) := hp
    rw [List.append_nil, List.mem_singleton] at hp
    subst hp
    exact ⟨hpush, I.hok.fresh (by rw [sz]; exact Nat.le_succ _), by show h'.objs.size ≠ s.heap.objs.size; rw [sz]; exact Nat.succ_ne_self _, apart _ (by rw [sz]; exact Nat.le_succ _), hd⟩
end
section
open PySem.Spec GxR GenW
variable {X : Cx} {A2 : Around} {N' : List Str} {s0 : Shared} {H0 : Hp} {cenv : Env} {fp : List Addr} {pn : List (Addr × Obj)} {tg elt iter : Expr} {scope : Scope} {gpos : Pos} {it : Addr}
/-- the around of a generator's turn -/
abbrev genA (A2 : Around) (tg elt iter : Expr) (scope : Scope) (gpos : Pos) (it : Addr) (cenv : Env) : Around := A2.over (.compLoop (.GeneratorExp elt [⟨tg, iter, [], 0⟩] scope gpos) 0 (.ref it) .none cenv) []
/-- what a generator tells at its end -/
def genR (G : Cx) (sgσ : L2.St) (kp : Bool) (Q : Bool → Hp → Prop) : GenEnd := fun _ _ r s1 => r = .ok .next ∧ ∃ H, Inv G [] sgσ H s1 ∧ Q kp H
/-- what it hands out: a truth; the truth kp, and it may be woken again -/
def genY (G : Cx) (sgσ : L2.St) (kp : Bool) (Q : Bool → Hp → Prop) : Protocol := fun _ _ v s1 kap => ∃ b H, v = .bool b ∧ Inv G [] sgσ H s1 ∧ (b ≠ kp → Q b H) ∧ (b = kp → ∀ s2, Woke s1 s2 → kap (.send .none) s2)
theorem gen_loop {J : It} {tn : Nat → Heap → Prop} {g : TG} {te : TE} {sgσ : L2.St} {vs : List Nat} {kp : Bool} {Q : Bool → Hp → Prop} {W : Nat → Nat → Hp → Prop}
    (T : Turn X.prog X.w X.K tg J fp it tn) (hc : X.calm = true) (hco : cenv.scope.isCoroutine = false) (hpn : ∀ p ∈ pn, ∀ b ∈ fp, p.1 ≠ b)
    (pg : L2.PG (gcx X (genA A2 tg elt iter scope gpos it cenv) N' s0 H0 cenv fp pn) tg g) (pe : L2.PE (gcx X (genA A2 tg elt iter scope gpos it cenv) N' s0 H0 cenv fp pn) elt te)
    (turn : ∀ i m H, W i m H → (J.stop i H ∧ Q kp H) ∨ (J.go i H ∧ ∃ Nx : Hp → Prop, (∀ H', Nx H' → ∃ m', m' < m ∧ W (i + 1) m' H') ∧ ∀ x H', J.yld i H x H' → g x sgσ H' fun σ2 H2 => wipe σ2 vs = sgσ ∧ te σ2 H2 fun y H3 => ∃ b, y = .bl b ∧ (b ≠ kp → Q b H3) ∧ (b = kp → Nx H3))) :
    ∀ (n i m : Nat) (s₀ s : Shared) (H : Hp), m < n → Inv (gcx X (genA A2 tg elt iter scope gpos it cenv) N' s0 H0 cenv fp pn) [] sgσ H s → tn i s.heap → (∀ b ∈ fp, H b = none) → W i m H →
      Seg (model X.prog X.w) A2 (genR (gcx X (genA A2 tg elt iter scope gpos it cenv) N' s0 H0 cenv fp pn) sgσ kp Q) (genY (gcx X (genA A2 tg elt iter scope gpos it cenv) N' s0 H0 cenv fp pn) sgσ kp Q) n s₀
        (.compLoop (.GeneratorExp elt [⟨tg, iter, [], 0⟩] scope gpos) 0 (.ref it) .none cenv) ((model X.prog X.w).den (.compLoop (.GeneratorExp elt [⟨tg, iter, [], 0⟩] scope gpos) 0 (.ref it) .none cenv)) [] s := by
  have stat : ∀ {σ' : L2.St} {H' : Hp} {s' : Shared}, Inv (gcx X (genA A2 tg elt iter scope gpos it cenv) N' s0 H0 cenv fp pn) [] σ' H' s' → (∀ b ∈ fp, H' b = none) → ∀ b ∈ fp, FpOk (gcx X (genA A2 tg elt iter scope gpos it cenv) N' s0 H0 cenv fp pn) [] H' b := fun {σ' H' s'} I' hn b hb =>
    ⟨hn b hb, (I'.ok.exf b hb).1, I'.ok.exfs b hb, .inl hb, fun x c e => (I'.ok.exf b hb).2 x c e, fun p hp => hpn p (by simpa using hp) b hb⟩
  intro n
  induction n with
  | zero => intro i m s₀ s H h; exact absurd h (Nat.not_lt_zero _)
  | succ n ih =>
    intro i m s₀ s H hm I st nf w
    show Seg _ A2 _ _ _ s₀ _ ((compTurn (.GeneratorExp elt [⟨tg, iter, [], 0⟩] scope gpos) 0 (.ref it) .none cenv).onRaise (leaving cenv)) [] s
    rw [compTurn_gen, Sem.onRaise_eq_wrap]
    refine seg_bind_wrap (wpAny_standAt ?_)
    rcases turn i m H w with ⟨stop, q⟩ | ⟨go, Nx, hNx, step⟩
    · refine seg_bind_wrap (wpAny_mono (T.done (gcx X (genA A2 tg elt iter scope gpos it cenv) N' s0 H0 cenv fp pn) rfl rfl rfl hc i [] s _ H (fun _ _ => False) I (stat I nf) st stop) (fun r s6 ⟨hr, I6⟩ => ?_) fun _ _ z => z.elim)
      subst hr
      exact seg_end (.ok .next) ⟨rfl, H, I6, q⟩
    · refine seg_bind_wrap (wpAny_mono (T.item (gcx X (genA A2 tg elt iter scope gpos it cenv) N' s0 H0 cenv fp pn) rfl rfl rfl hc i [] s _ H (fun _ _ => False) I (stat I nf) st go) (fun r s6 ⟨u, hr, h6⟩ => ?_) fun _ _ z => z.elim)
      subst hr
      refine seg_bind_wrap (wpAny_mono h6 (fun _ s7 ⟨x, H7, I7, r7, y7, st7, n7⟩ => ?_) fun _ _ z => z.elim)
      have I7' := I7.pinned (stat I7 n7) (T.obj _ _ st7)
      refine seg_bind_wrap (wpAny_mono (pg.run _ s7 _ H7 x u _ I7' r7 (step x H7 y7)) (fun _ s8 ⟨σ8, H8, I8, hw8, q8⟩ => ?_) fun _ _ z => z.elim)
      refine seg_bind_wrap ?_
      rw [List.forIn_nil]
      refine wpAny_pure ?_
      simp only [if_true]
      have hy : ∀ v, yieldOut cenv v = yieldValue v := fun v => by simp only [yieldOut, hco, Bool.false_eq_true, if_false]
      simp only [hy]
      rw [Sem.bind_eq_wrap', Sem.bind_eq_wrap', Sem.wrap_wrap, Sem.wrap_wrap]
      refine seg_wrap (wpAny_mono (pe.run _ s8 σ8 H8 _ I8 q8) (fun z s9 ⟨yv, H9, I9, r9, b, ey, no, yes⟩ => ?_) fun _ _ z => z.elim)
      subst ey
      obtain rfl : z = .bool b := r9
      have pin' : ∀ b ∈ fp, ∀ o, s7.heap.get? b = some o → s9.heap.get? b = some o ∧ H9 b = none := fun b hb o e =>
        let z := I9.pin (b, o) (List.mem_append_right _ (List.mem_append_right _ (mem_pinsAt hb e)))
        ⟨z.1, z.2.1⟩
      have hl : sgσ.length = σ8.length := by rw [← hw8, wipe_length]
      have I10 : Inv (gcx X (genA A2 tg elt iter scope gpos it cenv) N' s0 H0 cenv fp pn) [] sgσ H9 s9 := (I9.unpinned (pins := [])).weak hl fun j v e => by
        rw [← hw8] at e
        exact (wipe_some e).1
      have st9 := T.keep _ _ _ st7 fun b hb o e => (pin' b hb o e).1
      have n9 : ∀ b ∈ fp, H9 b = none := fun b hb => by
        obtain ⟨o, e, _⟩ := T.obj _ _ st7 b hb
        exact (pin' b hb o e).2
      refine seg_at (seg_yield rfl rfl rfl ⟨b, H9, rfl, I10, no, fun eb s2 wk => ?_⟩)
      obtain ⟨m', lt, w'⟩ := hNx H9 (yes eb)
      have I2 := inv_woke I10 wk
      obtain ⟨g', tk, rfl, _⟩ := wk
      exact seg_again rfl (ih (i + 1) m' _ _ H9 (by omega) I2 st9 n9 w')
end
section
open PySem.Spec GxR GenW
variable {X : Cx} {A2 : Around} {N' : List Str} {s0 : Shared} {H0 : Hp} {cenv : Env} {fp : List Addr} {pn : List (Addr × Obj)} {tg elt iter : Expr} {scope : Scope} {gpos : Pos} {it : Addr}
theorem gen_begin {J : It} {tn : Nat → Heap → Prop} {R : GenEnd} {Y : Protocol} {n : Nat} {s₀ s : Shared} (T : Turn X.prog X.w X.K tg J fp it tn) (st : tn 0 s.heap)
    (loop : Seg (model X.prog X.w) A2 R Y n s₀ (.compLoop (.GeneratorExp elt [⟨tg, iter, [], 0⟩] scope gpos) 0 (.ref it) .none cenv) ((model X.prog X.w).den (.compLoop (.GeneratorExp elt [⟨tg, iter, [], 0⟩] scope gpos) 0 (.ref it) .none cenv)) [] s) :
    Seg (model X.prog X.w) A2 R Y n s₀ (.compStart (.GeneratorExp elt [⟨tg, iter, [], 0⟩] scope gpos) 0 (.ref it) .none cenv) ((model X.prog X.w).den (.compStart (.GeneratorExp elt [⟨tg, iter, [], 0⟩] scope gpos) 0 (.ref it) .none cenv)) [] s := by
  show Seg _ A2 _ _ _ s₀ _ ((compStart (.GeneratorExp elt [⟨tg, iter, [], 0⟩] scope gpos) 0 (.ref it) .none cenv).onRaise (leaving cenv)) [] s
  unfold compStart
  rw [Sem.onRaise_eq_wrap]
  show Seg _ A2 _ _ _ s₀ _ ((ask >>= _).wrap _ _ _ _) [] s
  refine seg_bind_wrap (wpAny_askSetting ?_)
  split
  · exact seg_again rfl loop
  · refine seg_bind_wrap (wpAny_rule (seg_bind_wrap (wpAny_standAt (seg_bind_wrap (T.self _ 0 s _ _ st (seg_again rfl loop))))))
/-- a generator asleep, that may be woken n times more -/
structure Asleep (X : Cx) (A2 : Around) (G : Cx) (sgσ : L2.St) (kp : Bool) (Q : Bool → Hp → Prop) (a : Addr) (k : Nat) (n : Nat) (s : Shared) : Prop where
  inv : ∃ H, Inv G [] sgσ H s
  is : ∀ {s' : Shared} {H' : Hp}, Inv G [] sgσ H' s' → s'.heap.IsGen a k
  at_ : ∃ gs, s.gens[k]? = some gs ∧ ∀ s2, Woke s s2 → gs.Goes (model X.prog X.w) A2 (genR G sgσ kp Q) (genY G sgσ kp Q) n (.send .none) s2
theorem setGen_woke {s : Shared} {k : Nat} {x : GenState} (h : AllBare s.gens) (hx : x.bare = true) : Woke s (s.setGen k x) := ⟨_, s.toks, rfl, bare_set h hx⟩
theorem setGen_at {s : Shared} {k : Nat} {x : GenState} (h : k < s.gens.size) : (s.setGen k x).gens[k]? = some x := by
  show (s.gens.setIfInBounds k x)[k]? = some x
  rw [Array.getElem?_setIfInBounds_self, if_pos h]
theorem gen_next {A : Around} {G : Cx} {sgσ : L2.St} {kp : Bool} {Q : Bool → Hp → Prop} {a : Addr} {k n : Nat} {s : Shared} {R : Option Value → Shared → Prop} {E : Value → Shared → Prop} (hh : A.handled = none) (hd : A.depth < recursionLimit) (z : Asleep X A.in1 G sgσ kp Q a k n s)
    (yes : ∀ n' s', n = n' + 1 → Asleep X A.in1 G sgσ kp Q a k n' s' → R (some (.bool kp)) s')
    (no : ∀ b H s', b ≠ kp → Inv G [] sgσ H s' → Q b H → R (some (.bool b)) s') (done : ∀ H s', Inv G [] sgσ H s' → Q kp H → R none s') : wpAny (model X.prog X.w) A (pyNext (.ref a)) R E s := by
  obtain ⟨H0, I0⟩ := z.inv
  obtain ⟨gs, hgs, hgo⟩ := z.at_
  have ks : k < s.gens.size := by
    rcases Nat.lt_or_ge k s.gens.size with h | h
    · exact h
    · rw [Array.getElem?_eq_none h] at hgs; cases hgs
  refine wpAny_gsz (n := k + 1) ks ?_
  refine wpAny_pyNext_genexpQ (P := fun _ _ s1 => ∃ H, Inv G [] sgσ H s1 ∧ Q kp H) (Y := genY G sgσ kp Q) hh I0.nolimit hd (z.is I0) hgs (hgo _ (setGen_woke I0.bare rfl)) (fun v s1 gs' hb hy => ?_) fun s1 ⟨H, I, q⟩ h' hk _ => ?_
  · obtain ⟨b, H, rfl, I, stop, on⟩ := hy
    have wk := setGen_woke (k := k) I.bare hb
    intro sz
    have sz : k < s1.gens.size := by
      have e : (s1.setGen k gs').gens.size = s1.gens.size := setGen_size ..
      rw [e] at sz
      exact sz
    by_cases eb : b = kp
    · subst eb
      have on := on rfl
      cases n with
      | zero => exact (on s1 ⟨s1.gens, s1.toks, rfl, I.bare⟩).elim
      | succ n' => exact yes n' _ rfl ⟨⟨H, inv_woke I wk⟩, z.is, gs', setGen_at sz, fun s2 w2 => on s2 (wk.trans w2)⟩
    · exact no b H _ eb (inv_woke I wk) (stop eb)
  · have J : Inv G [] sgσ H { s1.setGen k .finished with heap := h' } := by
      have J1 := inv_woke I (setGen_woke (k := k) (x := .finished) I.bare rfl)
      exact J1.kept (t' := s1.toks) hk
    exact done H _ J q
theorem all_loop {A : Around} {G : Cx} {sgσ : L2.St} {Q : Bool → Hp → Prop} {a : Addr} {k : Nat} (hh : A.handled = none) (hd : A.depth < recursionLimit) :
    ∀ (n : Nat) (s : Shared), Asleep X A.in1.in1 G sgσ true Q a k n s → codeAny (model X.prog X.w) A (.builtin "all.loop" ⟨[.ref a], []⟩) (fun r s' => ∃ b H, r = .ok (.ret (.bool b)) ∧ Inv G [] sgσ H s' ∧ Q b H) s := by
  intro n
  induction n with
  | zero =>
    intro s z
    refine codeAny_builtin F.entry_all_loop ?_
    rw [Around.under_plainId F.plain_all_loop _]
    show wpAny _ A.in1 (pyNext (.ref a) >>= _) _ _ s
    refine wpAny_bind (gen_next (A := A.in1) hh hd z (fun n' s' e => nomatch e) (fun b H s' eb I q => ?_) fun H s' I q => ?_)
    · obtain rfl : b = false := by cases b <;> first | rfl | exact absurd rfl eb
      refine wpAny_bind (wpAny_holding (wpAny_truthy_bool ?_))
      refine wpAny_bind (wpAny_letGo ?_)
      simp only [Bool.false_eq_true, if_false]
      exact wpAny_bind (wpAny_rule (wpAny_pure ⟨false, H, rfl, I, q⟩))
    · exact wpAny_bind (wpAny_rule (wpAny_pure ⟨true, H, rfl, I, q⟩))
  | succ n ih =>
    intro s z
    refine codeAny_builtin F.entry_all_loop ?_
    rw [Around.under_plainId F.plain_all_loop _]
    show wpAny _ A.in1 (pyNext (.ref a) >>= _) _ _ s
    refine wpAny_bind (gen_next (A := A.in1) hh hd z (fun n' s' e z' => ?_) (fun b H s' eb I q => ?_) fun H s' I q => ?_)
    · obtain rfl : n' = n := by omega
      refine wpAny_bind (wpAny_holding (wpAny_truthy_bool ?_))
      refine wpAny_bind (wpAny_letGo ?_)
      simp only [if_true]
      exact wpAny_pure ⟨plainId_quiet F.plain_all_loop _, ih _ z'⟩
    · obtain rfl : b = false := by cases b <;> first | rfl | exact absurd rfl eb
      refine wpAny_bind (wpAny_holding (wpAny_truthy_bool ?_))
      refine wpAny_bind (wpAny_letGo ?_)
      simp only [Bool.false_eq_true, if_false]
      exact wpAny_bind (wpAny_rule (wpAny_pure ⟨false, H, rfl, I, q⟩))
    · exact wpAny_bind (wpAny_rule (wpAny_pure ⟨true, H, rfl, I, q⟩))
theorem any_loop {A : Around} {G : Cx} {sgσ : L2.St} {Q : Bool → Hp → Prop} {a : Addr} {k : Nat} (hh : A.handled = none) (hd : A.depth < recursionLimit) :
    ∀ (n : Nat) (s : Shared), Asleep X A.in1.in1 G sgσ false Q a k n s → codeAny (model X.prog X.w) A (.builtin "any.loop" ⟨[.ref a], []⟩) (fun r s' => ∃ b H, r = .ok (.ret (.bool b)) ∧ Inv G [] sgσ H s' ∧ Q b H) s := by
  intro n
  induction n with
  | zero =>
    intro s z
    refine codeAny_builtin F.entry_any_loop ?_
    rw [Around.under_plainId F.plain_any_loop _]
    show wpAny _ A.in1 (pyNext (.ref a) >>= _) _ _ s
    refine wpAny_bind (gen_next (A := A.in1) hh hd z (fun n' s' e => nomatch e) (fun b H s' eb I q => ?_) fun H s' I q => ?_)
    · obtain rfl : b = true := by cases b <;> first | rfl | exact absurd rfl eb
      refine wpAny_bind (wpAny_holding (wpAny_truthy_bool ?_))
      refine wpAny_bind (wpAny_letGo ?_)
      simp only [if_true]
      exact wpAny_bind (wpAny_rule (wpAny_pure ⟨true, H, rfl, I, q⟩))
    · exact wpAny_bind (wpAny_rule (wpAny_pure ⟨false, H, rfl, I, q⟩))
  | succ n ih =>
    intro s z
    refine codeAny_builtin F.entry_any_loop ?_
    rw [Around.under_plainId F.plain_any_loop _]
    show wpAny _ A.in1 (pyNext (.ref a) >>= _) _ _ s
    refine wpAny_bind (gen_next (A := A.in1) hh hd z (fun n' s' e z' => ?_) (fun b H s' eb I q => ?_) fun H s' I q => ?_)
    · obtain rfl : n' = n := by omega
      refine wpAny_bind (wpAny_holding (wpAny_truthy_bool ?_))
      refine wpAny_bind (wpAny_letGo ?_)
      simp only [Bool.false_eq_true, if_false]
      exact wpAny_pure ⟨plainId_quiet F.plain_any_loop _, ih _ z'⟩
    · obtain rfl : b = true := by cases b <;> first | rfl | exact absurd rfl eb
      refine wpAny_bind (wpAny_holding (wpAny_truthy_bool ?_))
      refine wpAny_bind (wpAny_letGo ?_)
      simp only [if_true]
      exact wpAny_bind (wpAny_rule (wpAny_pure ⟨true, H, rfl, I, q⟩))
    · exact wpAny_bind (wpAny_rule (wpAny_pure ⟨false, H, rfl, I, q⟩))
end
section
open PySem.Spec GxR GenW
/-- all (kp true), any (kp false): over what comes, g puts it under its names, te tells the element; the table at P may grow -/
def tQuant (kp : Bool) (P : Addr) (wi : TI) (sg : L2.St → L2.St) (g : TG) (te : TE) (vs : List Nat) : TE := fun σ H Q => wi σ H fun J H1 => TabG H1 P ∧ ∀ H2, Tabbed P H1 H2 → ∃ W : Nat → Nat → Hp → Prop, (∃ m, W 0 m H2) ∧ ∀ i m H, W i m H →
  (J.stop i H ∧ Q (.bl kp) H) ∨ (J.go i H ∧ ∃ Nx : Hp → Prop, (∀ H', Nx H' → ∃ m', m' < m ∧ W (i + 1) m' H') ∧ ∀ x H', J.yld i H x H' → g x (sg σ) H' fun σ2 H3 => wipe σ2 vs = sg σ ∧ te σ2 H3 fun y H4 => ∃ b, y = .bl b ∧ (b ≠ kp → Q (.bl b) H4) ∧ (b = kp → Nx H4))
theorem over_gen {A : Around} {elt tg iter : Expr} {scope : Scope} {gpos : Pos} {it acc : Value} {cenv : Env} : A.over (.compLoop (.GeneratorExp elt [⟨tg, iter, [], 0⟩] scope gpos) 0 it acc cenv) [] = A.deeper cenv := by
  first
    | rfl
    | (obtain ⟨hd, d, fr, gs, u⟩ := A; simp [Around.over, Around.deeper, marksOver, frameCount, unitsOf, envsOf, guardsOf, pushEnvs, pushGuards, Code.envs, Code.env?, Code.isFrame, Code.guards, Code.isGuard, Code.weight, Code.frames, Code.isCreation, Code.isCaller, Code.cUnits])
theorem gen_made {X : Cx} {c P : Addr} {elt iter tg : Expr} {scope : Scope} {gpos : Pos} {N' : List Str} {sg : L2.St → L2.St} {kp : Bool} {wi : TI} {g : TG} {te : TE} {vs : List Nat} {k : Nat} {pins : List (Addr × Obj)} {σ : L2.St} {H : Hp} {s : Shared} {Q : VK}
    (hr : Room (k + 1) X.A) (hc : X.calm = true) (TB : TabB X.base X.mg c P) (hcode : X.env.code = .ref c) (S : GenN X scope N' sg) (hi : L2.PI X tg iter wi) (hs : ∀ v, genFold iter X.env v = pure v)
    (pg : ∀ (A' : Around) (s : Shared) (H : Hp) (cl : List (Str × Addr)) (C bi : Addr) (code : Value) (fp : List Addr) (pn : List (Addr × Obj)), Room k A' → L2.PG (gcx X A' N' s H (genEnv scope cl C code bi X.env) fp pn) tg g)
    (pe : ∀ (A' : Around) (s : Shared) (H : Hp) (cl : List (Str × Addr)) (C bi : Addr) (code : Value) (fp : List Addr) (pn : List (Addr × Obj)), Room k A' → L2.PE (gcx X A' N' s H (genEnv scope cl C code bi X.env) fp pn) elt te)
    (I : Inv X pins σ H s) (h : tQuant kp P wi sg g te vs σ H Q) :
    wpAny (model X.prog X.w) X.A (eval (.GeneratorExp elt [⟨tg, iter, [], 0⟩] scope gpos) X.env) (fun gv z => ∃ (a : Addr) (kk n : Nat) (G : Cx), gv = .ref a ∧ Asleep X X.A.in1.in1 G (sg σ) kp (fun b H' => Q (.bl b) H') a kk n z ∧ ∀ s' b H', Inv G [] (sg σ) H' s' → Q (.bl b) H' → EP X pins σ Q (.bool b) s') X.xe s := by
  have has : ∀ y ∈ scope.names, y.2 = .free → ∃ c, X.env.cells.lookup y.1 = some c := fun y hy e => I.ok.has _ ((S.free y hy e).elim .inl .inr)
  refine wpAny_GeneratorExp_make S.co (closure_ok has) S.cell S.dot S.kind (by have := hr.dp; omega) ?_ hs
  refine thn (hi.run pins s σ H _ I h) fun xv s1 hx => thn hx fun itv s2 ⟨it, fp, tn, J, H2, ei, I2, T, st2, f2, ⟨ps, hP, tri⟩, q⟩ => ?_
  subst ei
  have tabP : s2.heap.get? P = some { cls := .none, data := .fields ps } := I2.hok P _ hP
  refine ⟨I2.nolimit, thn (code_gotC (ps := ps) hcode (TB.code.keeps fun b o e => I2.bk b o e) tabP tri) fun code s3 got => ?_⟩
  obtain ⟨eq3, ext, more, hP3, tri3⟩ := got
  obtain ⟨h3, g3, d3, t3, o3⟩ := s3
  obtain ⟨rfl, rfl, rfl⟩ : g3 = s2.gens ∧ d3 = s2.drawn ∧ o3 = s2.os := by
    have := eq3
    simp only [Shared.mk.injEq] at this
    exact ⟨this.2.1, this.2.2.1, this.2.2.2.2⟩
  replace ext : Heap.ExtBut P s2.heap h3 := ext
  replace hP3 : h3.get? P = some { cls := .none, data := .fields (ps ++ more) } := hP3
  have kept : ∀ b o, b ≠ P → s2.heap.get? b = some o → h3.get? b = some o := fun b o nb e => ext b o nb e
  have neP : ∀ b ∈ fp, b ≠ P := fun b hb e => by
    have := (f2 b hb).1
    rw [e, hP] at this
    cases this
  have I3 : Inv X pins σ (upd H2 P (.tbl (ps ++ more))) { s2 with heap := h3, toks := t3 } := inv_tab (more := more) (h' := h3) (g' := s2.gens) (d' := s2.drawn) (t' := t3) I2 hP kept hP3 I2.bare
  have tb : Tabbed P H2 (upd H2 P (.tbl (ps ++ more))) := ⟨⟨_, upd_same, tri3⟩, fun b nb => upd_ne nb⟩
  obtain ⟨W, ⟨m0, w0⟩, turn⟩ := q _ tb
  have st3 : tn 0 h3 := T.keep _ _ _ st2 fun b hb o e => kept b o (neP b hb) e
  have n3 : ∀ b ∈ fp, upd H2 P (.tbl (ps ++ more)) b = none := fun b hb => by rw [upd_ne (neP b hb)]; exact (f2 b hb).1
  have f3 : ∀ b ∈ fp, FpOk X pins (upd H2 P (.tbl (ps ++ more))) b ∧ b < h3.objs.size := fun b hb => by
    obtain ⟨o, e, _⟩ := T.obj _ _ st3 b hb
    exact ⟨⟨n3 b hb, (f2 b hb).2⟩, Heap.lt_size e⟩
  generalize upd H2 P (.tbl (ps ++ more)) = H3 at *
  obtain ⟨bm, ob, b1, b2, b3, b4, b5, b6, b7, b8⟩ := TB.bm
  refine wpAny_builtinsFor (m := X.mg) (by rw [I2.ok.glob]; exact (I2.mod.glob.keeps fun b o e => I2.bk b o e).extBut ext TB.gP) b1 b2 (kept _ _ b4 (I2.bk _ _ b5)) b6 b7 b8 ?_
  intro h' hn' sb'
  have sz : h'.objs.size = h3.objs.size + 1 := by
    have := sb'.1
    rw [this, Heap.size_push]
  generalize ego : ({ cls := .type "generator", data := .fields #[.int s2.gens.size 0, .str "<genexpr>" (t3 + 1), .str (X.env.qual ++ "<genexpr>") (t3 + 1 + 1)] } : Obj) = go
  have hpush : (h'.push go).get? h'.objs.size = some go := by
    rw [← ego]
    exact Heap.get?_push_size _ rfl
  have hgen : ∀ hh : Heap, hh.get? h'.objs.size = some go → hh.IsGen h'.objs.size s2.gens.size := fun hh e => by
    rw [← ego] at e
    exact ⟨_, _, _, e, rfl, rfl, rfl⟩
  have hd : ∀ v, go.data ≠ .cell v := fun v z => by rw [← ego] at z; cases z
  have hbare : AllBare (s2.gens.push (.fresh (.compStart (.GeneratorExp elt [⟨tg, iter, [], 0⟩] scope gpos) 0 (.ref it) .none (genEnv scope (cloFrom X.env.cells scope.names []) h3.objs.size code builtinsNs X.env)))) := AllBare.push I2.bare rfl
  have hA : (genA X.A.in1.in1 tg elt iter scope gpos it (genEnv scope (cloFrom X.env.cells scope.names []) h3.objs.size code builtinsNs X.env)).frames = some (genEnv scope (cloFrom X.env.cells scope.names []) h3.objs.size code builtinsNs X.env :: X.stack) := by
    rw [show genA X.A.in1.in1 tg elt iter scope gpos it _ = _ from over_gen]
    exact Around.frames_deeper I3.ok.frames
  have hroom : Room k (genA X.A.in1.in1 tg elt iter scope gpos it (genEnv scope (cloFrom X.env.cells scope.names []) h3.objs.size code builtinsNs X.env)) := by
    rw [show genA X.A.in1.in1 tg elt iter scope gpos it _ = _ from over_gen]
    refine ⟨hr.hd, ?_, ?_⟩
    · have := hr.dp
      show X.A.depth + 1 + 3 * k + 5 < _
      omega
    · have := hr.un
      show X.A.units + 1 + 1 + 3 + 16 * k + 200 < _
      omega
  have I4 := gen_start (tk := t3 + 1 + 1 + 1) (gens' := s2.gens.push (.fresh (.compStart (.GeneratorExp elt [⟨tg, iter, [], 0⟩] scope gpos) 0 (.ref it) .none (genEnv scope (cloFrom X.env.cells scope.names []) h3.objs.size code builtinsNs X.env)))) I3 S f3 hA hr.hd hn' sb' hd hpush hbare
  have hpn : ∀ p ∈ [(h'.objs.size, go)], ∀ b ∈ fp, p.1 ≠ b := fun p hp b hb e => by
    rw [List.mem_singleton.mp hp] at e
    have := (f3 b hb).2
    rw [← e] at this
    have this : h'.objs.size < h3.objs.size := this
    omega
  refine ⟨h'.objs.size, s2.gens.size, m0 + 1, _, rfl, ⟨⟨H3, I4⟩, fun {s' H'} I' => hgen _ (I'.pin (h'.objs.size, go) (List.mem_append_left _ (List.mem_singleton.mpr rfl))).1, _, Array.getElem?_push_size .., fun s5 wk => ⟨rfl, ?_⟩⟩, fun s' b H' I' qb => ?_⟩
  · have I5 := inv_woke I4 wk
    have st5 : tn 0 s5.heap := by
      obtain ⟨g', tk, rfl, _⟩ := wk
      exact T.keep _ _ _ st3 fun b hb o e => Heap.get?_push_of_some _ (sb'.extBut b o (Nat.ne_of_lt (Heap.lt_size e)) (Heap.get?_push_of_some _ e))
    exact gen_begin T st5 (gen_loop (kp := kp) (Q := fun b H' => Q (.bl b) H') (vs := vs) T hc S.co hpn (pg _ _ _ _ _ _ _ _ _ hroom) (pe _ _ _ _ _ _ _ _ _ hroom) turn _ 0 m0 _ _ H3 (Nat.lt_succ_self _) I5 st5 n3 w0)
  · exact ⟨.bl b, H', I3.call' (ch := fp) I'.os I'.base I'.hok I'.bare fun b hb => ⟨(f3 b hb).1.2.2.2.1, (f3 b hb).1.2.1, (f3 b hb).1.2.2.2.2.1, (f3 b hb).1.2.2.2.2.2⟩, rfl, qb⟩
end
section
open PySem.Spec GxR GenW
variable {X : Cx} {c P : Addr} {elt iter tg : Expr} {scope : Scope} {p pos gpos : Pos} {N' : List Str} {sg : L2.St → L2.St} {wi : TI} {g : TG} {te : TE} {vs : List Nat} {k : Nat}
theorem pe_allG (hr : Room (k + 1) X.A) (hc : X.calm = true) (hg : Gl X "all") (hm : X.mg "all" = none) (hb : bootBuiltins "all" = some (.builtin "all")) (TB : TabB X.base X.mg c P) (hcode : X.env.code = .ref c) (S : GenN X scope N' sg) (hi : L2.PI X tg iter wi) (hs : ∀ v, genFold iter X.env v = pure v)
    (pg : ∀ (A' : Around) (s : Shared) (H : Hp) (cl : List (Str × Addr)) (C bi : Addr) (code : Value) (fp : List Addr) (pn : List (Addr × Obj)), Room k A' → L2.PG (gcx X A' N' s H (genEnv scope cl C code bi X.env) fp pn) tg g)
    (pe : ∀ (A' : Around) (s : Shared) (H : Hp) (cl : List (Str × Addr)) (C bi : Addr) (code : Value) (fp : List Addr) (pn : List (Addr × Obj)), Room k A' → L2.PE (gcx X A' N' s H (genEnv scope cl C code bi X.env) fp pn) elt te) :
    L2.PE X (.Call (.Name "all" p) [.GeneratorExp elt [⟨tg, iter, [], 0⟩] scope gpos] [] pos) (tQuant true P wi sg g te vs) := by
  refine ⟨fun pins s σ H Q I h => ?_⟩
  refine wpAny_Call_Name_kw (ld_blt I hg hm hb (PyProof.Rows.callWith_builtin1 ?_ rfl rfl))
  show wpAny _ _ (spliced ((false, eval (.GeneratorExp elt [⟨tg, iter, [], 0⟩] scope gpos) X.env) :: backTo pos (starEach [] X.env))) _ _ s
  refine Calls.spliced_cons (thn (gen_made hr hc TB hcode S hi hs pg pe I h) fun gv z ⟨a, kk, n, G, ev, sl, fin⟩ => Calls.spliced_nil ?_)
  subst ev
  refine call_function_tree F.kind_all F.plain_all F.entry_all (F.args_all1 _) ?_
  unfold Builtin.«all»
  refine wpAny_bind (m := oneArg "all" _) (wpAny_pure ?_)
  obtain ⟨H0, I0⟩ := sl.inv
  refine wpAny_bind (wpAny_pyIter_gen (sl.is I0) ?_)
  refine wpAny_pure ⟨plainId_quiet F.plain_all_loop _, codeAny_mono (all_loop hr.hd (by have := hr.dp; omega) n z sl) fun r s' ⟨b, H', er, I', q⟩ => ?_⟩
  subst er
  exact fin s' b H' I' q
theorem pe_anyG (hr : Room (k + 1) X.A) (hc : X.calm = true) (hg : Gl X "any") (hm : X.mg "any" = none) (hb : bootBuiltins "any" = some (.builtin "any")) (TB : TabB X.base X.mg c P) (hcode : X.env.code = .ref c) (S : GenN X scope N' sg) (hi : L2.PI X tg iter wi) (hs : ∀ v, genFold iter X.env v = pure v)
    (pg : ∀ (A' : Around) (s : Shared) (H : Hp) (cl : List (Str × Addr)) (C bi : Addr) (code : Value) (fp : List Addr) (pn : List (Addr × Obj)), Room k A' → L2.PG (gcx X A' N' s H (genEnv scope cl C code bi X.env) fp pn) tg g)
    (pe : ∀ (A' : Around) (s : Shared) (H : Hp) (cl : List (Str × Addr)) (C bi : Addr) (code : Value) (fp : List Addr) (pn : List (Addr × Obj)), Room k A' → L2.PE (gcx X A' N' s H (genEnv scope cl C code bi X.env) fp pn) elt te) :
    L2.PE X (.Call (.Name "any" p) [.GeneratorExp elt [⟨tg, iter, [], 0⟩] scope gpos] [] pos) (tQuant false P wi sg g te vs) := by
  refine ⟨fun pins s σ H Q I h => ?_⟩
  refine wpAny_Call_Name_kw (ld_blt I hg hm hb (PyProof.Rows.callWith_builtin1 ?_ rfl rfl))
  show wpAny _ _ (spliced ((false, eval (.GeneratorExp elt [⟨tg, iter, [], 0⟩] scope gpos) X.env) :: backTo pos (starEach [] X.env))) _ _ s
  refine Calls.spliced_cons (thn (gen_made hr hc TB hcode S hi hs pg pe I h) fun gv z ⟨a, kk, n, G, ev, sl, fin⟩ => Calls.spliced_nil ?_)
  subst ev
  refine call_function_tree F.kind_any F.plain_any F.entry_any (F.args_any1 _) ?_
  unfold Builtin.«any»
  refine wpAny_bind (m := oneArg "any" _) (wpAny_pure ?_)
  obtain ⟨H0, I0⟩ := sl.inv
  refine wpAny_bind (wpAny_pyIter_gen (sl.is I0) ?_)
  refine wpAny_pure ⟨plainId_quiet F.plain_any_loop _, codeAny_mono (any_loop hr.hd (by have := hr.dp; omega) n z sl) fun r s' ⟨b, H', er, I', q⟩ => ?_⟩
  subst er
  exact fin s' b H' I' q
end
section
theorem genN_none {X : Cx} {scope : Scope} {N' : List Str} {n : Nat} (h1 : scope.kind = .function) (h2 : scope.isCoroutine = false) (h3 : ∀ y ∈ scope.names, y.2 ≠ .cell) (h4 : scope.names.lookup (".0" : Str) = some NameKind.local) (h5 : ∀ y ∈ scope.names, y.2 ≠ .free) (h6 : n = N'.length := by rfl) :
    GenN X scope N' (fun _ => List.replicate n none) :=
  ⟨h1, h2, h3, h4, fun y hy z => absurd z (h5 y hy), fun _ => by rw [List.length_replicate]; exact h6, fun σ i x v _ e => by
    rw [List.getElem?_replicate] at e
    split at e <;> cases e⟩
theorem genN_one {X : Cx} {scope : Scope} {ts : List Str} {f : Str} {j : Nat} (h1 : scope.kind = .function) (h2 : scope.isCoroutine = false) (h3 : ∀ y ∈ scope.names, y.2 ≠ .cell) (h4 : scope.names.lookup (".0" : Str) = some NameKind.local) (h5 : ∀ y ∈ scope.names, y.2 = .free → y.1 = f)
    (h6 : scope.names.lookup f = some .free) (h7 : X.N[j]? = some f) (h8 : X.env.scope.names.lookup f = some .cell ∨ X.env.scope.names.lookup f = some .free) :
    GenN X scope (ts ++ [f]) (fun σ => List.replicate ts.length none ++ [σ.getD j none]) :=
  ⟨h1, h2, h3, h4, fun y hy z => by rw [h5 y hy z]; exact h8, fun _ => by rw [List.length_append, List.length_append, List.length_replicate]; rfl, fun σ i x v e1 e2 => by
    by_cases h : i < ts.length
    · rw [List.getElem?_append_left (by rw [List.length_replicate]; exact h), List.getElem?_replicate] at e2
      split at e2 <;> cases e2
    · rw [List.getElem?_append_right (by omega)] at e1
      rw [List.getElem?_append_right (by rw [List.length_replicate]; omega), List.length_replicate] at e2
      cases hz : i - ts.length with
      | zero =>
        rw [hz] at e1 e2
        obtain rfl : f = x := Option.some.inj e1
        have e2 : σ.getD j none = some v := Option.some.inj e2
        refine ⟨h6, j, h7, ?_⟩
        rw [List.getD_eq_getElem?_getD] at e2
        cases hj : σ[j]? with
        | none => rw [hj] at e2; cases e2
        | some z => rw [hj] at e2; rw [show z = some v from e2]
      | succ z => rw [hz] at e1; cases e1⟩
end
def Small (v : Int) : Prop := -1000000 ≤ v ∧ v ≤ 1000000
section
variable {P : Program} {w : World} {K : PySem.W.Frag} {mg : Str → Option Value} {base : Heap}
def sp_law_thing (K : PySem.W.Frag) : Sp := fun vs H Q _ => ∃ f c : Addr, vs = [.ref f] ∧ Flow H f c ∧ ∀ (v : Int) (H' : Hp), Small v → Flow H' f c → But f H H' → Q (.int v) H'
theorem ok_law_thing {f : Addr} {fd : FuncData} (F : Fun K "_law_thing" "_law_thing" s_law_thing f fd) {C : Addr} (T : Top w K mg C) : FnOk P w K mg base CX0 2 f fd ["_law_flow_here"] (sp_law_thing K) := by
  obtain ⟨f_law_pick, fd_law_pick, F_law_pick, b_law_pick, m_law_pick⟩ := T.d_law_pick
  have G_law_pick := ok_law_pick (P := P) (w := w) (base := base) F_law_pick T
  refine F.ok sc_law_thing (fun vs H Q E h => ?_) (fun cdv A outer s H vs Q E hr h => ?_)
  · obtain ⟨f, c, rfl, _⟩ := h
    rfl
  obtain ⟨f, c, rfl, hF, q⟩ := h
  refine ⟨_, (pss_cons (ps_if (pt_cmpR op_gt (pe_call G_law_pick (hr.mono (by decide)) (by rfl) m_law_pick F_law_pick.kp b_law_pick .nil pass0 (pa_cons (pv 0) (pa_cons pe_int pa_nil))) pe_int (nomark _)) (pss_one (ps_ret (pe_op op_sub (pe_call G_law_pick (hr.mono (by decide)) (by rfl) m_law_pick F_law_pick.kp b_law_pick .nil pass0 (pa_cons (pv 0) (pa_cons pe_int pa_nil))) pe_int))) pss_nil)
      (pss_one (ps_ret (pe_op op_sub (pe_call G_law_pick (hr.mono (by decide)) (by rfl) m_law_pick F_law_pick.kp b_law_pick .nil pass0 (pa_cons (pv 0) (pa_cons pe_int pa_nil))) pe_int)))), ?_⟩
  refine ⟨_, rfl, f, c, 3, rfl, by decide, by decide +kernel, hF, fun v1 H1 a1 b1 F1 B1 => ⟨_, _, rfl, rfl, _, rfl, if_bl (fun _ => ?_) (fun _ => ?_)⟩⟩
  · exact ⟨_, rfl, f, c, 7, rfl, by decide, by decide +kernel, F1, fun v2 H2 a2 b2 F2 B2 => ⟨_, _, rfl, rfl, q _ _ ⟨by omega, by omega⟩ F2 (B1.trans B2)⟩⟩
  · exact ⟨_, rfl, f, c, 2000001, rfl, by decide, by decide +kernel, F1, fun v2 H2 a2 b2 F2 B2 => ⟨_, _, rfl, rfl, q _ _ ⟨by omega, by omega⟩ F2 (B1.trans B2)⟩⟩
end
section
variable {P : Program} {w : World} {K : PySem.W.Frag} {mg : Str → Option Value} {base : Heap}
def sp_law_shuffled (K : PySem.W.Frag) : Sp := fun vs H Q _ => ∃ (f c l : Addr) (xs : List V), vs = [.ref f, .ref l] ∧ SqL K H l xs ∧ l ≠ f ∧ xs.length ≤ 500 ∧ Flow H f c ∧
  ∀ (p : Addr) (ys : List V) (H' : Hp), ys.Perm xs → H p = none → H' p = some (.lst ys) → Flow H' f c → But f H H' → Q (.ref p) H'
theorem But.seqL {K : PySem.W.Frag} {f a : Addr} {H H1 : Hp} {xs : List V} (b : But f H H1) (h : SqL K H a xs) (n : a ≠ f) : SqL K H1 a xs := by
  rcases h with h | h
  · left
    rcases h with h | ⟨o, h⟩
    · exact .inl (b _ _ h n)
    · exact .inr ⟨o, b _ _ h n⟩
  · exact .inr h
theorem same_seqL {K : PySem.W.Frag} {a : Addr} {H H1 : Hp} {xs : List V} (b : Same H H1) (h : SqL K H a xs) : SqL K H1 a xs := by
  rcases h with h | h
  · left
    rcases h with h | ⟨o, h⟩
    · exact .inl (b _ _ h)
    · exact .inr ⟨o, b _ _ h⟩
  · exact .inr h
theorem log_small {m : Nat} (h : m ≤ 500) : ((m : Int)).natAbs.log2 < 9000 := by
  rw [Int.natAbs_natCast]
  exact Nat.lt_of_le_of_lt (Nat.log2_le_self m) (by omega)
theorem perm_erase {α : Type} : ∀ {l : List α} {j : Nat} {y : α}, l[j]? = some y → (y :: l.eraseIdx j).Perm l
  | [], _, _, h => nomatch h
  | a :: l, 0, y, h => by
    cases h
    exact List.Perm.refl _
  | a :: l, j + 1, y, h => by
    have ih : (y :: l.eraseIdx j).Perm l := perm_erase h
    exact (List.Perm.swap a y _).trans (ih.cons a)
theorem ok_law_shuffled {f : Addr} {fd : FuncData} (F : Fun K "_law_shuffled" "_law_shuffled" s_law_shuffled f fd) {C : Addr} (T : Top w K mg C) : FnOk P w K mg base CX0 2 f fd ["_law_flow_here", "_law_some"] (sp_law_shuffled K) := by
  obtain ⟨f_law_pick, fd_law_pick, F_law_pick, b_law_pick, m_law_pick⟩ := T.d_law_pick
  have G_law_pick := ok_law_pick (P := P) (w := w) (base := base) F_law_pick T
  refine F.ok sc_law_shuffled (fun vs H Q E h => ?_) (fun cdv A outer s H vs Q E hr h => ?_)
  · obtain ⟨f, c, l, xs, rfl, _⟩ := h
    rfl
  obtain ⟨f, c, l, xs, rfl, hL, nl, hlen, hF, q⟩ := h
  refine ⟨_, (pss_cons (ps_set (i := 2) sc_law_shuffled.nd rfl (Or.inr rfl) (pe_callTy (call_list_ofK K rfl) (by rfl) T.m_list (by decide +kernel) (pa_cons (pv 1) pa_nil)))
      (pss_one (ps_ret (pe_lc (own := [("_law_k", 3)]) (g := gName 3) (tt := tYes) (by rfl) sc_law_shuffled.nd (pi_range1 (by rfl) T.m_range (pa_cons (pe_callB (call_len_seqK K rfl) (by rfl) T.m_len (by decide +kernel) (pa_cons (pv 1) pa_nil)) pa_nil)) (blkOk_by (own := [("_law_k", 3)]) (N := N_law_shuffled) (sc := defScope s_law_shuffled) (by decide +kernel)) (fun _ _ _ _ _ => (pg_name (i := 3) sc_law_shuffled.nd rfl (Or.inl rfl))) (fun _ _ _ _ _ => pts_nil) (fun _ _ _ _ _ => (pe_bmK K rfl PySem.F.plainAttrs_list PySem.F.slot_list_pop PySem.F.type_list_pop mt_popAt (pv 2) (pa_cons (pe_call G_law_pick (hr.mono (by decide)) (by rfl) m_law_pick F_law_pick.kp b_law_pick .nil pass0 (pa_cons (pv 0) (pa_cons (pe_callB (call_len_seqK K rfl) (by rfl) T.m_len (by decide +kernel) (pa_cons (pv 2) pa_nil)) pa_nil))) pa_nil))))))), ?_⟩
  refine ⟨_, rfl, l, _, rfl, .inl hL, fun lf nlf => ?_⟩
  refine ⟨_, rfl, l, _, rfl, .inl (same_seqL (same_new nlf) hL), _, rfl, by omega, (by omega), fun D nD => ?_⟩
  have F1 : Flow (upd H lf (.lst xs)) f c := hF.new nlf
  have dl : D ≠ lf := (ne_of_none upd_same nD).symm
  refine lc_range (lo := 0) (n := xs.length) (fun i H5 => ∃ acc rest : List V, H5 D = some (.lst acc) ∧ H5 lf = some (.lst rest) ∧ acc.length = i ∧ rest.length + i = xs.length ∧ (acc ++ rest).Perm xs ∧ Flow H5 f c ∧ But f H H5)
    ⟨[], xs, upd_same, by rw [upd_ne dl.symm]; exact upd_same, rfl, by omega, List.Perm.refl _, F1.new nD, (But.refl.new nlf).new nD⟩ ?_ ?_
  · rintro i H5 hi ⟨acc, rest, hD, hl, ha, hr2, hp, F5, B5⟩
    refine ⟨rfl, yes_in ?_⟩
    refine ⟨_, rfl, .inl ⟨rfl, _, SqL.of hl⟩, _, rfl, _, rfl, lf, _, rfl, .inl (SqL.of hl), f, c, ((rest.length : Nat) : Int), rfl, by omega, log_small (by omega), F5, fun v H6 v0 v1 F6 B6 => ?_⟩
    have hl6 := B6 _ _ hl (hF.ne nlf)
    have hv : v.toNat < rest.length := by omega
    have e1 : seqIndex? v rest.length = some v.toNat := by
      rw [seqIndex_of v0 (by omega)]
    refine ⟨lf, rest, v, v.toNat, rest[v.toNat], rfl, rfl, hl6, by omega, by omega, e1, List.getElem?_eq_getElem hv, ?_⟩
    have hD6 := B6 _ _ hD (fun e => by rw [e] at nD; rw [show upd H lf (.lst xs) f = H f from upd_ne (hF.ne nlf).symm] at nD; obtain ⟨_, _, _, _, _, e1, _⟩ := hF; rw [e1] at nD; cases nD)
    refine ⟨acc, by rw [upd_ne dl]; exact hD6, small1000 (by omega), acc ++ [rest[v.toNat]], rest.eraseIdx v.toNat, upd_same, by rw [upd_ne dl.symm]; exact upd_same, by rw [List.length_append, ha]; rfl, ?_, ?_, ?_, ?_⟩
    · rw [List.length_eraseIdx, if_pos hv]
      omega
    · refine List.Perm.trans ?_ hp
      rw [List.append_assoc]
      exact List.Perm.append_left acc (perm_erase (List.getElem?_eq_getElem hv))
    · have dc : D ≠ c := fun e => by
        rw [e] at nD
        obtain ⟨_, _, _, _, _, _, e1, _⟩ := F1
        rw [e1] at nD
        cases nD
      exact (F6.lst (hF.ne nlf) (hF.nec nlf)).lst (F1.ne nD) dc
    · exact ((B5.trans B6).own nlf).own (same_none (same_new nlf) nD)
  · rintro H5 ⟨acc, rest, hD, hl, ha, hr2, hp, F5, B5⟩
    have er : rest = [] := by
      cases rest with
      | nil => rfl
      | cons a l => simp at hr2
    subst er
    rw [List.append_nil] at hp
    exact q D acc H5 hp (same_none (same_new nlf) nD) hD F5 B5
end
/-! ### a text's signs as a list; a text several times -/
section
variable {X : Cx}
theorem call_list_strK (hc : X.calm = true) : CallR X (.type "list") (fun xs H Q => ∃ z : Str, xs = [.str z] ∧ z.cps.size ≤ sizeLine ∧ ∀ l, H l = none → Q (.ref l) (upd H l (.lst (z.cps.toList.map fun c => V.str ⟨#[c]⟩)))) := by
  intro pins st σ H xs us Q J rel asked
  obtain ⟨z, rfl, hz, now⟩ := asked
  obtain ⟨u, rfl, t, rfl⟩ := vals1 rel
  refine call_list_str (J.ok.hd hc) z t (fun h' tk acc c kp at_ items => ?_) hz
  have len : (z.cps.toList.map fun c => V.str ⟨#[c]⟩).length = acc.toList.length := by
    rw [List.length_map, Array.length_toList, Array.length_toList, items.1]
  refine ⟨.ref st.heap.objs.size, upd H st.heap.objs.size (.lst (z.cps.toList.map fun c => V.str ⟨#[c]⟩)), J.laid kp (Nat.le_refl _) (show ObjOk X.prog X.w _ _ _ (.lst (z.cps.toList.map fun c => V.str ⟨#[c]⟩)) from ⟨by rw [List.length_map, Array.length_toList]; exact hz, acc.toList, c, ?_, ?_⟩), rfl, now _ (J.hok.fresh (Nat.le_refl _))⟩
  · refine vals_of_at len fun j x v e1 e2 => ?_
    obtain ⟨cc, tt, e3, e4⟩ := items.2 j v (by rw [← Array.getElem?_toList]; exact e2)
    rw [List.getElem?_map, Array.getElem?_toList, e3] at e1
    have e1 : V.str ⟨#[cc]⟩ = x := Option.some.inj e1
    subst e1
    exact ⟨tt, e4⟩
  · rw [Array.toArray_toList]
    exact at_
theorem op_rep_str : OpR X (binaryOp .Mult) (fun x y H Q => ∃ (z : Str) (n : Int), x = .str z ∧ y = .int n ∧ MulOk z n ∧ Q (.str (Txt.mul z n)) H) := by
  intro pins st σ H x y v u Q J rx ry asked
  obtain ⟨z, n, rfl, rfl, hm, now⟩ := asked
  obtain ⟨t, rfl⟩ := rx
  obtain ⟨t2, rfl⟩ := ry
  exact PySem.SB.mul hm fun t3 k => ⟨.str (Txt.mul z n), H, J.tok _, ⟨_, rfl⟩, now⟩
end
/-! ### all(sign in NAME for sign in a text) -/
section
open PySem.Spec GxR
/-- one item looked at, in the generator's own surroundings -/
def LooksC (X : Cx) (scope : Scope) (x : Str) (elt : Expr) (pb : Nat → Bool) : Prop :=
  ∀ (cenv : Env) (A' : Around) (E' : Value → Shared → Prop) (c : Nat) (t : Tok) (z : Shared) (mz : Str → Option Value), cenv.scope = scope → cenv.globals = mainGlobals →
    (∀ b o, X.base.get? b = some o → z.heap.get? b = some o) → z.heap.Ns cenv.locals mz → mz x = some (.str ⟨#[c]⟩ t) →
    wpAny (model X.prog X.w) A' (eval elt cenv) (fun y z' => y = .bool (pb c) ∧ Keeps z z') E' z
/-- sign in NAME, NAME a text of the module -/
theorem in_elt {X : Cx} {scope : Scope} {x nm : Str} {z : Str} {tz : Tok} {p1 p2 p3 : Pos} (M : L2.Mod X.K X.mg X.base) (kind : scope.kind = .function) (kx : scope.names.lookup x = some NameKind.local) (kn : scope.names.lookup nm = some NameKind.globalImplicit) (dx : (x == ("__debug__" : Str)) = false) (dn : (nm == ("__debug__" : Str)) = false) (hmg : X.mg nm = some (.str z tz)) :
    LooksC X scope x (.Compare (.Name x p1) [.In] [.Name nm p2] p3) (fun c => decide (c ∈ z.cps.toList)) := by
  intro cenv A' E' c t s mz sc gl up nz mx
  have kc : cenv.scope.kind = .function := by rw [sc]; exact kind
  refine wpAny_Compare1 ?_
  refine wpAny_Name (wpAny_loadName_local kc (show cenv.scope.names.lookup x = _ by rw [sc]; exact kx) nz mx ?_) dx
  refine Calls.Name_function_global kc (show cenv.scope.names.lookup nm = _ by rw [sc]; exact kn) (Calls.loadGlobal_global (by rw [gl]; exact M.glob.keeps up) hmg ?_) dn
  exact PyProof.Rows.in_str ⟨congrArg Value.bool (PySem.StrLaws.found_one z c), GxR.keeps_tok _ _⟩
/-- the state when the generator's code object was got: the table at P may be longer -/
structure Got (P : Addr) (ps : Array Value) (z z' : Shared) : Prop where
  same : z' = { z with heap := z'.heap, toks := z'.toks }
  ext : Heap.ExtBut P z.heap z'.heap
  size : z.heap.objs.size ≤ z'.heap.objs.size
  tab : ∃ more, z'.heap.get? P = some { cls := .none, data := .fields (ps ++ more) } ∧ TriplesOk (ps ++ more).toList
theorem code_got {prog : Program} {w : World} {A : Around} {E : Value → Shared → Prop} {env : Env} {gpos : Pos} {nm : Str} {scope : Scope} {c P : Addr} {ps : Array Value} {z : Shared}
    (hcode : env.code = .ref c) (cd : PySem.W.CodeHd z.heap c P) (hP : z.heap.get? P = some { cls := .none, data := .fields ps }) (ht : TriplesOk ps.toList) :
    wpAny (model prog w) A (genexprCode env gpos nm scope) (fun _ z' => Got P ps z z') E z := by
  cases among : codeAmong gpos ps.toList with
  | some cv => exact wpAny_genexprCode_hit hcode (cd.code hP ht) among ⟨rfl, .refl _ _, Nat.le_refl _, #[], by simpa using hP, by simpa using ht⟩
  | none =>
    refine wpAny_genexprCodeX hcode (cd.code hP ht) (cd.tab hP) among fun c' h' tk ext ge lt co _ tab _ => ?_
    obtain ⟨_, _, _, _, _, _, _, _, _, _, _, _, _, _, _, _, _, _, _, tr, _⟩ := co
    exact ⟨rfl, ext, Nat.le_trans ge (Nat.le_of_lt lt), _, tab.2, tr⟩
/-- a generator g of n truths pb, about to be walked; however far it is walked, H1 stands but for the table -/
def Poised (X : Cx) (pins : List (Addr × Obj)) (σ : L2.St) (H1 : Hp) (P : Addr) (n : Nat) (pb : Nat → Bool) (g : Addr) (z : Shared) : Prop :=
  ∃ (foot own : List Addr) (Gn : Array GenState → Array GenState → Prop) (Fn : Nat → Value → Prop) (Sn : Nat → Shared → Prop),
    WalksS X.prog X.w X.A.in1 g foot own Gn n Fn Sn ∧ Sn 0 z ∧ TruthOf X.prog X.w X.A.in1 Fn pb ∧ ∀ z', Moved own Gn z z' → ∃ H2, Tabbed P H1 H2 ∧ Inv X pins σ H2 z'
theorem gen_signs {X : Cx} {pins : List (Addr × Obj)} {σ : L2.St} {H : Hp} {s : Shared} {c P : Addr} {elt iter : Expr} {x : Str} {px gpos : Pos} {scope : Scope} {te : TE} {pb : Nat → Bool} {k : Nat} {Qg : Value → Shared → Prop}
    (hr : Room k X.A) (TB : TabB X.base X.mg c P) (hcode : X.env.code = .ref c) (S : GenS X.env scope x) (hi : PE X iter te) (look : LooksC X scope x elt pb) (hs : ∀ v, genFold iter X.env v = pure v) (I : Inv X pins σ H s)
    {R : VK} (h : te σ H R) (hR : ∀ v H1, R v H1 → ∃ a : Str, v = .str a ∧ TabG H1 P ∧ ∀ g z, Poised X pins σ H1 P a.cps.size (trF pb a.cps.toList) g z → Qg (.ref g) z) :
    wpAny (model X.prog X.w) X.A (eval (.GeneratorExp elt [⟨.Name x px, iter, [], 0⟩] scope gpos) X.env) Qg X.xe s := by
  refine wpAny_GeneratorExp_walksQD hr.hd S.co (closure_ok S.free) S.cell S.dot S.loc S.kind (by have := hr.dp; omega) ?_ hs
  refine thn (hi.run pins s σ H _ I h) fun u s1 ⟨v, H1, I1, rel, now⟩ => ?_
  obtain ⟨a, ev, ⟨ps, hP, tri⟩, fin⟩ := hR v H1 now
  subst ev
  obtain ⟨ta, rfl⟩ : ∃ ta, u = Value.str a ta := rel
  refine wpAny_pyIter_str fun ob0 St walk first => ?_
  have tabP : s1.heap.get? P = some { cls := .none, data := .fields ps } := I1.hok P _ hP
  have pushed : ∀ b o, s1.heap.get? b = some o → (s1.heap.push ob0).get? b = some o := fun b o e => Heap.get?_push_of_some _ e
  have wider : (s1.heap.push ob0).objs.size = s1.heap.objs.size + 1 := Heap.size_push ..
  generalize s1.heap.push ob0 = h2 at pushed first wider ⊢
  have pl : P < s1.heap.objs.size := Heap.lt_size tabP
  have cl : cStatics < s1.heap.objs.size := let ⟨_, hn, _⟩ := I1.nolimit; hn.lt
  have cP : cStatics ≠ P := fun e => by
    obtain ⟨_, ⟨o, es, ep, ho, hd, _⟩, _⟩ := I1.nolimit
    rw [e, tabP] at ho
    cases ho
    cases hd
  have lim2 : h2.NoLimit := I1.nolimit.keeps pushed
  refine ⟨lim2, thn (code_got (ps := ps) hcode (TB.code.keeps fun b o e => pushed b o (I1.bk b o e)) (pushed _ _ tabP) tri) fun code s3 got => ?_⟩
  obtain ⟨eq3, ext, wide, more, hP3, tri3⟩ := got
  obtain ⟨h3, g3, d3, t3, o3⟩ := s3
  obtain ⟨rfl, rfl, rfl⟩ : g3 = s1.gens ∧ d3 = s1.drawn ∧ o3 = s1.os := by
    have := eq3
    simp only [Shared.mk.injEq] at this
    exact ⟨this.2.1, this.2.2.1, this.2.2.2.2⟩
  replace ext : Heap.ExtBut P h2 h3 := ext
  replace wide : h2.objs.size ≤ h3.objs.size := wide
  have kept : ∀ b o, b ≠ P → s1.heap.get? b = some o → h3.get? b = some o := fun b o nb e => ext b o nb (pushed b o e)
  obtain ⟨bm, ob, b1, b2, b3, b4, b5, b6, b7, b8⟩ := TB.bm
  refine wpAny_builtinsFor (m := X.mg) (by rw [I1.ok.glob]; exact (I1.mod.glob.keeps fun b o e => pushed b o (I1.bk b o e)).extBut ext TB.gP) b1 b2 (kept _ _ b4 (I1.bk _ _ b5)) b6 b7 b8 ?_
  refine ⟨s1.heap.objs.size, [s1.heap.objs.size], [s1.heap.objs.size], a.cps.size, SignAt a, St, (fun _ => true), (fun i y => ∃ cc, a.cps[i]? = some cc ∧ y = .bool (pb cc)), rfl, walk, ?_, ?_, lim2.extBut ext cP, ?_, ?_, ?_⟩
  · refine (walk X.A hr.hd).frame _ _ _ first fun b hb u e => ext b u (fun z => ?_) e
    rw [List.mem_singleton.mp hb] at z
    exact Nat.ne_of_lt pl z.symm
  · intro b hb
    rw [List.mem_singleton.mp hb]
    show s1.heap.objs.size < h3.objs.size
    omega
  · intro z
    exact Nat.ne_of_lt cl (List.mem_singleton.mp z)
  · intro href above
    refine ⟨fun A' E' i v z mz _ _ _ _ _ _ _ => ?_, fun A' E' i v z mz _ dep _ pv _ nz mx up => ?_⟩
    · rw [List.forIn_nil]
      exact wpAny_pure ⟨rfl, GxR.keeps_refl z⟩
    · obtain ⟨cc, uc, at_, rfl⟩ := pv
      refine wpAny_mono (look _ A' E' cc uc z mz rfl I1.ok.glob (fun b o e => ?_) nz mx) (fun y z' r => ⟨⟨cc, at_, r.1⟩, r.2⟩) fun _ _ e => e
      have nb : b ≠ P := fun q => by
        have := (I1.bs b o e).2
        rw [q, hP] at this
        cases this
      have e1 := kept b o nb (I1.bk b o e)
      have bl := Heap.lt_size (I1.bk b o e)
      exact up b (List.mem_range.mpr (Heap.lt_size e1)) (fun q => Nat.ne_of_lt bl (List.mem_singleton.mp q)) o (above b o e1)
  · intro g h5 tk5 gs bare gt size5 kept5 W st0
    have many : (passing (fun _ => true) a.cps.size 0).length = a.cps.size := by rw [GxR.passing_true, List.length_range]
    rw [many] at W
    refine fin g _ ⟨_, _, _, _, _, W.in4_1, st0, fun j y z Qj Ej hy now => ?_, fun z' mv => ?_⟩
    · obtain ⟨i, hij, cc, hcc, rfl⟩ := hy
      rw [GxR.passing_true] at hij
      obtain ⟨lt, ij⟩ := List.getElem?_eq_some_iff.mp hij
      rw [List.getElem_range] at ij
      subst ij
      have now : Qj (trF pb a.cps.toList j) z := now
      rw [trF_some (b := cc) (by rw [Array.getElem?_toList]; exact hcc)] at now
      exact wpAny_truthy_bool now
    · have un : ∀ b o, s1.heap.get? b = some o → b ∉ h3.objs.size :: [s1.heap.objs.size] := fun b o e q => by
        have bl := Heap.lt_size e
        have past : s1.heap.objs.size < h3.objs.size := by omega
        have either : b = h3.objs.size ∨ b = s1.heap.objs.size := by simpa using q
        rcases either with q | q
        · exact Nat.ne_of_lt (Nat.lt_trans bl past) q
        · exact Nat.ne_of_lt bl q
      have J := inv_tab (more := more) (h' := z'.heap) (g' := z'.gens) (d' := z'.drawn) (t' := z'.toks) I1 hP (fun b o nb e => mv.heap b o (un b o e) (kept5 b o (kept b o nb e))) (mv.heap P _ (un P _ tabP) (kept5 P _ hP3)) (AllBare.movedS (I1.bare.push bare) mv)
      rw [sh_eta s1 z' mv.os] at J
      exact ⟨_, ⟨⟨_, upd_same, tri3⟩, fun b nb => upd_ne nb⟩, J⟩
theorem pe_allC {X : Cx} (K : PySem.W.Frag) (hK : X.K = K) {c P : Addr} {elt iter : Expr} {x : Str} {px p pos gpos : Pos} {scope : Scope} {te : TE} {pb : Nat → Bool} {k : Nat}
    (hr : Room k X.A) (hg : Gl X "all") (hm : X.mg "all" = none) (hb : bootBuiltins "all" = some (.builtin "all")) (TB : TabB X.base X.mg c P) (hcode : X.env.code = .ref c) (S : GenS X.env scope x) (hi : PE X iter te) (look : L2.Mod X.K X.mg X.base → LooksC X scope x elt pb)
    (hs : ∀ v, genFold iter X.env v = pure v) (he : starEach [.GeneratorExp elt [⟨.Name x px, iter, [], 0⟩] scope gpos] X.env = (false, eval (.GeneratorExp elt [⟨.Name x px, iter, [], 0⟩] scope gpos) X.env) :: starEach [] X.env := by rfl) :
    PE X (.Call (.Name "all" p) [.GeneratorExp elt [⟨.Name x px, iter, [], 0⟩] scope gpos] [] pos) (tAllS P pb te) := by
  subst hK
  refine ⟨fun pins s σ H Q I h => ?_⟩
  refine wpAny_Call_Name_kw (ld_blt I hg hm hb (PyProof.Rows.callWith_builtin1 ?_ he rfl))
  rw [he]
  refine Calls.spliced_cons (gen_signs hr TB hcode S hi (look I.mod) hs I h fun v H1 now => ?_)
  obtain ⟨a, rfl, tab, fin⟩ := now
  refine ⟨a, rfl, tab, fun g z poised => Calls.spliced_nil ?_⟩
  obtain ⟨fp, wr, G, F, St, walks, st0, truth, after⟩ := poised
  refine call_all_walkS (walks.self 0 _ _ _ st0 ⟨g, fp, wr, G, _, F, St, _, rfl, walks, st0, truth, fun z' mv => ?_⟩)
  obtain ⟨H2, tb, J⟩ := after z' mv
  refine ⟨.bl _, H2, J, rfl, ?_⟩
  rw [all_signs a pb]
  exact fin H2 tb
/-- a def of which the code object is known -/
theorem genS_of {env : Env} {scope : Scope} {x : Str} (h1 : scope.kind = .function) (h2 : scope.isCoroutine = false) (h3 : ∀ y ∈ scope.names, y.2 ≠ .cell) (h4 : scope.names.lookup (".0" : Str) = some NameKind.local) (h5 : scope.names.lookup x = some .local) (h6 : ∀ y ∈ scope.names, y.2 ≠ .free) : GxR.GenS env scope x :=
  ⟨h1, h2, h3, h4, h5, fun y hy z => absurd z (h6 y hy)⟩
end

open PySem.NumText
def isFig (c : Nat) : Bool := decide (c ∈ figS.cps.toList)
theorem figs_eq : figS.cps.toList = [48, 49, 50, 51, 52, 53, 54, 55, 56, 57] := by decide +kernel
theorem isFig_iff {c : Nat} : isFig c = true ↔ 48 ≤ c ∧ c ≤ 57 := by
  unfold isFig
  rw [figs_eq, decide_eq_true_iff]
  constructor
  · intro h
    simp only [List.mem_cons, List.not_mem_nil, or_false] at h
    omega
  · intro h
    simp only [List.mem_cons, List.not_mem_nil, or_false]
    omega
/-- what stands behind a minus at the front -/
def figL (l : List Nat) : List Nat := if l.head? = some 45 then l.tail else l
/-- the number that a text writes -/
def numO (l : List Nat) : Option Int :=
  if (figL l).length < 1 ∨ 9 < (figL l).length then none
  else if (figL l).all isFig = false then none
  else if (figL l).head? = some 48 ∧ l ≠ [48] then none
  else some ((if l.head? = some 45 then -1 else 1) * ((digitsVal (figL l) : Nat) : Int))
def numV : Option Int → V
  | none => .non
  | some n => .int n
theorem str_inj {a b : Str} (h : a.cps.toList = b.cps.toList) : a = b := by
  cases a; cases b
  exact congrArg _ (Array.toList_inj.mp h)
theorem prefix_minus (a : Str) : (Txt.removeprefix a "-").cps.toList = figL a.cps.toList := by
  rw [PySem.StrLaws.removeprefix_eq]
  obtain ⟨arr⟩ := a
  obtain ⟨l⟩ := arr
  have e1 : (("-" : Str) : Str) = ⟨#[45]⟩ := by decide +kernel
  rw [e1]
  cases l with
  | nil => rfl
  | cons c r =>
    have el : Str.length ⟨#[45]⟩ = 1 := rfl
    have es : Str.length ⟨(c :: r).toArray⟩ = r.length + 1 := rfl
    have eb : Builtin.Str.subAt ⟨(c :: r).toArray⟩ ⟨#[45]⟩ 0 = decide (c = 45) := by
      unfold Builtin.Str.subAt
      by_cases h : c = 45
      · subst h
        simp [Str.length]
      · rw [decide_eq_false h]
        simp [Str.length, h]
    rw [eb, el, es]
    by_cases h : c = 45
    · subst h
      simp [figL]
    · simp [figL, h]
theorem fig_digits {l : List Nat} (h : l.all isFig = true) : AllDigits l := fun c hc => isFig_iff.mp (List.all_eq_true.mp h c hc)
theorem numO_some {l : List Nat} {n : Int} (h : numO l = some n) : (figL l).length ≤ 9 ∧ figL l ≠ [] ∧ AllDigits (figL l) ∧ n = (if l.head? = some 45 then -1 else 1) * ((digitsVal (figL l) : Nat) : Int) := by
  unfold numO at h
  by_cases h1 : (figL l).length < 1 ∨ 9 < (figL l).length
  · rw [if_pos h1] at h; cases h
  rw [if_neg h1] at h
  by_cases h2 : (figL l).all isFig = false
  · rw [if_pos h2] at h; cases h
  rw [if_neg h2] at h
  by_cases h3 : (figL l).head? = some 48 ∧ l ≠ [48]
  · rw [if_pos h3] at h; cases h
  rw [if_neg h3] at h
  refine ⟨by omega, fun z => ?_, fig_digits (by simpa using h2), (Option.some.inj h).symm⟩
  rw [z] at h1
  exact h1 (.inl (by decide))
theorem int_reads {a : Str} {n : Int} (h : numO a.cps.toList = some n) : PySem.intText? a = some n := by
  obtain ⟨l1, l2, l3, rfl⟩ := numO_some h
  have la : a.cps.toList.length = a.length := Array.length_toList
  by_cases hd : a.cps.toList.head? = some 45
  · have ef : figL a.cps.toList = a.cps.toList.tail := if_pos hd
    have ec : a.cps.toList = 45 :: figL a.cps.toList := by
      rw [ef]
      cases hl : a.cps.toList with
      | nil => rw [hl] at hd; cases hd
      | cons c r =>
        rw [hl] at hd
        have : c = 45 := Option.some.inj hd
        rw [this]; rfl
    have e := intText_neg ec l3 l2 (by rw [← la, ec, List.length_cons]; omega)
    rw [e, if_pos hd]
    congr 1
    omega
  · have ef : figL a.cps.toList = a.cps.toList := if_neg hd
    rw [ef] at l1 l2 l3
    have e := intText_digits l3 l2 (by rw [← la]; omega)
    rw [e, if_neg hd, ef]
    congr 1
    omega
/-- text[:1] == "-" -/
theorem cut_head (a : Str) : decide (V.str (cutS a none (some 1)) = V.str "-") = decide (a.cps.toList.head? = some 45) := by
  have e1 : (("-" : Str) : Str) = ⟨#[45]⟩ := by decide +kernel
  rw [e1]
  obtain ⟨arr⟩ := a
  obtain ⟨l⟩ := arr
  cases l with
  | nil => decide
  | cons c r =>
    have e2 : cutS ⟨(c :: r).toArray⟩ none (some 1) = ⟨#[c]⟩ := by
      refine str_inj ?_
      show (((c :: r).drop 0).take (HT.sIx (r.length + 1) (r.length + 1) (some ((1 : Nat) : Int)) - HT.sIx (r.length + 1) 0 none)) = [c]
      rw [HT.sIx_none, HT.sIx_nat]
      have : min 1 (r.length + 1) - 0 = 1 := by omega
      rw [this]
      rfl
    rw [e2]
    by_cases h : c = 45
    · subst h; rfl
    · rw [decide_eq_false (fun z : (c :: r).head? = some 45 => h (Option.some.inj z)), decide_eq_false]
      intro z
      have z := V.str.inj z
      injection z with z
      have z2 : [c] = [45] := congrArg Array.toList z
      exact h (List.cons.inj z2).1
theorem cut_tail (a : Str) : (cutS a (some 1) none).cps.toList = a.cps.toList.tail := by
  obtain ⟨arr⟩ := a
  obtain ⟨l⟩ := arr
  cases l with
  | nil => rfl
  | cons c r =>
    show (((c :: r).drop (HT.sIx (r.length + 1) 0 (some ((1 : Nat) : Int)))).take (HT.sIx (r.length + 1) (r.length + 1) none - HT.sIx (r.length + 1) 0 (some ((1 : Nat) : Int)))) = r
    rw [HT.sIx_none, HT.sIx_nat]
    have : min 1 (r.length + 1) = 1 := by omega
    rw [this]
    show r.take (r.length + 1 - 1) = r
    rw [Nat.add_sub_cancel, List.take_length]
/-- a number written is read back -/
theorem toDig_head : ∀ m : Nat, 0 < m → (Nat.toDigits 10 m).head? ≠ some '0' := by
  intro m
  induction m using Nat.strongRecOn with
  | _ m ih =>
    intro h0
    by_cases h : m < 10
    · rw [Nat.toDigits_of_lt_base h]
      have : m = 1 ∨ m = 2 ∨ m = 3 ∨ m = 4 ∨ m = 5 ∨ m = 6 ∨ m = 7 ∨ m = 8 ∨ m = 9 := by omega
      rcases this with rfl | rfl | rfl | rfl | rfl | rfl | rfl | rfl | rfl <;> decide
    · have hm : m % 10 < 10 := Nat.mod_lt m (by decide)
      have t : Nat.toDigits 10 (m / 10) ++ Nat.toDigits 10 (m % 10) = Nat.toDigits 10 (10 * (m / 10) + m % 10) := Nat.toDigits_append_toDigits (by decide) (by omega) hm
      rw [Nat.div_add_mod] at t
      have q := ih (m / 10) (by omega) (by omega)
      rw [← t]
      cases hd : Nat.toDigits 10 (m / 10) with
      | nil =>
        have := PySem.W.KIN.val_back (m / 10)
        rw [hd] at this
        have : 0 = m / 10 := this
        omega
      | cons c r => rw [hd] at q; exact q
theorem toDig_len : ∀ (k m : Nat), m < 10 ^ (k + 1) → (Nat.toDigits 10 m).length ≤ k + 1
  | 0, m, h => by
    rw [Nat.toDigits_of_lt_base (by simpa using h)]
    exact Nat.le_refl _
  | k + 1, m, h => by
    by_cases h2 : m < 10
    · rw [Nat.toDigits_of_lt_base h2]
      show 1 ≤ _
      omega
    · have hm : m % 10 < 10 := Nat.mod_lt m (by decide)
      have t : Nat.toDigits 10 (m / 10) ++ Nat.toDigits 10 (m % 10) = Nat.toDigits 10 (10 * (m / 10) + m % 10) := Nat.toDigits_append_toDigits (by decide) (by omega) hm
      rw [Nat.div_add_mod] at t
      have q := toDig_len k (m / 10) (by rw [Nat.pow_succ] at h; omega)
      rw [← t, List.length_append, Nat.toDigits_of_lt_base hm]
      show _ + 1 ≤ _
      omega
theorem toDig_ne (m : Nat) : Nat.toDigits 10 m ≠ [] := by
  by_cases h : m < 10
  · rw [Nat.toDigits_of_lt_base h]; exact List.cons_ne_nil _ _
  · intro e
    have := PySem.W.KIN.val_back m
    rw [e] at this
    have : 0 = m := this
    omega
theorem dig_fig {m c : Nat} (h : c ∈ (Nat.toDigits 10 m).map Char.toNat) : 48 ≤ c ∧ c ≤ 57 := by
  obtain ⟨ch, hch, e⟩ := List.mem_map.mp h
  have r := digit_range (Nat.isDigit_of_mem_toDigits (by decide) (by decide) hch)
  rw [← e]
  exact r
/-- the figures of m -/
def digN (m : Nat) : List Nat := (Nat.toDigits 10 m).map Char.toNat
theorem digN_zero : digN 0 = [48] := by decide
theorem digN_head {m : Nat} (h : 0 < m) : (digN m).head? ≠ some 48 := by
  unfold digN
  have q := toDig_head m h
  cases hd : Nat.toDigits 10 m with
  | nil => intro z; cases z
  | cons c r =>
    rw [hd] at q
    intro z
    have z : c.toNat = 48 := Option.some.inj z
    refine q (congrArg some (Char.ext ?_))
    exact UInt32.toNat_inj.mp z
theorem head_mem {l : List Nat} {c : Nat} (h : l.head? = some c) : c ∈ l := by
  cases l with
  | nil => cases h
  | cons d r => rw [← Option.some.inj h]; exact List.mem_cons_self ..
theorem digN_45 (m : Nat) : (digN m).head? ≠ some 45 := fun z => by
  have := dig_fig (m := m) (head_mem z)
  omega
theorem digN_all (m : Nat) : (digN m).all isFig = true := List.all_eq_true.mpr fun c hc => isFig_iff.mpr (dig_fig (m := m) hc)
theorem num_pos {m : Nat} (h : m < 10 ^ 9) : numO (digN m) = some (m : Int) := by
  have ef : figL (digN m) = digN m := if_neg (digN_45 m)
  have l1 : (digN m).length ≤ 9 := by unfold digN; rw [List.length_map]; exact toDig_len 8 m h
  have l2 : 0 < (digN m).length := by unfold digN; rw [List.length_map]; exact List.length_pos_iff.mpr (toDig_ne m)
  unfold numO
  rw [ef, if_neg (by omega), if_neg (by rw [digN_all]; exact Bool.noConfusion), if_neg, if_neg (digN_45 m)]
  · have : digitsVal (digN m) = m := PySem.W.KIN.val_back m
    rw [this]
    congr 1
    omega
  · rintro ⟨z1, z2⟩
    by_cases h0 : m = 0
    · rw [h0] at z2; exact z2 digN_zero
    · exact digN_head (by omega) z1
theorem num_neg {m : Nat} (h0 : 0 < m) (h : m < 10 ^ 9) : numO (45 :: digN m) = some (-(m : Int)) := by
  have ef : figL (45 :: digN m) = digN m := if_pos rfl
  have l1 : (digN m).length ≤ 9 := by unfold digN; rw [List.length_map]; exact toDig_len 8 m h
  have l2 : 0 < (digN m).length := by unfold digN; rw [List.length_map]; exact List.length_pos_iff.mpr (toDig_ne m)
  unfold numO
  rw [ef, if_neg (by omega), if_neg (by rw [digN_all]; exact Bool.noConfusion), if_neg]
  · have : digitsVal (digN m) = m := PySem.W.KIN.val_back m
    rw [if_pos (show (45 :: digN m).head? = some 45 from rfl), this]
    congr 1
    omega
  · rintro ⟨z1, z2⟩
    exact digN_head h0 z1
theorem str_pos (m : Nat) : (Str.ofString (toString ((m : Nat) : Int))).cps.toList = digN m := PySem.W.KIN.signs_num m
theorem str_neg {m : Nat} (h : 0 < m) : (Str.ofString (toString (-(m : Int)))).cps.toList = 45 :: digN m := by
  obtain ⟨k, rfl⟩ : ∃ k, m = k + 1 := ⟨m - 1, by omega⟩
  rw [signs_ofString]
  show (("-" ++ Nat.repr (k + 1) : String)).toList.map Char.toNat = _
  rw [String.toList_append, List.map_append, Nat.toList_repr]
  rfl
/-! ### texts as lists of signs: parted and put together -/
def splitL (c : Nat) : List Nat → List (List Nat)
  | [] => [[]]
  | d :: l => if d = c then [] :: splitL c l else
    match splitL c l with
    | [] => [[d]]
    | p :: r => (d :: p) :: r
def joinL (c : Nat) : List (List Nat) → List Nat
  | [] => []
  | [p] => p
  | p :: q :: r => p ++ c :: joinL c (q :: r)
theorem splitL_ne (c : Nat) (l : List Nat) : splitL c l ≠ [] := by
  cases l with
  | nil => exact List.cons_ne_nil _ _
  | cons d l =>
    unfold splitL
    split
    · exact List.cons_ne_nil _ _
    · split <;> exact List.cons_ne_nil _ _
theorem splitL_cons {c d : Nat} {l : List Nat} (h : d ≠ c) : ∃ p r, splitL c l = p :: r ∧ splitL c (d :: l) = (d :: p) :: r := by
  cases e : splitL c l with
  | nil => exact absurd e (splitL_ne c l)
  | cons p r =>
    refine ⟨p, r, rfl, ?_⟩
    show (if d = c then _ else _) = _
    rw [if_neg h, e]
theorem joinL_split (c : Nat) : ∀ l : List Nat, joinL c (splitL c l) = l
  | [] => rfl
  | d :: l => by
    have ih := joinL_split c l
    by_cases h : d = c
    · subst h
      show joinL d (if d = d then [] :: splitL d l else _) = _
      rw [if_pos rfl]
      cases e : splitL d l with
      | nil => exact absurd e (splitL_ne d l)
      | cons p r =>
        rw [e] at ih
        show [] ++ d :: joinL d (p :: r) = d :: l
        rw [ih]; rfl
    · obtain ⟨p, r, e1, e2⟩ := splitL_cons (l := l) h
      rw [e2]
      rw [e1] at ih
      cases r with
      | nil =>
        show d :: p = d :: l
        rw [show p = l from ih]
      | cons q r =>
        show d :: p ++ c :: joinL c (q :: r) = d :: l
        have ih : p ++ c :: joinL c (q :: r) = l := ih
        rw [← ih]; rfl
theorem splitL_join {c : Nat} : ∀ {ps : List (List Nat)}, ps ≠ [] → (∀ p ∈ ps, c ∉ p) → splitL c (joinL c ps) = ps
  | [], h, _ => absurd rfl h
  | [p], _, g => by
    have key : ∀ p : List Nat, c ∉ p → splitL c p = [p] := fun p => by
      induction p with
      | nil => intro _; rfl
      | cons d p ih =>
        intro h
        obtain ⟨q, r, e1, e2⟩ := splitL_cons (c := c) (d := d) (l := p) (fun z => h (by rw [z]; exact List.mem_cons_self ..))
        rw [ih fun z => h (List.mem_cons_of_mem _ z)] at e1
        rw [e2]
        obtain ⟨rfl, rfl⟩ : p = q ∧ [] = r := ⟨(List.cons.inj e1).1, (List.cons.inj e1).2⟩
        rfl
    exact key p (g p (List.mem_cons_self ..))
  | p :: q :: r, _, g => by
    have ih := splitL_join (c := c) (ps := q :: r) (List.cons_ne_nil _ _) fun x hx => g x (List.mem_cons_of_mem _ hx)
    have key : ∀ p : List Nat, c ∉ p → splitL c (p ++ c :: joinL c (q :: r)) = p :: q :: r := fun p => by
      induction p with
      | nil =>
        intro _
        show (if c = c then [] :: splitL c _ else _) = _
        rw [if_pos rfl, ih]
      | cons d p ih2 =>
        intro h
        obtain ⟨x, y, e1, e2⟩ := splitL_cons (c := c) (d := d) (l := p ++ c :: joinL c (q :: r)) (fun z => h (by rw [z]; exact List.mem_cons_self ..))
        rw [ih2 fun z => h (List.mem_cons_of_mem _ z)] at e1
        show splitL c (d :: (p ++ _)) = _
        rw [e2]
        obtain ⟨rfl, rfl⟩ : p = x ∧ q :: r = y := ⟨(List.cons.inj e1).1, (List.cons.inj e1).2⟩
        rfl
    exact key p (g p (List.mem_cons_self ..))
theorem splitL_no {c : Nat} : ∀ {l : List Nat}, ∀ p ∈ splitL c l, c ∉ p
  | [], p, hp => by
    obtain rfl := List.mem_singleton.mp hp
    exact List.not_mem_nil
  | d :: l, p, hp => by
    by_cases h : d = c
    · have e : splitL c (d :: l) = [] :: splitL c l := if_pos h
      rw [e] at hp
      rcases List.mem_cons.mp hp with rfl | hp
      · exact List.not_mem_nil
      · exact splitL_no p hp
    · obtain ⟨x, y, e1, e2⟩ := splitL_cons (l := l) h
      rw [e2] at hp
      rcases List.mem_cons.mp hp with rfl | hp
      · intro z
        rcases List.mem_cons.mp z with z | z
        · exact h z.symm
        · exact splitL_no x (by rw [e1]; exact List.mem_cons_self ..) z
      · exact splitL_no p (by rw [e1]; exact List.mem_cons_of_mem _ hp)
/-! ### the model's split and join of one sign -/
section
open PySem.StrLaws PySem.Builtin PySem.Builtin.Str
theorem occ_all {x : PySem.Str} {c hi limit : Nat} : ∀ (n lo : Nat) (acc : Array Nat) (f : Nat), f ≤ lo → acc.size + n ≤ limit →
    (forIn (List.range' lo n) (acc, f) (occBody x ⟨#[c]⟩ hi limit)).run.fst.toList = acc.toList ++ (List.range' lo n).filter fun i => decide (i + 1 ≤ hi) && subAt x ⟨#[c]⟩ i
  | 0, _, acc, _, _, _ => by
    show acc.toList = acc.toList ++ []
    rw [List.append_nil]
  | n + 1, lo, acc, f, hf, hl => by
    rw [List.range'_succ, List.forIn_cons, List.filter_cons]
    unfold occBody
    by_cases h : lo + 1 ≤ hi ∧ subAt x ⟨#[c]⟩ lo = true
    · have a : ((acc.size < limit ∧ f ≤ lo) ∧ lo + PySem.Str.length ⟨#[c]⟩ ≤ hi) ∧ subAt x ⟨#[c]⟩ lo = true := ⟨⟨⟨by omega, hf⟩, h.1⟩, h.2⟩
      rw [if_pos a, if_pos (by rw [Bool.and_eq_true]; exact ⟨decide_eq_true h.1, h.2⟩)]
      have ih := occ_all (x := x) (c := c) (hi := hi) (limit := limit) n (lo + 1) (acc.push lo) (lo + 1) (Nat.le_refl _) (by rw [Array.size_push]; omega)
      refine Eq.trans ih ?_
      rw [Array.toList_push, List.append_assoc]; rfl
    · have a : ¬ (((acc.size < limit ∧ f ≤ lo) ∧ lo + PySem.Str.length ⟨#[c]⟩ ≤ hi) ∧ subAt x ⟨#[c]⟩ lo = true) := fun z => h ⟨z.1.2, z.2⟩
      rw [if_neg a, if_neg (by rw [Bool.and_eq_true]; exact fun z => h ⟨of_decide_eq_true z.1, z.2⟩)]
      exact occ_all (x := x) (c := c) (hi := hi) (limit := limit) n (lo + 1) acc f (by omega) (by omega)
theorem sub_one {x : PySem.Str} {c i : Nat} (h : i < x.cps.toList.length) : subAt x ⟨#[c]⟩ i = decide (x.cps.toList[i]? = some c) := by
  rw [subAt_eq]
  have e : (x.cps.toList.drop i).take (PySem.Str.length ⟨#[c]⟩) = [x.cps.toList[i]] := by
    rw [List.drop_eq_getElem_cons h]; rfl
  rw [e, List.getElem?_eq_getElem h]
  show ([x.cps.toList[i]] == [c]) = _
  by_cases z : x.cps.toList[i] = c
  · rw [z, decide_eq_true rfl]; exact beq_self_eq_true _
  · rw [decide_eq_false (fun y => z (Option.some.inj y))]
    exact beq_eq_false_iff_ne.mpr fun y => z (List.cons.inj y).1
theorem strlen (x : PySem.Str) : x.length = x.cps.toList.length := by simp [PySem.Str.length]
/-- from a cut on: the pieces of the rest -/
theorem parts_rest {x : PySem.Str} {c : Nat} : ∀ (n a s : Nat), s ≤ a → a + n = x.cps.toList.length →
    ∃ p r, splitL c (x.cps.toList.drop a) = p :: r ∧
      (partsFrom x 1 s ((List.range' a (n + 1)).filter fun i => decide (i + 1 ≤ x.length) && subAt x ⟨#[c]⟩ i)).map (fun z => z.cps.toList) = ((x.cps.toList.drop s).take (a - s) ++ p) :: r
  | 0, a, s, hs, hn => by
    have e : (List.range' a (0 + 1)).filter (fun i => decide (i + 1 ≤ x.length) && subAt x ⟨#[c]⟩ i) = [] := by
      rw [List.range'_succ, List.filter_cons, if_neg (by rw [strlen, decide_eq_false (by omega), Bool.false_and]; decide)]; rfl
    rw [e]
    have d0 : x.cps.toList.drop a = [] := List.drop_eq_nil_of_le (by omega)
    refine ⟨[], [], by rw [d0]; rfl, ?_⟩
    show [(strSub x s x.length).cps.toList] = _
    rw [strSub_toList, strlen, List.append_nil, show x.cps.toList.length - s = a - s by omega]
  | n + 1, a, s, hs, hn => by
    have al : a < x.cps.toList.length := by omega
    have dc : x.cps.toList.drop a = x.cps.toList[a] :: x.cps.toList.drop (a + 1) := List.drop_eq_getElem_cons al
    rw [List.range'_succ, List.filter_cons, sub_one al, List.getElem?_eq_getElem al, dc]
    by_cases h : x.cps.toList[a] = c
    · rw [if_pos (by rw [strlen, decide_eq_true (by omega), decide_eq_true (congrArg some h)]; rfl)]
      obtain ⟨p, r, e1, e2⟩ := parts_rest (x := x) (c := c) n (a + 1) (a + 1) (Nat.le_refl _) (by omega)
      refine ⟨[], p :: r, ?_, ?_⟩
      · show (if _ = c then [] :: splitL c _ else _) = _
        rw [if_pos h, e1]
      · show (strSub x s a).cps.toList :: (partsFrom x 1 (a + 1) _).map _ = _
        rw [e2, strSub_toList, Nat.sub_self, List.take_zero, List.nil_append, List.append_nil]
    · rw [if_neg (by rw [decide_eq_false (fun y => h (Option.some.inj y)), Bool.and_false]; decide)]
      obtain ⟨p, r, e1, e2⟩ := parts_rest (x := x) (c := c) n (a + 1) s (by omega) (by omega)
      obtain ⟨p', r', f1, f2⟩ := splitL_cons (c := c) (d := x.cps.toList[a]) (l := x.cps.toList.drop (a + 1)) h
      rw [e1] at f1
      obtain ⟨rfl, rfl⟩ : p = p' ∧ r = r' := ⟨(List.cons.inj f1).1, (List.cons.inj f1).2⟩
      refine ⟨_, _, f2, ?_⟩
      rw [e2]
      have t : (x.cps.toList.drop s).take (a + 1 - s) = (x.cps.toList.drop s).take (a - s) ++ [x.cps.toList[a]] := by
        rw [show a + 1 - s = (a - s) + 1 by omega, List.take_add_one, List.getElem?_drop, show s + (a - s) = a by omega, List.getElem?_eq_getElem al]; rfl
      rw [t, List.append_assoc]; rfl
theorem split_one (x : PySem.Str) {c : Nat} (hc : c < 256) : (PySem.Txt.split x ⟨#[c]⟩).map (fun z => z.cps.toList) = splitL c x.cps.toList := by
  unfold PySem.Txt.split
  have k : ¬ PySem.Builtin.Str.strKind x < PySem.Builtin.Str.strKind ⟨#[c]⟩ := by
    have e : PySem.Builtin.Str.strKind (⟨#[c]⟩ : PySem.Str) = 1 := by unfold PySem.Builtin.Str.strKind; simp [hc]
    rw [e]
    unfold PySem.Builtin.Str.strKind
    split
    · omega
    · split <;> omega
  by_cases e : x.length < PySem.Str.length ⟨#[c]⟩
  · rw [if_pos (by rw [decide_eq_true e]; rfl)]
    have z : x.cps.toList = [] := List.eq_nil_of_length_eq_zero (by rw [← strlen]; exact Nat.lt_one_iff.mp e)
    show [x.cps.toList] = _
    rw [z]; rfl
  · rw [if_neg (by rw [decide_eq_false e, decide_eq_false k]; decide)]
    have o : occurrences x ⟨#[c]⟩ 0 x.length (x.length + 1) = (List.range' 0 (x.length + 1)).filter fun i => decide (i + 1 ≤ x.length) && subAt x ⟨#[c]⟩ i := by
      rw [occ_eq, occ_all _ _ _ _ (Nat.le_refl _) (by show 0 + _ ≤ _; omega)]; rfl
    rw [o]
    obtain ⟨p, r, e1, e2⟩ := parts_rest (x := x) (c := c) x.length 0 0 (Nat.le_refl _) (by rw [strlen]; omega)
    rw [List.drop_zero, Nat.sub_self, List.take_zero, List.nil_append] at e2
    rw [List.drop_zero] at e1
    rw [e1]
    split
    · rename_i z
      have z : (List.range' 0 (x.length + 1)).filter (fun i => decide (i + 1 ≤ x.length) && subAt x ⟨#[c]⟩ i) = [] := List.isEmpty_iff.mp z
      rw [z] at e2
      have e2 : [(strSub x 0 x.length).cps.toList] = p :: r := e2
      rw [sub_whole] at e2
      exact e2
    · rw [partsBetween_eq]; exact e2
theorem glue_go {c : Nat} : ∀ (ps : List PySem.Str) (acc : Array Nat), (ps.foldl (fun acc p => acc ++ (⟨#[c]⟩ : PySem.Str).cps ++ p.cps) acc).toList = acc.toList ++ (ps.map fun p => c :: p.cps.toList).flatten
  | [], acc => by
    show acc.toList = acc.toList ++ []
    rw [List.append_nil]
  | p :: ps, acc => by
    rw [List.foldl_cons, glue_go ps]
    show (acc ++ #[c] ++ p.cps).toList ++ _ = acc.toList ++ (c :: p.cps.toList ++ _)
    rw [Array.toList_append, Array.toList_append, List.append_assoc, List.append_assoc]; rfl
theorem joinL_flat {c : Nat} : ∀ (p : List Nat) (ps : List (List Nat)), joinL c (p :: ps) = p ++ (ps.map fun p => c :: p).flatten
  | p, [] => (List.append_nil p).symm
  | p, q :: ps => by
    show p ++ c :: joinL c (q :: ps) = p ++ (c :: q ++ (ps.map _).flatten)
    rw [joinL_flat q ps]; rfl
theorem join_one (ps : List PySem.Str) (c : Nat) : (PySem.Txt.join ⟨#[c]⟩ ps).cps.toList = joinL c (ps.map fun z => z.cps.toList) := by
  show ((ps.drop 1).foldl _ (ps.headD PySem.Str.empty).cps).toList = _
  cases ps with
  | nil => rfl
  | cons p ps =>
    show ((ps.foldl _ p.cps).toList) = joinL c (p.cps.toList :: ps.map _)
    rw [glue_go, joinL_flat, List.map_map]; rfl
end
/-! ### words and names drawn -/
abbrev cps (z : Str) : List Nat := z.cps.toList
theorem strlenC (x : Str) : x.length = (cps x).length := by simp [Str.length, cps]
theorem join_cps : ∀ ys : List Str, cps (Txt.join "" ys) = ys.flatMap cps := by
  intro ys
  rw [TL.join_eq]
  induction ys with
  | nil => rfl
  | cons x r ih =>
    cases r with
    | nil => rw [List.flatMap_cons, List.flatMap_nil, List.append_nil]; rfl
    | cons y r =>
      have e : (Str.join "" (x :: y :: r)) = (x ++ ("" : Str)) ++ Str.join "" (y :: r) := rfl
      rw [e, List.flatMap_cons, ← ih]
      show ((x.cps ++ ("" : Str).cps) ++ (Str.join "" (y :: r)).cps).toList = _
      rw [Array.toList_append, Array.toList_append, show ("" : Str).cps.toList = [] from by decide +kernel, List.append_nil]
theorem join_len : ∀ ys : List Str, (Txt.join "" ys).length = (ys.map (·.length)).sum := by
  intro ys
  rw [strlenC, join_cps, List.length_flatMap]
  congr 1
theorem ones_sum : ∀ {ys : List Str}, (∀ y ∈ ys, y.length = 1) → (ys.map (·.length)).sum = ys.length
  | [], _ => rfl
  | y :: r, h => by
    have a := h y (List.mem_cons_self ..)
    have b := ones_sum fun z hz => h z (List.mem_cons_of_mem _ hz)
    rw [List.map_cons, List.sum_cons, List.length_cons, a, b]
    omega
theorem ones_fit {ys : List Str} (h : ∀ y ∈ ys, y.length = 1) (l : ys.length ≤ 1000) : (ys.map (·.length)).sum + ys.length * Str.length "" ≤ 16777216 := by
  rw [ones_sum h, show Str.length ("" : Str) = 0 by decide +kernel]
  omega
theorem str_injC {a b : Str} (h : cps a = cps b) : a = b := by
  obtain ⟨⟨a⟩⟩ := a
  obtain ⟨⟨b⟩⟩ := b
  have h : a = b := h
  rw [h]
def Ltr (z : Str) : Prop := ∀ c ∈ cps z, 97 ≤ c ∧ c ≤ 122
/-- a word of one to m letters -/
structure Wd (m : Nat) (z : Str) : Prop where
  lo : 1 ≤ z.length
  hi : z.length ≤ m
  ltr : Ltr z
theorem letters_ok : ∀ c ∈ cps "abcdefghijklmnopqrstuvwxyz", 97 ≤ c ∧ c ≤ 122 := by decide +kernel
theorem sign_at {z : Str} {v : Int} (h0 : 0 ≤ v) (h1 : v < (z.length : Int)) : ∃ c, atI z.cps.toList v = some c ∧ c ∈ cps z := by
  have hl : z.cps.toList.length = z.length := Array.length_toList
  have hk : v.toNat < z.cps.toList.length := by omega
  have q : atI z.cps.toList ((v.toNat : Nat) : Int) = some z.cps.toList[v.toNat] := atI_nat (List.getElem?_eq_getElem hk)
  rw [show ((v.toNat : Nat) : Int) = v by omega] at q
  exact ⟨_, q, List.getElem_mem hk⟩
def takL : List Str := ["in", "out", "was", "if", "then", "else", "most", "least"]
section
variable {P : Program} {w : World} {K : PySem.W.Frag} {mg : Str → Option Value} {base : Heap}
def sp_law_word (K : PySem.W.Frag) : Sp := fun vs H Q _ => ∃ (f c : Addr) (m : Nat), vs = [.ref f, nV m] ∧ 1 ≤ m ∧ m ≤ 8 ∧ Flow H f c ∧ ∀ (a : Str) (H' : Hp), Wd m a → Flow H' f c → But f H H' → Q (.str a) H'
theorem ok_law_word {f : Addr} {fd : FuncData} (F : Fun K "_law_word" "_law_word" s_law_word f fd) {C : Addr} (T : Top w K mg C) : FnOk P w K mg base CX0 2 f fd ["_law_flow_here", "_law_most"] (sp_law_word K) := by
  obtain ⟨f_law_pick, fd_law_pick, F_law_pick, b_law_pick, m_law_pick⟩ := T.d_law_pick
  have G_law_pick := ok_law_pick (P := P) (w := w) (base := base) F_law_pick T
  refine F.ok sc_law_word (fun vs H Q E h => ?_) (fun cdv A outer s H vs Q E hr h => ?_)
  · obtain ⟨f, c, m, rfl, _⟩ := h
    rfl
  obtain ⟨f, c, m, rfl, m1, m8, hF, q⟩ := h
  refine ⟨_, (pss_cons (ps_set (i := 2) sc_law_word.nd rfl (Or.inr rfl) pe_str)
      (pss_one (ps_ret (pe_join pe_str (pe_lc (own := [("_law_k", 3)]) (g := gName 3) (tt := tYes) (by rfl) sc_law_word.nd (pi_range1 (by rfl) T.m_range (pa_cons (pe_op op_add pe_int (pe_call G_law_pick (hr.mono (by decide)) (by rfl) m_law_pick F_law_pick.kp b_law_pick .nil pass0 (pa_cons (pv 0) (pa_cons (pv 1) pa_nil)))) pa_nil)) (blkOk_by (own := [("_law_k", 3)]) (N := N_law_word) (sc := defScope s_law_word) (by decide +kernel)) (fun _ _ _ _ _ => (pg_name (i := 3) sc_law_word.nd rfl (Or.inl rfl))) (fun _ _ _ _ _ => pts_nil) (fun _ _ _ _ _ => (pe_ix ix_str (pv 2) (pe_call G_law_pick (hr.mono (by decide)) (by rfl) m_law_pick F_law_pick.kp b_law_pick .nil pass0 (pa_cons (pv 0) (pa_cons pe_int pa_nil))) (fun _ _ => rfl)))))))), ?_⟩
  refine ⟨⟨_, rfl⟩, ?_⟩
  refine ⟨_, rfl, _, rfl, f, c, ((m : Nat) : Int), rfl, by omega, log_small (by omega), hF, fun tv H1 t0 t1 F1 B1 => ?_⟩
  refine ⟨_, _, rfl, rfl, _, rfl, by omega, by omega, fun D nD => lc_range (lo := 0) (n := (1 + tv).toNat) (fun i H5 => ∃ ys : List Str, H5 D = some (.lst (ys.map V.str)) ∧ ys.length = i ∧ (∀ y ∈ ys, y.length = 1) ∧ (∀ y ∈ ys, Ltr y) ∧ Flow H5 f c ∧ But f H1 H5) ⟨[], upd_same, rfl, (fun _ z => nomatch z), (fun _ z => nomatch z), F1.new nD, But.refl.new nD⟩ ?_ ?_⟩
  · rintro i H5 hi ⟨ys, hD, ly, on, lt, F5, B5⟩
    have mf : D ≠ f := F1.ne nD
    have mc : D ≠ c := F1.nec nD
    refine ⟨rfl, yes_in ⟨_, rfl, _, rfl, f, c, 26, rfl, by decide, by decide +kernel, F5, fun v H6 v0 v1 F6 B6 => ?_⟩⟩
    obtain ⟨cc, ec, mc2⟩ := sign_at (z := "abcdefghijklmnopqrstuvwxyz") v0 (by rw [show Str.length "abcdefghijklmnopqrstuvwxyz" = 26 by decide +kernel]; exact v1)
    refine ⟨_, v, cc, rfl, rfl, by decide +kernel, ec, _, B6 _ _ hD mf, ?_, ys ++ [⟨#[cc]⟩], ?_, ?_, ?_, ?_, F6.lst mf mc, (B5.trans B6).own nD⟩
    · rw [List.length_map, ly]; exact small1000 (by omega)
    · rw [upd_same, List.map_append]; rfl
    · rw [List.length_append, ly]; rfl
    · intro z hz
      rcases List.mem_append.mp hz with hz | hz
      · exact on z hz
      · rw [List.mem_singleton.mp hz]; rfl
    · intro z hz
      rcases List.mem_append.mp hz with hz | hz
      · exact lt z hz
      · rw [List.mem_singleton.mp hz]
        intro d hd
        obtain rfl : d = cc := List.mem_singleton.mp hd
        exact letters_ok d mc2
  · rintro H5 ⟨ys, hD, ly, on, lt, F5, B5⟩
    refine ⟨_, D, ys, rfl, rfl, .inl (SqL.of hD), ones_fit on (by omega), ?_⟩
    refine q _ _ ⟨?_, ?_, ?_⟩ F5 (B1.trans B5)
    · rw [join_len, ones_sum on]; omega
    · rw [join_len, ones_sum on]; omega
    · intro d hd
      rw [join_cps] at hd
      obtain ⟨y, hy, hd⟩ := List.mem_flatMap.mp hd
      exact lt y hy d hd
def sp_law_taken (K : PySem.W.Frag) : Sp := fun vs H Q _ => vs = [] ∧ ∀ (p : Addr) (H' : Hp), H p = none → H' p = some (.lst (takL.map V.str)) → Same H H' → Q (.ref p) H'
theorem ok_law_taken {f : Addr} {fd : FuncData} (F : Fun K "_law_taken" "_law_taken" s_law_taken f fd) {C : Addr} (T : Top w K mg C) : FnOk P w K mg base CX0 1 f fd [] (sp_law_taken K) := by
  refine F.ok sc_law_taken (fun vs H Q E h => ?_) (fun cdv A outer s H vs Q E hr h => ?_)
  · obtain ⟨rfl, _⟩ := h
    rfl
  obtain ⟨rfl, q⟩ := h
  refine ⟨_, (pss_one (ps_ret (pe_lst (pa_cons pe_str (pa_cons pe_str (pa_cons pe_str (pa_cons pe_str (pa_cons pe_str (pa_cons pe_str (pa_cons pe_str (pa_cons pe_str pa_nil))))))))))), ?_⟩
  exact ⟨(by show 8 ≤ sizeLine; decide), fun p hp => q p _ hp upd_same (same_new hp)⟩
end
open PySem.NumText
/-! ### tables of two generators -/
def Tb2 (PT : Addr × Addr) (H : Hp) : Prop := GxR.TabG H PT.1 ∧ GxR.TabG H PT.2
theorem Tb2.same {PT : Addr × Addr} {H H' : Hp} (t : Tb2 PT H) (s : Same H H') : Tb2 PT H' := by
  obtain ⟨⟨p1, e1, t1⟩, p2, e2, t2⟩ := t
  exact ⟨⟨p1, s _ _ e1, t1⟩, p2, s _ _ e2, t2⟩
theorem Tb2.but {PT : Addr × Addr} {f c : Addr} {H H' : Hp} (t : Tb2 PT H) (F : Flow H f c) (b : But f H H') : Tb2 PT H' := by
  obtain ⟨⟨p1, e1, t1⟩, p2, e2, t2⟩ := t
  obtain ⟨_, _, _, _, _, ef, _⟩ := F
  exact ⟨⟨p1, b _ _ e1 (fun z => by rw [z, ef] at e1; cases e1), t1⟩, p2, b _ _ e2 (fun z => by rw [z, ef] at e2; cases e2), t2⟩
theorem tabbed_ext {P : Addr} {H H' : Hp} (h : GxR.TabG H P) (t : GxR.Tabbed P H H') : LamX.ExtN H H' := fun b o e n => by
  obtain ⟨ps, ep, _⟩ := h
  rw [t.2 b (fun z => by rw [z, ep] at e; exact n ps (Option.some.inj e).symm)]
  exact e
theorem Tb2.tab1 {PT : Addr × Addr} {H H' : Hp} (g : Tb2 PT H) (t : GxR.Tabbed PT.1 H H') : Tb2 PT H' := by
  refine ⟨t.1, ?_⟩
  by_cases h : PT.2 = PT.1
  · rw [h]; exact t.1
  · obtain ⟨_, p2, e2, t2⟩ := g
    exact ⟨p2, by rw [t.2 _ h]; exact e2, t2⟩
theorem Tb2.tab2 {PT : Addr × Addr} {H H' : Hp} (g : Tb2 PT H) (t : GxR.Tabbed PT.2 H H') : Tb2 PT H' := by
  refine ⟨?_, t.1⟩
  by_cases h : PT.1 = PT.2
  · rw [h]; exact t.1
  · obtain ⟨⟨p1, e1, t1⟩, _⟩ := g
    exact ⟨p1, by rw [t.2 _ h]; exact e1, t1⟩
theorem tk_ext {H H' : Hp} (e : LamX.ExtN H H') : TK H H' := fun a xs h => e a _ h (fun ps z => nomatch z)
theorem ext_same {H H' : Hp} (s : Same H H') : LamX.ExtN H H' := fun a o h _ => s a o h
theorem Tb2.any {PT : Addr × Addr} {r : Addr} {H H' : Hp} (t : Tb2 PT H) (s : GxR.Tabbed r H H') : Tb2 PT H' := by
  have one : ∀ {p}, GxR.TabG H p → GxR.TabG H' p := fun {p} t => by
    by_cases h : p = r
    · rw [h]; exact s.1
    · obtain ⟨ps, e, h2⟩ := t
      exact ⟨ps, by rw [s.2 _ h]; exact e, h2⟩
  exact ⟨one t.1, one t.2⟩
/-- a def of which the code object is known -/
theorem ok_code {P : Program} {w : World} {K : PySem.W.Frag} {mg : Str → Option Value} {base : Heap} {x qual : Str} {st : Stmt} {f c : Addr} {fd : FuncData} {N ps : List Str} {k : Nat} {sp : Sp} (F : Fun K x qual st f fd) (hc : fd.code = .ref c) (S : FnScope N ps (defScope st)) (len : ∀ vs H Q E, sp vs H Q E → vs.length = ps.length)
    (hbody : ∀ (A : Around) (outer : List Env) (s : Shared) (H : Hp) (vs : List V) (Q : VK) (E : XK), Room k (A.deeper (envOfC qual (defScope st) s.heap.objs.size f (.ref c))) → sp vs H Q E →
      ∃ t, PSs (cxOf CX0 P w K mg base N qual (defScope st) f (.ref c) A outer s H E).nox (defBody st) t ∧ t { nx := fun _ H' => Q .non H', rt := Q } (L2.start N vs) H) : FnOk P w K mg base CX0 (k + 1) f fd ps sp := by
  obtain ⟨kl, kd, kV, dc, pm, an, cv, ct, ks, rfl, look, cin⟩ := F.ex
  obtain rfl : cv = .ref c := hc
  refine fn_of look cin S len fun A outer s H vs Q E hr now => ?_
  obtain ⟨t, h, q⟩ := hbody A outer s H vs Q E hr now
  exact ⟨t, h.nox, q⟩
/-- a statement that is never come to -/
theorem ps_dead {X : Cx} {st : Stmt} : PS X st (fun _ _ _ => False) := ⟨fun _ _ _ _ _ _ h => h.elim⟩
/-! ### names -/
def nameB (a : Str) : Bool := if a.length < 1 ∨ 6 < a.length then false else (!inV (.str a) takV && a.cps.toList.all fun c => decide (c ∈ letS.cps.toList))
section
variable {P : Program} {w : World} {K : PySem.W.Frag} {mg : Str → Option Value} {base : Heap}
class TabN (K : PySem.W.Frag) (mg : Str → Option Value) (base : Heap) (cT : outParam Addr) (PT : outParam (Addr × Addr)) : Prop where
  tb : GxR.TabB base mg cT PT.1
  cd : ∀ (f : Addr) (fd : FuncData), Fun K "is_name" "is_name" s_is_name f fd → mg "is_name" = some (.ref f) → fd.code = .ref cT
class TabF (K : PySem.W.Frag) (mg : Str → Option Value) (base : Heap) (cT : outParam Addr) (PT : outParam (Addr × Addr)) : Prop where
  tb : GxR.TabB base mg cT PT.2
  cd : ∀ (f : Addr) (fd : FuncData), Fun K "number_of" "number_of" s_number_of f fd → mg "number_of" = some (.ref f) → fd.code = .ref cT
section
variable {cT : Addr} {PT : Addr × Addr} [TN : TabN K mg base cT PT]
include TN
def sp_is_name (K : PySem.W.Frag) (PT : Addr × Addr) : Sp := fun vs H Q _ => ∃ a : Str, vs = [.str a] ∧ a.length ≤ 100 ∧ Tb2 PT H ∧ ∀ H', LamX.ExtN H H' → Tb2 PT H' → Q (.bl (nameB a)) H'
theorem ok_is_name {f : Addr} {fd : FuncData} (F : Fun K "is_name" "is_name" s_is_name f fd) {C : Addr} (hcd : fd.code = .ref cT) (T : Top w K mg C) : FnOk P w K mg base CX0 2 f fd ["text"] (sp_is_name K PT) := by
  refine ok_code F hcd sc_is_name (fun vs H Q E h => ?_) (fun A outer s H vs Q E hr h => ?_)
  · obtain ⟨a, rfl, _⟩ := h
    rfl
  obtain ⟨a, rfl, la, tg, q⟩ := h
  obtain ⟨aT, mT, hT⟩ := T.x_tak
  obtain ⟨tL, mL⟩ := T.x_len
  obtain ⟨tA, mA⟩ := T.x_let
  unfold nameB at q
  refine ⟨_, (pss_cons (ps_if (PW.pt (pw_or (pt_cmpR op_lt (pe_callB call_len_str (by rfl) T.m_len (by decide +kernel) (pa_cons (pv 0) pa_nil)) pe_int (nomark _)) (pw_or1 (pt_cmpR op_gt (pe_callB call_len_str (by rfl) T.m_len (by decide +kernel) (pa_cons (pv 0) pa_nil)) (pe_glob (v := .int 6) (by rfl) mL ⟨_, rfl⟩) (nomark _))))) (pss_one (ps_ret pe_bl)) pss_nil)
      (pss_one (ps_ret (pe_and (pe_cmpR (op_notIn_seqK K rfl) (pv 0) (pe_glob (v := .ref aT) (by rfl) mT rfl) (by with_unfolding_all rfl)) (pe_one (pe_allC K rfl hr (by rfl) T.m_all (by decide +kernel) TN.tb rfl (genS_of rfl rfl (by decide +kernel) rfl rfl (by decide +kernel)) (pv 0) (fun M => in_elt M rfl rfl rfl (by decide) (by decide) mA) (fun _ => rfl))))))), ?_⟩
  have sl : a.length ≤ sizeLine := little (by omega)
  refine ⟨_, rfl, _, rfl, sl, _, _, rfl, rfl, _, rfl, if_bl (fun c1 => ?_) (fun c1 => ?_)⟩
  · have c1 := of_decide_eq_true c1
    have q := q H (LamX.ExtN.refl H) tg
    rw [if_pos (.inl (by omega))] at q
    exact q
  have c1 := of_decide_eq_false c1
  refine ⟨_, rfl, _, rfl, sl, _, _, rfl, rfl, _, rfl, if_bl (fun c2 => ?_) (fun c2 => ?_)⟩
  · have c2 := of_decide_eq_true c2
    have q := q H (LamX.ExtN.refl H) tg
    rw [if_pos (.inr (by omega))] at q
    exact q
  have c2 := of_decide_eq_false c2
  have q : ∀ H', LamX.ExtN H H' → Tb2 PT H' → Q (.bl (!inV (.str a) takV && a.cps.toList.all fun c => decide (c ∈ letS.cps.toList))) H' := fun H' s t => by
    have q := q H' s t
    rw [if_neg (by omega)] at q
    exact q
  refine ⟨_, rfl, aT, _, rfl, .inr (hT H), rfl, rfl, _, rfl, ?_⟩
  rw [if_pos (rfl : true = true)]
  cases c3 : inV (.str a) takV with
  | true =>
    rw [c3] at q
    exact q H (LamX.ExtN.refl H) tg
  | false =>
    rw [c3] at q
    refine ⟨_, rfl, _, rfl, tg.1, fun H2 tb => ?_⟩
    exact q H2 (tabbed_ext tg.1 tb) (tg.any tb)
end
section
variable {cT : Addr} {PT : Addr × Addr} [TF : TabF K mg base cT PT]
include TF
def sp_number_of (K : PySem.W.Frag) (PT : Addr × Addr) : Sp := fun vs H Q _ => ∃ a : Str, vs = [.str a] ∧ a.length ≤ 1000 ∧ Tb2 PT H ∧ ∀ H', LamX.ExtN H H' → Tb2 PT H' → Q (numV (numO a.cps.toList)) H'
theorem ok_number_of {f : Addr} {fd : FuncData} (F : Fun K "number_of" "number_of" s_number_of f fd) {C : Addr} (hcd : fd.code = .ref cT) (T : Top w K mg C) : FnOk P w K mg base CX0 2 f fd ["text"] (sp_number_of K PT) := by
  refine ok_code F hcd sc_number_of (fun vs H Q E h => ?_) (fun A outer s H vs Q E hr h => ?_)
  · obtain ⟨a, rfl, _⟩ := h
    rfl
  obtain ⟨a, rfl, la, tg, q⟩ := h
  obtain ⟨tF, mF⟩ := T.x_fig
  obtain ⟨tA, mA⟩ := T.x_num
  have pm := prefix_minus a
  refine ⟨_, (pss_cons (ps_set (i := 1) sc_number_of.nd rfl (Or.inl rfl) (pe_bmK K rfl PySem.F.plainAttrs_str PySem.F.slot_str_removeprefix PySem.F.type_str_removeprefix mt_removeprefix (pv 0) (pa_cons pe_str pa_nil)))
      (pss_cons (ps_if (PW.pt (pw_or (pt_cmpR op_lt (pe_callB call_len_str (by rfl) T.m_len (by decide +kernel) (pa_cons (pv 1) pa_nil)) pe_int (nomark _)) (pw_or1 (pt_cmpR op_gt (pe_callB call_len_str (by rfl) T.m_len (by decide +kernel) (pa_cons (pv 1) pa_nil)) (pe_glob (v := .int 9) (by rfl) mF ⟨_, rfl⟩) (nomark _))))) (pss_one (ps_ret pe_non)) pss_nil)
      (pss_cons (ps_if (pt_not (pt_val (pe_allC K rfl hr (by rfl) T.m_all (by decide +kernel) TF.tb rfl (genS_of rfl rfl (by decide +kernel) rfl rfl (by decide +kernel)) (pv 1) (fun M => in_elt M rfl rfl rfl (by decide) (by decide) mA) (fun _ => rfl)))) (pss_one (ps_ret pe_non)) pss_nil)
      (pss_cons (ps_if (PW.pt (pw_and (pt_cmpR op_eq (pe_ix ix_str (pv 1) pe_int (fun _ _ => rfl)) pe_str (nomark _)) (pw_and1 (pt_cmpR op_ne (pv 0) pe_str (nomark _))))) (pss_one (ps_ret pe_non)) pss_nil)
      (pss_one (ps_ret (pe_callTy call_int_str (by rfl) T.m_int (by decide +kernel) (pa_cons (pv 0) pa_nil)))))))), ?_⟩
  have sl : a.length ≤ sizeLine := little (by omega)
  refine ⟨_, rfl, rfl, _, _, rfl, rfl, sl, ?_⟩
  generalize Txt.removeprefix a "-" = b at pm ⊢
  have lb : b.length = (figL a.cps.toList).length := by rw [← pm]; exact Array.length_toList.symm
  have la2 : a.cps.toList.length = a.length := Array.length_toList
  have lf : (figL a.cps.toList).length ≤ a.cps.toList.length := by
    unfold figL
    split
    · rw [List.length_tail]; omega
    · exact Nat.le_refl _
  have lf2 : a.cps.toList.length ≤ (figL a.cps.toList).length + 1 := by
    unfold figL
    split
    · rw [List.length_tail]; omega
    · omega
  have sb : b.length ≤ sizeLine := little (by omega)
  unfold numO at q
  refine ⟨_, rfl, _, rfl, sb, _, _, rfl, rfl, _, rfl, if_bl (fun c1 => ?_) (fun c1 => ?_)⟩
  · have c1 := of_decide_eq_true c1
    have q := q H (LamX.ExtN.refl H) tg
    rw [if_pos (.inl (by omega))] at q
    exact q
  have c1 := of_decide_eq_false c1
  refine ⟨_, rfl, _, rfl, sb, _, _, rfl, rfl, _, rfl, if_bl (fun c2 => ?_) (fun c2 => ?_)⟩
  · have c2 := of_decide_eq_true c2
    have q := q H (LamX.ExtN.refl H) tg
    rw [if_pos (.inr (by omega))] at q
    exact q
  have c2 := of_decide_eq_false c2
  have n1 : ¬ ((figL a.cps.toList).length < 1 ∨ 9 < (figL a.cps.toList).length) := by omega
  refine ⟨_, rfl, _, rfl, tg.2, fun H2 tb => ?_⟩
  have q := q H2 (tabbed_ext tg.2 tb) (tg.any tb)
  have tg2 := tg.any tb
  rw [if_neg n1] at q
  refine ⟨_, rfl, ?_⟩
  show (if (!(b.cps.toList.all isFig)) = true then _ else _)
  rw [pm]
  cases c3 : (figL a.cps.toList).all isFig with
  | false =>
    rw [if_pos c3] at q
    exact q
  | true =>
    rw [if_neg (by rw [c3]; exact Bool.noConfusion)] at q
    have e48 : ("0" : Str) = ⟨#[48]⟩ := by decide +kernel
    obtain ⟨c0, r0, ec⟩ : ∃ c0 r0, figL a.cps.toList = c0 :: r0 := by
      cases hl : figL a.cps.toList with
      | nil => rw [hl] at n1; exact absurd (.inl (by decide)) n1
      | cons c r => exact ⟨c, r, rfl⟩
    have at0 : atI b.cps.toList ((0 : Nat) : Int) = some c0 := atI_nat (by rw [pm, ec]; rfl)
    have d1 : decide (V.str ⟨#[c0]⟩ = V.str "0") = decide ((figL a.cps.toList).head? = some 48) := by
      rw [ec, e48]
      show decide _ = decide (some c0 = some 48)
      by_cases h : c0 = 48
      · rw [h]; rfl
      · rw [decide_eq_false (fun z : some c0 = some 48 => h (Option.some.inj z)), decide_eq_false]
        intro z
        have z := V.str.inj z
        injection z with z
        have z2 : [c0] = [48] := congrArg Array.toList z
        exact h (List.cons.inj z2).1
    have d2 : (!decide (V.str a = V.str "0")) = decide (a.cps.toList ≠ [48]) := by
      rw [e48]
      by_cases h : a.cps.toList = [48]
      · rw [decide_eq_false (fun z : a.cps.toList ≠ [48] => z h), decide_eq_true (congrArg V.str (str_inj (b := ⟨#[48]⟩) h))]; rfl
      · rw [decide_eq_true h, decide_eq_false (fun z => h (by rw [V.str.inj z]))]; rfl
    have last : ¬ ((figL a.cps.toList).head? = some 48 ∧ a.cps.toList ≠ [48]) → Q (numV (some ((if a.cps.toList.head? = some 45 then -1 else 1) * ((digitsVal (figL a.cps.toList) : Nat) : Int)))) H2 ∧ PySem.intText? a = some ((if a.cps.toList.head? = some 45 then -1 else 1) * ((digitsVal (figL a.cps.toList) : Nat) : Int)) := fun n => by
      rw [if_neg n] at q
      refine ⟨q, int_reads ?_⟩
      unfold numO
      rw [if_neg n1, if_neg (by rw [c3]; exact Bool.noConfusion), if_neg n]
    refine ⟨_, rfl, _, _, c0, rfl, rfl, sb, at0, rfl, _, rfl, ?_⟩
    rw [d1]
    refine if_bl (fun c4 => ?_) (fun c4 => ?_)
    · have c4 := of_decide_eq_true c4
      refine ⟨_, rfl, rfl, _, rfl, ?_⟩
      rw [d2]
      refine if_bl (fun c5 => ?_) (fun c5 => ?_)
      · have c5 := of_decide_eq_true c5
        rw [if_pos ⟨c4, c5⟩] at q
        exact q
      · obtain ⟨q, rd⟩ := last (fun z => of_decide_eq_false c5 z.2)
        exact ⟨_, rfl, _, _, rfl, rd, by omega, q⟩
    · obtain ⟨q, rd⟩ := last (fun z => of_decide_eq_false c4 z.1)
      exact ⟨_, rfl, _, _, rfl, rd, by omega, q⟩
end
end
/-! ### a reader -/
/-- a reader at the k-th of its words -/
def RdAt (C : Addr) (H : Hp) (R : Addr) (ws : List Str) (row : Int) (k : Nat) : Prop := ∃ dx L : Addr, H R = some (.ins C dx [("words", .ref L), ("row", .int row), ("at", nV k)]) ∧ H L = some (.lst (ws.map V.str))
/-- all stands but tables and what is at R -/
def BX (R : Addr) (H H' : Hp) : Prop := ∀ b o, H b = some o → (∀ ps, o ≠ .tbl ps) → b ≠ R → H' b = some o
theorem BX.refl {R : Addr} {H : Hp} : BX R H H := fun _ _ e _ _ => e
theorem BX.trans {R : Addr} {H H1 H2 : Hp} (a : BX R H H1) (b : BX R H1 H2) : BX R H H2 := fun x o e n m => b x o (a x o e n m) n m
theorem BX.but {R : Addr} {H H' : Hp} (b : But R H H') : BX R H H' := fun x o e _ m => b x o e m
theorem BX.ext {R : Addr} {H H' : Hp} (b : LamX.ExtN H H') : BX R H H' := fun x o e n _ => b x o e n
theorem BX.same {R : Addr} {H H' : Hp} (b : Same H H') : BX R H H' := fun x o e _ _ => b x o e
theorem BX.tk {R C dx : Addr} {fs : List (Str × V)} {H H' : Hp} (b : BX R H H') (h : H R = some (.ins C dx fs)) : TK H H' := fun x xs e => b _ _ e (fun _ z => nomatch z) (ne_of e h (fun z => nomatch z))
theorem RdAt.tk {C R : Addr} {H H' : Hp} {ws : List Str} {row : Int} {k : Nat} (h : RdAt C H R ws row k) (b : BX R H H') : TK H H' := by
  obtain ⟨dx, L, e, _⟩ := h
  exact b.tk e
theorem RdAt.lst {C R p : Addr} {H H' : Hp} {ws : List Str} {row : Int} {k : Nat} {xs : List V} (h : RdAt C H R ws row k) (b : BX R H H') (e : H p = some (.lst xs)) : H' p = some (.lst xs) := by
  obtain ⟨dx, L, e1, _⟩ := h
  exact b _ _ e (fun _ z => nomatch z) (ne_of e e1 (fun z => nomatch z))
theorem RdAt.ext {C R : Addr} {H H' : Hp} {ws : List Str} {row : Int} {k : Nat} (h : RdAt C H R ws row k) (b : LamX.ExtN H H') : RdAt C H' R ws row k := by
  obtain ⟨dx, L, e1, e2⟩ := h
  exact ⟨dx, L, b _ _ e1 (fun _ z => nomatch z), b _ _ e2 (fun _ z => nomatch z)⟩
theorem RdAt.same {C R : Addr} {H H' : Hp} {ws : List Str} {row : Int} {k : Nat} (h : RdAt C H R ws row k) (b : Same H H') : RdAt C H' R ws row k := h.ext (ext_same b)
theorem Tb2.butR {PT : Addr × Addr} {R C dx : Addr} {fs : List (Str × V)} {H H' : Hp} (t : Tb2 PT H) (h : H R = some (.ins C dx fs)) (b : But R H H') : Tb2 PT H' := by
  obtain ⟨⟨p1, e1, t1⟩, p2, e2, t2⟩ := t
  exact ⟨⟨p1, b _ _ e1 (fun z => by rw [z, h] at e1; cases e1), t1⟩, p2, b _ _ e2 (fun z => by rw [z, h] at e2; cases e2), t2⟩
def hdW (ws : List Str) (k : Nat) : Str := (ws[k]?).getD ""
theorem hdW_at {ws : List Str} {k : Nat} {z : Str} (h : ws[k]? = some z) : hdW ws k = z := by unfold hdW; rw [h]; rfl
section
variable {P : Program} {w : World} {K : PySem.W.Frag} {mg : Str → Option Value} {base : Heap}
def sp_Reader_over (K : PySem.W.Frag) (C : Addr) : Sp := fun vs H Q _ => ∃ (R : Addr) (ws : List Str) (row : Int) (k : Nat), vs = [.ref R] ∧ RdAt C H R ws row k ∧ Q (.bl (decide (ws.length ≤ k))) H
theorem ok_Reader_over {f : Addr} {fd : FuncData} (F : Fun K "over" "Reader.over" s_Reader_over f fd) {C : Addr} (T : Top w K mg C) : FnOk P w K mg base CX0 1 f fd ["self"] (sp_Reader_over K C) := by
  refine F.ok sc_Reader_over (fun vs H Q E h => ?_) (fun cdv A outer s H vs Q E hr h => ?_)
  · obtain ⟨R, ws, row, k, rfl, _⟩ := h
    rfl
  obtain ⟨R, ws, row, k, rfl, ⟨dx, L, hR, hL⟩, q⟩ := h
  refine ⟨_, (pss_one (ps_ret (pe_cmpR op_ge (pe_fldK K rfl (pv 0) rfl) (pe_callB (call_len_seqK K rfl) (by rfl) T.m_len (by decide +kernel) (pa_cons (pe_fldK K rfl (pv 0) rfl) pa_nil)) (nomark _)))), ?_⟩
  refine ⟨_, rfl, R, C, dx, _, _, rfl, hR, T.cl, T.n_at, rfl, _, rfl, R, C, dx, _, _, rfl, hR, T.cl, T.n_words, rfl, L, _, rfl, .inl (SqL.of hL), _, _, rfl, rfl, ?_⟩
  rw [List.length_map]
  have e : decide (((k : Nat) : Int) ≥ ((ws.length : Nat) : Int)) = decide (ws.length ≤ k) := by
    by_cases h : ws.length ≤ k
    · rw [decide_eq_true h, decide_eq_true (by omega)]
    · rw [decide_eq_false h, decide_eq_false (by omega)]
  rw [← e] at q
  exact q
def sp_Reader_ahead (K : PySem.W.Frag) (C : Addr) : Sp := fun vs H Q _ => ∃ (R : Addr) (ws : List Str) (row : Int) (k : Nat), vs = [.ref R] ∧ RdAt C H R ws row k ∧ Q (.str (hdW ws k)) H
theorem ok_Reader_ahead {f : Addr} {fd : FuncData} (F : Fun K "ahead" "Reader.ahead" s_Reader_ahead f fd) {C : Addr} (T : Top w K mg C) : FnOk P w K mg base CX0 2 f fd ["self"] (sp_Reader_ahead K C) := by
  obtain ⟨f_Reader_over, fd_Reader_over, F_Reader_over, b_Reader_over, m_Reader_over⟩ := T.d_Reader_over
  have G_Reader_over := ok_Reader_over (P := P) (w := w) (base := base) F_Reader_over T
  refine F.ok sc_Reader_ahead (fun vs H Q E h => ?_) (fun cdv A outer s H vs Q E hr h => ?_)
  · obtain ⟨R, ws, row, k, rfl, _⟩ := h
    rfl
  obtain ⟨R, ws, row, k, rfl, hRd, q⟩ := h
  obtain ⟨dx, L, hR, hL⟩ := id hRd
  refine ⟨_, (pss_one (ps_ret (pe_ifExp (pt_val (pe_meth0 (pv 0) T.cl m_Reader_over G_Reader_over (hr.mono (by decide)) b_Reader_over .nil pass0)) pe_str (pe_ix (ix_listK K rfl) (pe_fldK K rfl (pv 0) rfl) (pe_fldK K rfl (pv 0) rfl) (fun _ _ => rfl))))), ?_⟩
  refine ⟨_, rfl, R, dx, _, rfl, hR, rfl, R, ws, row, k, rfl, hRd, _, rfl, ?_⟩
  refine if_bl (fun c => ?_) (fun c => ?_)
  · have c := of_decide_eq_true c
    unfold hdW at q
    rw [List.getElem?_eq_none c] at q
    exact q
  · have c := of_decide_eq_false c
    have e : ws[k]? = some ws[k] := List.getElem?_eq_getElem (by omega)
    rw [hdW_at e] at q
    exact ⟨_, rfl, R, C, dx, _, _, rfl, hR, T.cl, T.n_words, rfl, _, rfl, R, C, dx, _, _, rfl, hR, T.cl, T.n_at, rfl, L, _, _, _, rfl, rfl, SqL.of hL, atI_nat (by rw [List.getElem?_map, e]; rfl), q⟩
def sp_Reader_take (K : PySem.W.Frag) (C : Addr) : Sp := fun vs H Q _ => ∃ (R : Addr) (ws : List Str) (row : Int) (k : Nat), vs = [.ref R] ∧ RdAt C H R ws row k ∧ ∀ H', RdAt C H' R ws row (k + 1) → But R H H' → Q (.str (hdW ws k)) H'
theorem ok_Reader_take {f : Addr} {fd : FuncData} (F : Fun K "take" "Reader.take" s_Reader_take f fd) {C : Addr} (T : Top w K mg C) : FnOk P w K mg base CX0 3 f fd ["self"] (sp_Reader_take K C) := by
  obtain ⟨f_Reader_ahead, fd_Reader_ahead, F_Reader_ahead, b_Reader_ahead, m_Reader_ahead⟩ := T.d_Reader_ahead
  have G_Reader_ahead := ok_Reader_ahead (P := P) (w := w) (base := base) F_Reader_ahead T
  refine F.ok sc_Reader_take (fun vs H Q E h => ?_) (fun cdv A outer s H vs Q E hr h => ?_)
  · obtain ⟨R, ws, row, k, rfl, _⟩ := h
    rfl
  obtain ⟨R, ws, row, k, rfl, hRd, q⟩ := h
  obtain ⟨dx, L, hR, hL⟩ := id hRd
  refine ⟨_, (pss_cons (ps_set (i := 1) sc_Reader_take.nd rfl (Or.inl rfl) (pe_meth0 (pv 0) T.cl m_Reader_ahead G_Reader_ahead (hr.mono (by decide)) b_Reader_ahead .nil pass0))
      (pss_cons (ps_fldaugK K rfl (pv 0) pe_int ip_add)
      (pss_one (ps_ret (pv 1))))), ?_⟩
  refine ⟨_, rfl, R, dx, _, rfl, hR, rfl, R, ws, row, k, rfl, hRd, ?_⟩
  refine ⟨_, rfl, R, C, dx, _, _, rfl, hR, T.cl, T.n_at, rfl, _, _, rfl, rfl, ?_⟩
  have L_R : L ≠ R := ne_of hL hR (fun z => nomatch z)
  refine ⟨dx, _, hR, (by show 3 < 1000; decide), _, rfl, q _ ⟨dx, L, ?_, by rw [upd_ne L_R]; exact hL⟩ But.refl.upd⟩
  rw [upd_same]
  show some (HO.ins C dx [("words", .ref L), ("row", .int row), ("at", .int (((k : Nat) : Int) + 1))]) = _
  rw [show ((k : Nat) : Int) + 1 = ((k + 1 : Nat) : Int) by omega]
def sp_Reader_take_just (K : PySem.W.Frag) (C : Addr) : Sp := fun vs H Q _ => ∃ (R : Addr) (ws : List Str) (row : Int) (k : Nat) (z : Str), vs = [.ref R, .str z] ∧ RdAt C H R ws row k ∧ hdW ws k = z ∧ ∀ H', RdAt C H' R ws row (k + 1) → But R H H' → Q .non H'
theorem ok_Reader_take_just {f : Addr} {fd : FuncData} (F : Fun K "take_just" "Reader.take_just" s_Reader_take_just f fd) {C : Addr} (T : Top w K mg C) : FnOk P w K mg base CX0 4 f fd ["self", "word"] (sp_Reader_take_just K C) := by
  obtain ⟨f_Reader_take, fd_Reader_take, F_Reader_take, b_Reader_take, m_Reader_take⟩ := T.d_Reader_take
  have G_Reader_take := ok_Reader_take (P := P) (w := w) (base := base) F_Reader_take T
  refine F.ok sc_Reader_take_just (fun vs H Q E h => ?_) (fun cdv A outer s H vs Q E hr h => ?_)
  · obtain ⟨R, ws, row, k, z, rfl, _⟩ := h
    rfl
  obtain ⟨R, ws, row, k, z, rfl, hRd, ez, q⟩ := h
  obtain ⟨dx, L, hR, hL⟩ := id hRd
  refine ⟨_, (pss_one (ps_if (pt_cmpR op_ne (pe_meth0 (pv 0) T.cl m_Reader_take G_Reader_take (hr.mono (by decide)) b_Reader_take .nil pass0) (pv 1) (nomark _)) (pss_one ps_dead) pss_nil)), ?_⟩
  refine ⟨_, rfl, R, dx, _, rfl, hR, rfl, R, ws, row, k, rfl, hRd, fun H1 r1 b1 => ⟨_, rfl, rfl, _, rfl, ?_⟩⟩
  rw [ez, decide_eq_true rfl]
  exact if_bl (fun z => nomatch z) (fun _ => q H1 r1 b1)
def sp_Reader_end (K : PySem.W.Frag) (C : Addr) : Sp := fun vs H Q _ => ∃ (R : Addr) (ws : List Str) (row : Int) (k : Nat), vs = [.ref R] ∧ RdAt C H R ws row k ∧ ws.length ≤ k ∧ Q .non H
theorem ok_Reader_end {f : Addr} {fd : FuncData} (F : Fun K "end" "Reader.end" s_Reader_end f fd) {C : Addr} (T : Top w K mg C) : FnOk P w K mg base CX0 2 f fd ["self"] (sp_Reader_end K C) := by
  obtain ⟨f_Reader_over, fd_Reader_over, F_Reader_over, b_Reader_over, m_Reader_over⟩ := T.d_Reader_over
  have G_Reader_over := ok_Reader_over (P := P) (w := w) (base := base) F_Reader_over T
  refine F.ok sc_Reader_end (fun vs H Q E h => ?_) (fun cdv A outer s H vs Q E hr h => ?_)
  · obtain ⟨R, ws, row, k, rfl, _⟩ := h
    rfl
  obtain ⟨R, ws, row, k, rfl, hRd, le, q⟩ := h
  obtain ⟨dx, L, hR, hL⟩ := id hRd
  refine ⟨_, (pss_one (ps_if (pt_not (pt_val (pe_meth0 (pv 0) T.cl m_Reader_over G_Reader_over (hr.mono (by decide)) b_Reader_over .nil pass0))) (pss_one ps_dead) pss_nil)), ?_⟩
  refine ⟨_, rfl, R, dx, _, rfl, hR, rfl, R, ws, row, k, rfl, hRd, _, rfl, ?_⟩
  rw [decide_eq_true le]
  exact if_bl (fun z => nomatch z) (fun _ => q)
def sp_Reader___init__ (K : PySem.W.Frag) (C : Addr) : Sp := fun vs H Q _ => ∃ (R dx L : Addr) (ws : List Str) (row : Int), vs = [.ref R, .ref L, .int row] ∧ H R = some (.ins C dx []) ∧ H L = some (.lst (ws.map V.str)) ∧ ws.length ≤ 40 ∧ ∀ H', RdAt C H' R ws row 0 → But R H H' → Q .non H'
theorem ok_Reader___init__ {f : Addr} {fd : FuncData} (F : Fun K "__init__" "Reader.__init__" s_Reader___init__ f fd) {C : Addr} (T : Top w K mg C) : FnOk P w K mg base CX0 1 f fd ["self", "words", "row"] (sp_Reader___init__ K C) := by
  refine F.ok sc_Reader___init__ (fun vs H Q E h => ?_) (fun cdv A outer s H vs Q E hr h => ?_)
  · obtain ⟨R, dx, L, ws, row, rfl, _⟩ := h
    rfl
  obtain ⟨tM, mMw⟩ := T.x_mw
  obtain ⟨R, dx, L, ws, row, rfl, hR, hL, lw, q⟩ := h
  have L_R : L ≠ R := ne_of hL hR (fun z => nomatch z)
  refine ⟨_, (pss_cons (ps_if (pt_cmpR op_gt (pe_callB (call_len_seqK K rfl) (by rfl) T.m_len (by decide +kernel) (pa_cons (pv 1) pa_nil)) (pe_glob (v := .int 40) (by rfl) mMw ⟨_, rfl⟩) (nomark _)) (pss_one ps_dead) pss_nil)
      (pss_cons (ps_fldK K rfl (pv 0) (pv 1) rfl)
      (pss_cons (ps_fldK K rfl (pv 0) (pv 2) rfl)
      (pss_one (ps_fldK K rfl (pv 0) pe_int rfl))))), ?_⟩
  refine ⟨_, rfl, L, _, rfl, .inl (SqL.of hL), _, _, rfl, rfl, _, rfl, if_bl (fun c => ?_) (fun _ => ?_)⟩
  · have c := of_decide_eq_true c
    rw [List.length_map] at c
    exact absurd c (by omega)
  refine ⟨_, rfl, _, rfl, R, C, dx, _, rfl, hR, T.cl, T.n_words, (by show 0 < 1000; decide), ?_⟩
  refine ⟨_, rfl, _, rfl, R, C, dx, _, rfl, upd_same, T.cl, T.n_row, (by show 1 < 1000; decide), ?_⟩
  refine ⟨_, rfl, R, C, dx, _, rfl, upd_same, T.cl, T.n_at, (by show 2 < 1000; decide), ?_⟩
  refine q _ ⟨dx, L, upd_same, ?_⟩ ((But.refl.upd).upd).upd
  rw [upd_ne L_R, upd_ne L_R, upd_ne L_R]
  exact hL
section
variable {cT : Addr} {PT : Addr × Addr} [TN : TabN K mg base cT PT]
include TN
def sp_Reader_take_name (K : PySem.W.Frag) (C : Addr) (PT : Addr × Addr) : Sp := fun vs H Q _ => ∃ (R : Addr) (ws : List Str) (row : Int) (k : Nat) (z : Str), vs = [.ref R] ∧ RdAt C H R ws row k ∧ hdW ws k = z ∧ z.length ≤ 100 ∧ nameB z = true ∧ Tb2 PT H ∧ ∀ H', RdAt C H' R ws row (k + 1) → BX R H H' → Tb2 PT H' → Q (.str z) H'
theorem ok_Reader_take_name {f : Addr} {fd : FuncData} (F : Fun K "take_name" "Reader.take_name" s_Reader_take_name f fd) {C : Addr} (T : Top w K mg C) : FnOk P w K mg base CX0 4 f fd ["self"] (sp_Reader_take_name K C PT) := by
  obtain ⟨f_Reader_take, fd_Reader_take, F_Reader_take, b_Reader_take, m_Reader_take⟩ := T.d_Reader_take
  have G_Reader_take := ok_Reader_take (P := P) (w := w) (base := base) F_Reader_take T
  obtain ⟨f_is_name, fd_is_name, F_is_name, b_is_name, m_is_name⟩ := T.d_is_name
  have G_is_name := ok_is_name (P := P) (w := w) (base := base) F_is_name (TN.cd _ _ F_is_name m_is_name) T
  refine F.ok sc_Reader_take_name (fun vs H Q E h => ?_) (fun cdv A outer s H vs Q E hr h => ?_)
  · obtain ⟨R, ws, row, k, z, rfl, _⟩ := h
    rfl
  obtain ⟨R, ws, row, k, z, rfl, hRd, ez, lz, nz, tb, q⟩ := h
  obtain ⟨dx, L, hR, hL⟩ := id hRd
  refine ⟨_, (pss_cons (ps_set (i := 1) sc_Reader_take_name.nd rfl (Or.inl rfl) (pe_meth0 (pv 0) T.cl m_Reader_take G_Reader_take (hr.mono (by decide)) b_Reader_take .nil pass0))
      (pss_cons (ps_if (pt_not (pt_val (pe_call G_is_name (hr.mono (by decide)) (by rfl) m_is_name F_is_name.kp b_is_name .nil pass0 (pa_cons (pv 1) pa_nil)))) (pss_one ps_dead) pss_nil)
      (pss_one (ps_ret (pv 1))))), ?_⟩
  refine ⟨_, rfl, R, dx, _, rfl, hR, rfl, R, ws, row, k, rfl, hRd, fun H1 r1 b1 => ?_⟩
  rw [ez]
  have tb1 := tb.butR hR b1
  refine ⟨_, rfl, z, rfl, lz, tb1, fun H2 x2 tb2 => ⟨_, rfl, ?_⟩⟩
  rw [nz]
  exact if_bl (fun z => nomatch z) (fun _ => ⟨_, rfl, q H2 (r1.ext x2) ((BX.but b1).trans (.ext x2)) tb2⟩)
end
section
variable {cT : Addr} {PT : Addr × Addr} [TF : TabF K mg base cT PT]
include TF
def sp_Reader_take_number (K : PySem.W.Frag) (C : Addr) (PT : Addr × Addr) : Sp := fun vs H Q _ => ∃ (R : Addr) (ws : List Str) (row : Int) (k : Nat) (z : Str) (n : Int), vs = [.ref R] ∧ RdAt C H R ws row k ∧ hdW ws k = z ∧ z.length ≤ 1000 ∧ numO z.cps.toList = some n ∧ Tb2 PT H ∧ ∀ H', RdAt C H' R ws row (k + 1) → BX R H H' → Tb2 PT H' → Q (.int n) H'
theorem ok_Reader_take_number {f : Addr} {fd : FuncData} (F : Fun K "take_number" "Reader.take_number" s_Reader_take_number f fd) {C : Addr} (T : Top w K mg C) : FnOk P w K mg base CX0 4 f fd ["self"] (sp_Reader_take_number K C PT) := by
  obtain ⟨f_number_of, fd_number_of, F_number_of, b_number_of, m_number_of⟩ := T.d_number_of
  have G_number_of := ok_number_of (P := P) (w := w) (base := base) F_number_of (TF.cd _ _ F_number_of m_number_of) T
  obtain ⟨f_Reader_take, fd_Reader_take, F_Reader_take, b_Reader_take, m_Reader_take⟩ := T.d_Reader_take
  have G_Reader_take := ok_Reader_take (P := P) (w := w) (base := base) F_Reader_take T
  refine F.ok sc_Reader_take_number (fun vs H Q E h => ?_) (fun cdv A outer s H vs Q E hr h => ?_)
  · obtain ⟨R, ws, row, k, z, n, rfl, _⟩ := h
    rfl
  obtain ⟨R, ws, row, k, z, n, rfl, hRd, ez, lz, nz, tb, q⟩ := h
  obtain ⟨dx, L, hR, hL⟩ := id hRd
  refine ⟨_, (pss_cons (ps_set (i := 1) sc_Reader_take_number.nd rfl (Or.inl rfl) (pe_call G_number_of (hr.mono (by decide)) (by rfl) m_number_of F_number_of.kp b_number_of .nil pass0 (pa_cons (pe_meth0 (pv 0) T.cl m_Reader_take G_Reader_take (hr.mono (by decide)) b_Reader_take .nil pass0) pa_nil)))
      (pss_cons (ps_if (pt_cmpR op_isN (pv 1) pe_non (nomark _)) (pss_one ps_dead) pss_nil)
      (pss_one (ps_ret (pv 1))))), ?_⟩
  refine ⟨_, rfl, R, dx, _, rfl, hR, rfl, R, ws, row, k, rfl, hRd, fun H1 r1 b1 => ?_⟩
  rw [ez]
  have tb1 := tb.butR hR b1
  refine ⟨z, rfl, lz, tb1, fun H2 x2 tb2 => ?_⟩
  rw [nz]
  refine ⟨_, rfl, rfl, _, rfl, if_bl (fun z => nomatch z) (fun _ => ⟨_, rfl, q H2 (r1.ext x2) ((BX.but b1).trans (.ext x2)) tb2⟩)⟩
end
end
/-! ### trees -/
inductive W2 where
  | sum | gap | below | most | least
def W2.s : W2 → Str
  | .sum => "sum"
  | .gap => "gap"
  | .below => "below"
  | .most => "most"
  | .least => "least"
inductive Tr where
  | nm (n : Str) (k : Nat)
  | no (i : Int)
  | tm (k : Int) (t : Tr)
  | o2 (w : W2) (a b : Tr)
  | o3 (a b c : Tr)
/-- what stands ahead of the branches -/
def Tr.hd : Tr → List V
  | .nm n k => [.str "name", .str n, nV k]
  | .no i => [.str "number", .int i]
  | .tm k _ => [.str "times", .int k]
  | .o2 w _ _ => [.str w.s]
  | .o3 _ _ _ => [.str "pick"]
def Tr.kids : Tr → List Tr
  | .nm _ _ => []
  | .no _ => []
  | .tm _ t => [t]
  | .o2 _ a b => [a, b]
  | .o3 a b c => [a, b, c]
/-- all parts, each behind its branches -/
def Tr.parts : Tr → List Tr
  | .nm n k => [.nm n k]
  | .no i => [.no i]
  | .tm k t => t.parts ++ [.tm k t]
  | .o2 w a b => a.parts ++ b.parts ++ [.o2 w a b]
  | .o3 a b c => a.parts ++ b.parts ++ c.parts ++ [.o3 a b c]
theorem Tr.parts_eq (t : Tr) : t.parts = t.kids.flatMap Tr.parts ++ [t] := by
  cases t <;> simp [Tr.parts, Tr.kids]
/-- the names that a tree leans on -/
def Tr.leans : Tr → List (Str × Nat)
  | .nm n k => [(n, k)]
  | .no _ => []
  | .tm _ t => t.leans
  | .o2 _ a b => a.leans ++ b.leans
  | .o3 a b c => a.leans ++ b.leans ++ c.leans
def Tr.isNm : Tr → Bool
  | .nm _ _ => true
  | _ => false
def Tr.ofNm : Tr → Str × Nat
  | .nm n k => (n, k)
  | _ => ("", 0)
theorem Tr.leans_eq (t : Tr) : (t.parts.filter Tr.isNm).map Tr.ofNm = t.leans := by
  induction t with
  | nm n k => rfl
  | no i => rfl
  | tm k t ih => simp [Tr.parts, Tr.leans, List.filter_append, ih, Tr.isNm, List.filter_cons]
  | o2 w a b iha ihb => simp [Tr.parts, Tr.leans, List.filter_append, iha, ihb, Tr.isNm, List.filter_cons]
  | o3 a b c iha ihb ihc => simp [Tr.parts, Tr.leans, List.filter_append, iha, ihb, ihc, Tr.isNm, List.filter_cons]
def TrAt (H : Hp) : V → Tr → Prop
  | v, .nm n k => ∃ a, v = .ref a ∧ H a = some (.tup [.str "name", .str n, nV k])
  | v, .no i => ∃ a, v = .ref a ∧ H a = some (.tup [.str "number", .int i])
  | v, .tm k t => ∃ a x, v = .ref a ∧ H a = some (.tup [.str "times", .int k, x]) ∧ TrAt H x t
  | v, .o2 w s t => ∃ a x y, v = .ref a ∧ H a = some (.tup [.str w.s, x, y]) ∧ TrAt H x s ∧ TrAt H y t
  | v, .o3 s t u => ∃ a x y z, v = .ref a ∧ H a = some (.tup [.str "pick", x, y, z]) ∧ TrAt H x s ∧ TrAt H y t ∧ TrAt H z u
theorem TrAt.op {H : Hp} {v : V} {t : Tr} (h : TrAt H v t) : ∃ a ks, v = .ref a ∧ H a = some (.tup (t.hd ++ ks)) ∧ All2 (TrAt H) ks t.kids := by
  cases t with
  | nm n k => obtain ⟨a, rfl, e⟩ := h; exact ⟨a, [], rfl, e, .nil⟩
  | no i => obtain ⟨a, rfl, e⟩ := h; exact ⟨a, [], rfl, e, .nil⟩
  | tm k t => obtain ⟨a, x, rfl, e, h⟩ := h; exact ⟨a, [x], rfl, e, .cons h .nil⟩
  | o2 w s t => obtain ⟨a, x, y, rfl, e, h, g⟩ := h; exact ⟨a, [x, y], rfl, e, .cons h (.cons g .nil)⟩
  | o3 s t u => obtain ⟨a, x, y, z, rfl, e, h, g, i⟩ := h; exact ⟨a, [x, y, z], rfl, e, .cons h (.cons g (.cons i .nil))⟩
theorem TrAt.mk {H : Hp} {a : Addr} {ks : List V} {t : Tr} (e : H a = some (.tup (t.hd ++ ks))) (h : All2 (TrAt H) ks t.kids) : TrAt H (.ref a) t := by
  cases t with
  | nm n k => cases h; exact ⟨a, rfl, e⟩
  | no i => cases h; exact ⟨a, rfl, e⟩
  | tm k t => cases h with | cons x h => cases h; exact ⟨a, _, rfl, e, x⟩
  | o2 w s t => cases h with | cons x h => cases h with | cons y h => cases h; exact ⟨a, _, _, rfl, e, x, y⟩
  | o3 s t u => cases h with | cons x h => cases h with | cons y h => cases h with | cons z h => cases h; exact ⟨a, _, _, _, rfl, e, x, y, z⟩
theorem TrAt.keep {H H' : Hp} (k : TK H H') : ∀ {t : Tr} {v : V}, TrAt H v t → TrAt H' v t := by
  intro t
  induction t with
  | nm n i => intro v h; obtain ⟨a, rfl, e⟩ := h; exact ⟨a, rfl, k _ _ e⟩
  | no i => intro v h; obtain ⟨a, rfl, e⟩ := h; exact ⟨a, rfl, k _ _ e⟩
  | tm i t ih => intro v h; obtain ⟨a, x, rfl, e, h⟩ := h; exact ⟨a, x, rfl, k _ _ e, ih h⟩
  | o2 w s t i1 i2 => intro v h; obtain ⟨a, x, y, rfl, e, h, g⟩ := h; exact ⟨a, x, y, rfl, k _ _ e, i1 h, i2 g⟩
  | o3 s t u i1 i2 i3 => intro v h; obtain ⟨a, x, y, z, rfl, e, h, g, i⟩ := h; exact ⟨a, x, y, z, rfl, k _ _ e, i1 h, i2 g, i3 i⟩
theorem All2.app {α β : Type} {R : α → β → Prop} {as : List α} {bs : List β} (h : All2 R as bs) {cs : List α} {ds : List β} (g : All2 R cs ds) : All2 R (as ++ cs) (bs ++ ds) := by
  induction h with
  | nil => exact g
  | cons r _ ih => exact .cons r ih
theorem All2.rev {α β : Type} {R : α → β → Prop} {as : List α} {bs : List β} (h : All2 R as bs) : All2 R as.reverse bs.reverse := by
  induction h with
  | nil => exact .nil
  | cons r _ ih => rw [List.reverse_cons, List.reverse_cons]; exact ih.snoc r
theorem All2.unsnoc {α β : Type} {R : α → β → Prop} {b : β} : ∀ {bs : List β} {as : List α}, All2 R as (bs ++ [b]) → ∃ as' x, as = as' ++ [x] ∧ All2 R as' bs ∧ R x b
  | [], _, .cons r .nil => ⟨[], _, rfl, .nil, r⟩
  | _ :: _, _, .cons r h => by
    obtain ⟨as', x, rfl, h', r'⟩ := All2.unsnoc h
    exact ⟨_ :: as', x, rfl, .cons r h', r'⟩
/-! ### how trees are written -/
def numW (z : Str) (i : Int) : Prop := numO z.cps.toList = some i ∧ z.length ≤ 100
def namW (z : Str) : Prop := nameB z = true ∧ z.length ≤ 100
def W2.pm : W2 → Option Str
  | .sum => some "+"
  | .gap => some "-"
  | _ => none
def W2.ml : W2 → Bool
  | .most => true
  | .least => true
  | _ => false
/-- words that write a tree: at level 0 whole, 1 sum, 2 times, 3 small; h bounds the calls -/
inductive Rd : Nat → Tr → List Str → Nat → Prop
  | up {l : Nat} {t : Tr} {ws : List Str} {h : Nat} : l < 3 → Rd (l + 1) t ws h → Rd l t ws (h + 1)
  | par {t : Tr} {ws : List Str} {h : Nat} : Rd 0 t ws h → Rd 3 t (("(" : Str) :: (ws ++ [(")" : Str)])) (h + 2)
  | num {z : Str} {i : Int} {h : Nat} : numW z i → Rd 3 (.no i) [z] h
  | nam {z : Str} {h : Nat} : namW z → Rd 3 (.nm z 0) [z] h
  | ago {z y : Str} {k h : Nat} : namW z → numW y ((k + 1 : Nat) : Int) → Rd 3 (.nm z (k + 1)) [z, ("@" : Str), y] h
  | two {w : W2} {a b : Tr} {u v : List Str} {h : Nat} : w.ml = true → Rd 0 a u h → Rd 0 b v h → Rd 3 (.o2 w a b) (w.s :: ("(" : Str) :: (u ++ ("," : Str) :: (v ++ [(")" : Str)]))) (h + 2)
  | times {z : Str} {k : Int} {t : Tr} {u : List Str} {h : Nat} : numW z k → Rd 3 t u h → Rd 2 (.tm k t) (z :: ("*" : Str) :: u) (h + 1)
  | sum {w : W2} {s : Str} {a b : Tr} {u v : List Str} {h : Nat} : w.pm = some s → Rd 1 a u (h + 1) → Rd 2 b v h → Rd 1 (.o2 w a b) (u ++ s :: v) (h + 1)
  | less {a b : Tr} {u v : List Str} {h : Nat} : Rd 1 a u h → Rd 1 b v h → Rd 0 (.o2 .below a b) (u ++ ("<" : Str) :: v) (h + 1)
  | pick {a b c : Tr} {u v x : List Str} {h : Nat} : Rd 0 a u h → Rd 0 b v h → Rd 0 c x h → Rd 0 (.o3 a b c) (("if" : Str) :: (u ++ ("then" : Str) :: (v ++ ("else" : Str) :: x))) (h + 2)
/-- a word that does not go on with what was read at a level -/
def St (l : Nat) (z : Str) : Prop := z ≠ "@" ∧ (l ≤ 2 → z ≠ "*") ∧ (l ≤ 1 → z ≠ "+" ∧ z ≠ "-") ∧ (l = 0 → z ≠ "<")
theorem St.up {l : Nat} {z : Str} (h : St l z) : St (l + 1) z := ⟨h.1, fun g => h.2.1 (by omega), fun g => h.2.2.1 (by omega), fun g => by omega⟩
theorem St.three {l : Nat} {z : Str} (h : St l z) : St 3 z := ⟨h.1, fun g => by omega, fun g => by omega, fun g => by omega⟩
theorem St.two {l : Nat} {z : Str} (h : St l z) (g : l ≤ 2) : St 2 z := ⟨h.1, fun _ => h.2.1 g, fun g => by omega, fun g => by omega⟩
theorem st_then : St 0 "then" := by unfold St; decide +kernel
theorem st_else : St 0 "else" := by unfold St; decide +kernel
theorem st_comma : St 0 "," := by unfold St; decide +kernel
theorem st_close : St 0 ")" := by unfold St; decide +kernel
theorem st_less : St 1 "<" := by unfold St; decide +kernel
theorem st_star : St 3 "*" := by unfold St; decide +kernel
theorem st_plus {w : W2} {s : Str} (h : w.pm = some s) : St 2 s := by
  cases w <;> cases h <;> (unfold St; decide +kernel)
theorem name_no {z : Str} (h : nameB z = true) : numO z.cps.toList = none := by
  unfold nameB at h
  split at h
  · cases h
  · rename_i c
    rw [Bool.and_eq_true] at h
    obtain ⟨_, h2⟩ := h
    rw [List.all_eq_true] at h2
    have lz : z.length = z.cps.toList.length := strlen z
    obtain ⟨d, r, e⟩ : ∃ d r, z.cps.toList = d :: r := by
      cases hl : z.cps.toList with
      | nil => rw [hl] at lz; exact absurd (.inl (by rw [lz]; decide)) c
      | cons d r => exact ⟨d, r, rfl⟩
    have hd : d ∈ letS.cps.toList := of_decide_eq_true (h2 d (by rw [e]; exact List.mem_cons_self ..))
    have dl : 97 ≤ d ∧ d ≤ 122 := letters_ok d hd
    have f1 : figL z.cps.toList = z.cps.toList := by
      unfold figL
      rw [e, if_neg]
      show ¬ some d = some 45
      intro q
      have := Option.some.inj q
      omega
    have nf : z.cps.toList.all isFig = false := by
      rw [Bool.eq_false_iff]
      intro q
      have := isFig_iff.mp (List.all_eq_true.mp q d (by rw [e]; exact List.mem_cons_self ..))
      omega
    unfold numO
    rw [f1]
    split
    · rfl
    · first | rfl | rw [if_pos nf]
theorem name_ne {z y : Str} (h : nameB z = true) (m : nameB y = false) : z ≠ y := fun e => by rw [e, m] at h; cases h
theorem num_ne {z y : Str} {i : Int} (h : numW z i) (m : numO y.cps.toList = none) : z ≠ y := fun e => by
  have := h.1
  rw [e, m] at this
  cases this
theorem nm_if : nameB "if" = false := by decide +kernel
theorem nm_open : nameB "(" = false := by decide +kernel
theorem nm_most : nameB "most" = false := by decide +kernel
theorem nm_least : nameB "least" = false := by decide +kernel
theorem no_if : numO ("if" : Str).cps.toList = none := by decide +kernel
theorem no_open : numO ("(" : Str).cps.toList = none := by decide +kernel
theorem no_most : numO ("most" : Str).cps.toList = none := by decide +kernel
theorem no_least : numO ("least" : Str).cps.toList = none := by decide +kernel
/-- no sum begins with if -/
theorem Rd.head {l : Nat} {t : Tr} {w : List Str} {h : Nat} (r : Rd l t w h) : 1 ≤ l → ∃ z u, w = z :: u ∧ z ≠ "if" := by
  induction r with
  | up _ _ ih => intro _; exact ih (by omega)
  | par _ _ => intro _; exact ⟨_, _, rfl, by decide +kernel⟩
  | num g => intro _; exact ⟨_, _, rfl, num_ne g no_if⟩
  | nam g => intro _; exact ⟨_, _, rfl, name_ne g.1 nm_if⟩
  | ago g _ => intro _; exact ⟨_, _, rfl, name_ne g.1 nm_if⟩
  | @two w a b u v h g _ _ _ _ =>
    intro _
    refine ⟨_, _, rfl, ?_⟩
    cases w <;> first | exact absurd g (by decide) | decide +kernel
  | times g _ _ => intro _; exact ⟨_, _, rfl, num_ne g no_if⟩
  | sum _ _ _ ih _ =>
    intro _
    obtain ⟨z, u, rfl, n⟩ := ih (Nat.le_refl 1)
    exact ⟨z, _, rfl, n⟩
  | less _ _ _ _ => intro g; omega
  | pick _ _ _ _ _ _ => intro g; omega
/-- a sum's chain: its first link and those behind it -/
inductive Chn (h : Nat) : Tr → List Str → Tr → Prop
  | nil {t : Tr} : Chn h t [] t
  | snoc {t0 a b : Tr} {w : W2} {s : Str} {u v : List Str} : Chn h t0 u a → w.pm = some s → Rd 2 b v h → Chn h t0 (u ++ s :: v) (.o2 w a b)
theorem Rd.chain {t : Tr} {w : List Str} {h : Nat} (r : Rd 1 t w (h + 1)) : ∃ t0 u v, w = u ++ v ∧ Rd 2 t0 u h ∧ Chn h t0 v t := by
  generalize eh : h + 1 = h1 at r
  generalize el : (1 : Nat) = l at r
  induction r with
  | up _ g _ =>
    subst el
    obtain rfl := Nat.succ.inj eh
    exact ⟨_, _, [], (List.append_nil _).symm, g, .nil⟩
  | sum p a b ih _ =>
    obtain rfl := Nat.succ.inj eh
    obtain ⟨t0, u, v, rfl, g, c⟩ := ih rfl rfl
    exact ⟨t0, u, _, List.append_assoc .., g, .snoc c p b⟩
  | _ => omega
/-- a chain from its first link on -/
inductive ChF (h : Nat) : Tr → List Str → Tr → Prop
  | nil {t : Tr} : ChF h t [] t
  | cons {a b t : Tr} {w : W2} {s : Str} {v u : List Str} : w.pm = some s → Rd 2 b v h → ChF h (.o2 w a b) u t → ChF h a (s :: (v ++ u)) t
theorem ChF.snoc {h : Nat} {t0 a b : Tr} {u v : List Str} {w : W2} {s : Str} (c : ChF h t0 u a) (p : w.pm = some s) (r : Rd 2 b v h) : ChF h t0 (u ++ s :: v) (.o2 w a b) := by
  induction c with
  | @nil a1 =>
    have := ChF.cons (a := a1) (u := []) p r (.nil (t := .o2 w a1 b))
    rwa [List.append_nil] at this
  | cons p1 r1 _ ih =>
    rw [List.cons_append, List.append_assoc]
    exact .cons p1 r1 ih
theorem Chn.front {h : Nat} {t0 t : Tr} {u : List Str} (c : Chn h t0 u t) : ChF h t0 u t := by
  induction c with
  | nil => exact .nil
  | snoc _ p r ih => exact ih.snoc p r
/-! ### where a reader stands -/
def WOk (ws : List Str) : Prop := ∀ z ∈ ws, z.length ≤ 100
theorem hd_drop {ws : List Str} {k : Nat} {z : Str} {r : List Str} (h : ws.drop k = z :: r) : hdW ws k = z ∧ ws.drop (k + 1) = r := by
  have e : ws[k]? = some z := by
    have := congrArg (fun l : List Str => l[0]?) h
    simpa using this
  refine ⟨hdW_at e, ?_⟩
  rw [← List.drop_drop, h]; rfl
theorem hd_rest {ws : List Str} {k : Nat} {r : List Str} (h : ws.drop k = r) : hdW ws k = r.headD "" := by
  cases r with
  | nil =>
    unfold hdW
    rw [List.getElem?_eq_none (by have := congrArg List.length h; rw [List.length_drop, List.length_nil] at this; omega)]; rfl
  | cons z r => rw [(hd_drop h).1]; rfl
theorem drop_app {ws : List Str} {k : Nat} {w r : List Str} (h : ws.drop k = w ++ r) : ws.drop (k + w.length) = r := by
  rw [← List.drop_drop, h, List.drop_left' rfl]
theorem WOk.hd {ws : List Str} (h : WOk ws) (k : Nat) : (hdW ws k).length ≤ 100 := by
  unfold hdW
  cases e : ws[k]? with
  | none => decide
  | some z => exact h z (List.mem_of_getElem? e)
/-! ### trees read -/
theorem if_strE {a b : Str} {A B : Prop} (h1 : a = b → A) (h2 : a ≠ b → B) : if decide (V.str a = V.str b) = true then A else B := by
  by_cases c : a = b
  · rw [if_pos (decide_eq_true (by rw [c]))]; exact h1 c
  · rw [if_neg (by rw [decide_eq_false fun z => c (V.str.inj z)]; exact Bool.false_ne_true)]; exact h2 c
theorem if_strN {a b : Str} {A B : Prop} (h1 : a ≠ b → A) (h2 : a = b → B) : if (!decide (V.str a = V.str b)) = true then A else B := by
  by_cases c : a = b
  · rw [decide_eq_true (by rw [c])]; exact if_bl (fun z => nomatch z) (fun _ => h2 c)
  · rw [decide_eq_false fun z => c (V.str.inj z)]; exact if_bl (fun _ => h1 c) (fun z => nomatch z)
theorem RdAt.tb {C R : Addr} {PT : Addr × Addr} {H H' : Hp} {ws : List Str} {row : Int} {k : Nat} (h : RdAt C H R ws row k) (t : Tb2 PT H) (b : But R H H') : Tb2 PT H' := by
  obtain ⟨dx, L, e, _⟩ := h
  exact t.butR e b
section
variable {P : Program} {w : World} {K : PySem.W.Frag} {mg : Str → Option Value} {base : Heap}
def spG (C : Addr) (PT : Addr × Addr) (l n : Nat) : Sp := fun vs H Q _ => ∃ (R : Addr) (ws : List Str) (row : Int) (k : Nat) (u rest : List Str) (t : Tr), vs = [.ref R] ∧ RdAt C H R ws row k ∧ WOk ws ∧ ws.drop k = u ++ rest ∧ Rd l t u n ∧ St l (rest.headD "") ∧ Tb2 PT H ∧
  ∀ (v : V) (H' : Hp), TrAt H' v t → RdAt C H' R ws row (k + u.length) → BX R H H' → Tb2 PT H' → Q v H'
def spPick (C : Addr) (PT : Addr × Addr) (n : Nat) : Sp := fun vs H Q _ => ∃ (R : Addr) (ws : List Str) (row : Int) (k m : Nat) (u v x rest : List Str) (a b c : Tr), vs = [.ref R] ∧ n = m + 1 ∧ RdAt C H R ws row k ∧ WOk ws ∧ ws.drop k = (("if" : Str) :: (u ++ ("then" : Str) :: (v ++ ("else" : Str) :: x))) ++ rest ∧ Rd 0 a u m ∧ Rd 0 b v m ∧ Rd 0 c x m ∧ St 0 (rest.headD "") ∧ Tb2 PT H ∧
  ∀ (vv : V) (H' : Hp), TrAt H' vv (.o3 a b c) → RdAt C H' R ws row (k + (u.length + v.length + x.length + 3)) → BX R H H' → Tb2 PT H' → Q vv H'
def spBr (C : Addr) (PT : Addr × Addr) (n : Nat) : Sp := fun vs H Q _ => ∃ (R : Addr) (ws : List Str) (row : Int) (k m : Nat) (u rest : List Str) (t : Tr), vs = [.ref R] ∧ n = m + 1 ∧ RdAt C H R ws row k ∧ WOk ws ∧ ws.drop k = (("(" : Str) :: (u ++ [(")" : Str)])) ++ rest ∧ Rd 0 t u m ∧ Tb2 PT H ∧
  ∀ (v : V) (H' : Hp), TrAt H' v t → RdAt C H' R ws row (k + (u.length + 2)) → BX R H H' → Tb2 PT H' → Q v H'
def spTwo (C : Addr) (PT : Addr × Addr) (n : Nat) : Sp := fun vs H Q _ => ∃ (R : Addr) (ws : List Str) (row : Int) (k m : Nat) (wd : W2) (u v rest : List Str) (a b : Tr), vs = [.ref R] ∧ n = m + 1 ∧ RdAt C H R ws row k ∧ WOk ws ∧ ws.drop k = (wd.s :: ("(" : Str) :: (u ++ ("," : Str) :: (v ++ [(")" : Str)]))) ++ rest ∧ Rd 0 a u m ∧ Rd 0 b v m ∧ Tb2 PT H ∧
  ∀ (vv : V) (H' : Hp), TrAt H' vv (.o2 wd a b) → RdAt C H' R ws row (k + (u.length + v.length + 4)) → BX R H H' → Tb2 PT H' → Q vv H'
abbrev FnR1 (P : Program) (w : World) (K : PySem.W.Frag) (mg : Str → Option Value) (base : Heap) (x : Str) (st : Stmt) (j : Nat) (sp : Sp) : Prop := ∀ (f : Addr) (fd : FuncData), Fun K x x st f fd → FnOk P w K mg base CX0 j f fd ["reader"] sp
theorem fn_no {j : Nat} {f : Addr} {fd : FuncData} {ps : List Str} {sp : Sp} (no : ∀ vs H Q E, ¬ sp vs H Q E) : FnOk P w K mg base CX0 j f fd ps sp := ⟨fun _ _ _ _ h => (no _ _ _ _ h).elim, fun _ _ _ _ _ _ _ _ _ _ _ _ _ h => (no _ _ _ _ h).elim⟩
variable {cN cF : Addr} {PT : Addr × Addr} [TN : TabN K mg base cN PT] [TF : TabF K mg base cF PT]
omit TN TF in
theorem bracket_step {C : Addr} {f : Addr} {fd : FuncData} (T : Top w K mg C) (n : Nat) (GW : FnR1 P w K mg base "whole_tree" s_whole_tree (n + 8) (spG C PT 0 n)) (F : Fun K "bracket_tree" "bracket_tree" s_bracket_tree f fd) :
    FnOk P w K mg base CX0 (n + 9) f fd ["reader"] (spBr C PT (n + 1)) := by
  obtain ⟨f_whole_tree, fd_whole_tree, F_whole_tree, b_whole_tree, m_whole_tree⟩ := T.d_whole_tree
  have G_whole_tree := GW f_whole_tree fd_whole_tree F_whole_tree
  obtain ⟨f_Reader_take_just, fd_Reader_take_just, F_Reader_take_just, b_Reader_take_just, m_Reader_take_just⟩ := T.d_Reader_take_just
  have G_Reader_take_just := ok_Reader_take_just (P := P) (w := w) (base := base) F_Reader_take_just T
  refine F.ok sc_bracket_tree (fun vs H Q E h => ?_) (fun cdv A outer s H vs Q E hr h => ?_)
  · obtain ⟨R, ws, row, k, m, u, rest, t, rfl, _⟩ := h
    rfl
  obtain ⟨R, ws, row, k, m, u, rest, t, rfl, em, r0, wk, ed, rd, tb, q⟩ := h
  obtain rfl : n = m := Nat.succ.inj em
  simp only [List.cons_append, List.append_assoc, List.nil_append] at ed
  refine ⟨_, (pss_cons (ps_expr (pe_meth (pv 0) T.cl m_Reader_take_just G_Reader_take_just (hr.mono (by omega)) b_Reader_take_just .nil pass0 (pa_cons pe_str pa_nil)))
      (pss_cons (ps_set (i := 1) sc_bracket_tree.nd rfl (Or.inl rfl) (pe_call G_whole_tree (hr.mono (by omega)) (by rfl) m_whole_tree F_whole_tree.kp b_whole_tree .nil pass0 (pa_cons (pv 0) pa_nil)))
      (pss_cons (ps_expr (pe_meth (pv 0) T.cl m_Reader_take_just G_Reader_take_just (hr.mono (by omega)) b_Reader_take_just .nil pass0 (pa_cons pe_str pa_nil)))
      (pss_one (ps_ret (pv 1)))))), ?_⟩
  obtain ⟨d0, L0, g0, _⟩ := id r0
  obtain ⟨z1, e1⟩ := hd_drop ed
  refine ⟨_, rfl, R, d0, _, rfl, g0, rfl, R, ws, row, k, "(", rfl, r0, z1, fun H1 r1 b1 => ?_⟩
  have tb1 := r0.tb tb b1
  refine ⟨_, rfl, R, ws, row, k + 1, u, _, t, rfl, r1, wk, e1, rd, st_close, tb1, fun v H2 hv r2 b2 tb2 => ?_⟩
  obtain ⟨d2, L2', g2, _⟩ := id r2
  have e2 := drop_app e1
  obtain ⟨z3, e3⟩ := hd_drop e2
  refine ⟨_, rfl, R, d2, _, rfl, g2, rfl, R, ws, row, _, ")", rfl, r2, z3, fun H3 r3 b3 => ?_⟩
  refine ⟨_, rfl, q v H3 (hv.keep (r2.tk (BX.but b3))) ?_ (((BX.but b1).trans b2).trans (BX.but b3)) (r2.tb tb2 b3)⟩
  rw [show k + (u.length + 2) = k + 1 + u.length + 1 by omega]
  exact r3
omit TN TF in
theorem pick_step {C : Addr} {f : Addr} {fd : FuncData} (T : Top w K mg C) (n : Nat) (GW : FnR1 P w K mg base "whole_tree" s_whole_tree (n + 8) (spG C PT 0 n)) (F : Fun K "pick_tree" "pick_tree" s_pick_tree f fd) :
    FnOk P w K mg base CX0 (n + 9) f fd ["reader"] (spPick C PT (n + 1)) := by
  obtain ⟨f_whole_tree, fd_whole_tree, F_whole_tree, b_whole_tree, m_whole_tree⟩ := T.d_whole_tree
  have G_whole_tree := GW f_whole_tree fd_whole_tree F_whole_tree
  obtain ⟨f_Reader_take_just, fd_Reader_take_just, F_Reader_take_just, b_Reader_take_just, m_Reader_take_just⟩ := T.d_Reader_take_just
  have G_Reader_take_just := ok_Reader_take_just (P := P) (w := w) (base := base) F_Reader_take_just T
  refine F.ok sc_pick_tree (fun vs H Q E h => ?_) (fun cdv A outer s H vs Q E hr h => ?_)
  · obtain ⟨R, ws, row, k, m, u, v, x, rest, a, b, c, rfl, _⟩ := h
    rfl
  obtain ⟨R, ws, row, k, m, u, v, x, rest, a, b, c, rfl, em, r0, wk, ed, ra, rb, rc, st, tb, q⟩ := h
  obtain rfl : n = m := Nat.succ.inj em
  simp only [List.cons_append, List.append_assoc, List.nil_append] at ed
  refine ⟨_, (pss_cons (ps_expr (pe_meth (pv 0) T.cl m_Reader_take_just G_Reader_take_just (hr.mono (by omega)) b_Reader_take_just .nil pass0 (pa_cons pe_str pa_nil)))
      (pss_cons (ps_set (i := 1) sc_pick_tree.nd rfl (Or.inl rfl) (pe_call G_whole_tree (hr.mono (by omega)) (by rfl) m_whole_tree F_whole_tree.kp b_whole_tree .nil pass0 (pa_cons (pv 0) pa_nil)))
      (pss_cons (ps_expr (pe_meth (pv 0) T.cl m_Reader_take_just G_Reader_take_just (hr.mono (by omega)) b_Reader_take_just .nil pass0 (pa_cons pe_str pa_nil)))
      (pss_cons (ps_set (i := 2) sc_pick_tree.nd rfl (Or.inl rfl) (pe_call G_whole_tree (hr.mono (by omega)) (by rfl) m_whole_tree F_whole_tree.kp b_whole_tree .nil pass0 (pa_cons (pv 0) pa_nil)))
      (pss_cons (ps_expr (pe_meth (pv 0) T.cl m_Reader_take_just G_Reader_take_just (hr.mono (by omega)) b_Reader_take_just .nil pass0 (pa_cons pe_str pa_nil)))
      (pss_one (ps_ret (pe_tup (pa_cons pe_str (pa_cons (pv 1) (pa_cons (pv 2) (pa_cons (pe_call G_whole_tree (hr.mono (by omega)) (by rfl) m_whole_tree F_whole_tree.kp b_whole_tree .nil pass0 (pa_cons (pv 0) pa_nil)) pa_nil)))))))))))), ?_⟩
  obtain ⟨d0, L0, g0, _⟩ := id r0
  obtain ⟨z1, e1⟩ := hd_drop ed
  refine ⟨_, rfl, R, d0, _, rfl, g0, rfl, R, ws, row, k, "if", rfl, r0, z1, fun H1 r1 b1 => ?_⟩
  have tb1 := r0.tb tb b1
  refine ⟨_, rfl, R, ws, row, k + 1, u, _, a, rfl, r1, wk, e1, ra, st_then, tb1, fun va H2 ha r2 b2 tb2 => ?_⟩
  obtain ⟨d2, L2', g2, _⟩ := id r2
  have e2 := drop_app e1
  obtain ⟨z3, e3⟩ := hd_drop e2
  refine ⟨_, rfl, R, d2, _, rfl, g2, rfl, R, ws, row, _, "then", rfl, r2, z3, fun H3 r3 b3 => ?_⟩
  have tb3 := r2.tb tb2 b3
  refine ⟨_, rfl, R, ws, row, _, v, _, b, rfl, r3, wk, e3, rb, st_else, tb3, fun vb H4 hb r4 b4 tb4 => ?_⟩
  obtain ⟨d4, L4, g4, _⟩ := id r4
  have e4 := drop_app e3
  obtain ⟨z5, e5⟩ := hd_drop e4
  refine ⟨_, rfl, R, d4, _, rfl, g4, rfl, R, ws, row, _, "else", rfl, r4, z5, fun H5 r5 b5 => ?_⟩
  have tb5 := r4.tb tb4 b5
  refine ⟨_, rfl, _, rfl, _, rfl, R, ws, row, _, x, rest, c, rfl, r5, wk, e5, rc, st, tb5, fun vc H6 hc r6 b6 tb6 => ⟨(by show 4 ≤ sizeLine; decide), fun p np => ?_⟩⟩
  have b46 := (BX.but b5).trans b6
  have b26 := ((BX.but b3).trans b4).trans b46
  have s7 : Same H6 (upd H6 p (.tup [.str "pick", va, vb, vc])) := same_new np
  refine q (.ref p) _ ⟨p, va, vb, vc, rfl, upd_same, (ha.keep (r2.tk b26)).keep (TK.same s7), (hb.keep (r4.tk b46)).keep (TK.same s7), hc.keep (TK.same s7)⟩ ?_ ((((BX.but b1).trans b2).trans b26).trans (BX.same s7)) (tb6.same s7)
  rw [show k + (u.length + v.length + x.length + 3) = k + 1 + u.length + 1 + v.length + 1 + x.length by omega]
  exact r6.same s7
omit TN TF in
theorem two_step {C : Addr} {f : Addr} {fd : FuncData} (T : Top w K mg C) (n : Nat) (GW : FnR1 P w K mg base "whole_tree" s_whole_tree (n + 8) (spG C PT 0 n)) (F : Fun K "two_tree" "two_tree" s_two_tree f fd) :
    FnOk P w K mg base CX0 (n + 9) f fd ["reader"] (spTwo C PT (n + 1)) := by
  obtain ⟨f_whole_tree, fd_whole_tree, F_whole_tree, b_whole_tree, m_whole_tree⟩ := T.d_whole_tree
  have G_whole_tree := GW f_whole_tree fd_whole_tree F_whole_tree
  obtain ⟨f_Reader_take_just, fd_Reader_take_just, F_Reader_take_just, b_Reader_take_just, m_Reader_take_just⟩ := T.d_Reader_take_just
  have G_Reader_take_just := ok_Reader_take_just (P := P) (w := w) (base := base) F_Reader_take_just T
  obtain ⟨f_Reader_take, fd_Reader_take, F_Reader_take, b_Reader_take, m_Reader_take⟩ := T.d_Reader_take
  have G_Reader_take := ok_Reader_take (P := P) (w := w) (base := base) F_Reader_take T
  refine F.ok sc_two_tree (fun vs H Q E h => ?_) (fun cdv A outer s H vs Q E hr h => ?_)
  · obtain ⟨R, ws, row, k, m, wd, u, v, rest, a, b, rfl, _⟩ := h
    rfl
  obtain ⟨R, ws, row, k, m, wd, u, v, rest, a, b, rfl, em, r0, wk, ed, ra, rb, tb, q⟩ := h
  obtain rfl : n = m := Nat.succ.inj em
  simp only [List.cons_append, List.append_assoc, List.nil_append] at ed
  refine ⟨_, (pss_cons (ps_set (i := 1) sc_two_tree.nd rfl (Or.inl rfl) (pe_meth0 (pv 0) T.cl m_Reader_take G_Reader_take (hr.mono (by omega)) b_Reader_take .nil pass0))
      (pss_cons (ps_expr (pe_meth (pv 0) T.cl m_Reader_take_just G_Reader_take_just (hr.mono (by omega)) b_Reader_take_just .nil pass0 (pa_cons pe_str pa_nil)))
      (pss_cons (ps_set (i := 2) sc_two_tree.nd rfl (Or.inl rfl) (pe_call G_whole_tree (hr.mono (by omega)) (by rfl) m_whole_tree F_whole_tree.kp b_whole_tree .nil pass0 (pa_cons (pv 0) pa_nil)))
      (pss_cons (ps_expr (pe_meth (pv 0) T.cl m_Reader_take_just G_Reader_take_just (hr.mono (by omega)) b_Reader_take_just .nil pass0 (pa_cons pe_str pa_nil)))
      (pss_cons (ps_set (i := 3) sc_two_tree.nd rfl (Or.inl rfl) (pe_call G_whole_tree (hr.mono (by omega)) (by rfl) m_whole_tree F_whole_tree.kp b_whole_tree .nil pass0 (pa_cons (pv 0) pa_nil)))
      (pss_cons (ps_expr (pe_meth (pv 0) T.cl m_Reader_take_just G_Reader_take_just (hr.mono (by omega)) b_Reader_take_just .nil pass0 (pa_cons pe_str pa_nil)))
      (pss_one (ps_ret (pe_tup (pa_cons (pv 1) (pa_cons (pv 2) (pa_cons (pv 3) pa_nil)))))))))))), ?_⟩
  obtain ⟨d0, L0, g0, _⟩ := id r0
  obtain ⟨z1, e1⟩ := hd_drop ed
  refine ⟨_, rfl, R, d0, _, rfl, g0, rfl, R, ws, row, k, rfl, r0, fun H1 r1 b1 => ?_⟩
  rw [z1]
  have tb1 := r0.tb tb b1
  obtain ⟨d1, L1, g1, _⟩ := id r1
  obtain ⟨z2, e2⟩ := hd_drop e1
  refine ⟨_, rfl, R, d1, _, rfl, g1, rfl, R, ws, row, _, "(", rfl, r1, z2, fun H2 r2 b2 => ?_⟩
  have tb2 := r1.tb tb1 b2
  refine ⟨_, rfl, R, ws, row, _, u, _, a, rfl, r2, wk, e2, ra, st_comma, tb2, fun va H3 ha r3 b3 tb3 => ?_⟩
  obtain ⟨d3, L3, g3, _⟩ := id r3
  have e3 := drop_app e2
  obtain ⟨z4, e4⟩ := hd_drop e3
  refine ⟨_, rfl, R, d3, _, rfl, g3, rfl, R, ws, row, _, ",", rfl, r3, z4, fun H4 r4 b4 => ?_⟩
  have tb4 := r3.tb tb3 b4
  refine ⟨_, rfl, R, ws, row, _, v, _, b, rfl, r4, wk, e4, rb, st_close, tb4, fun vb H5 hb r5 b5 tb5 => ?_⟩
  obtain ⟨d5, L5, g5, _⟩ := id r5
  have e5 := drop_app e4
  obtain ⟨z6, e6⟩ := hd_drop e5
  refine ⟨_, rfl, R, d5, _, rfl, g5, rfl, R, ws, row, _, ")", rfl, r5, z6, fun H6 r6 b6 => ?_⟩
  have tb6 := r5.tb tb5 b6
  have b36 := ((BX.but b4).trans b5).trans (BX.but b6)
  refine ⟨_, rfl, _, rfl, _, rfl, (by show 3 ≤ sizeLine; decide), fun p np => ?_⟩
  have s7 : Same H6 (upd H6 p (.tup [.str wd.s, va, vb])) := same_new np
  refine q (.ref p) _ ⟨p, va, vb, rfl, upd_same, (ha.keep (r3.tk b36)).keep (TK.same s7), (hb.keep (r5.tk (BX.but b6))).keep (TK.same s7)⟩ ?_ (((((BX.but b1).trans (BX.but b2)).trans b3).trans b36).trans (BX.same s7)) (tb6.same s7)
  rw [show k + (u.length + v.length + 4) = k + 1 + 1 + u.length + 1 + v.length + 1 by omega]
  exact r6.same s7
omit TN TF in
theorem whole_step {C : Addr} {f : Addr} {fd : FuncData} (T : Top w K mg C) (n : Nat) (GS : FnR1 P w K mg base "sum_tree" s_sum_tree (n + 8) (spG C PT 1 n)) (GP : FnR1 P w K mg base "pick_tree" s_pick_tree (n + 8) (spPick C PT n)) (F : Fun K "whole_tree" "whole_tree" s_whole_tree f fd) :
    FnOk P w K mg base CX0 (n + 9) f fd ["reader"] (spG C PT 0 (n + 1)) := by
  obtain ⟨f_sum_tree, fd_sum_tree, F_sum_tree, b_sum_tree, m_sum_tree⟩ := T.d_sum_tree
  have G_sum_tree := GS f_sum_tree fd_sum_tree F_sum_tree
  obtain ⟨f_pick_tree, fd_pick_tree, F_pick_tree, b_pick_tree, m_pick_tree⟩ := T.d_pick_tree
  have G_pick_tree := GP f_pick_tree fd_pick_tree F_pick_tree
  obtain ⟨f_Reader_take_just, fd_Reader_take_just, F_Reader_take_just, b_Reader_take_just, m_Reader_take_just⟩ := T.d_Reader_take_just
  have G_Reader_take_just := ok_Reader_take_just (P := P) (w := w) (base := base) F_Reader_take_just T
  obtain ⟨f_Reader_ahead, fd_Reader_ahead, F_Reader_ahead, b_Reader_ahead, m_Reader_ahead⟩ := T.d_Reader_ahead
  have G_Reader_ahead := ok_Reader_ahead (P := P) (w := w) (base := base) F_Reader_ahead T
  refine F.ok sc_whole_tree (fun vs H Q E h => ?_) (fun cdv A outer s H vs Q E hr h => ?_)
  · obtain ⟨R, ws, row, k, u, rest, t, rfl, _⟩ := h
    rfl
  obtain ⟨R, ws, row, k, u, rest, t, rfl, r0, wk, ed, rd, st, tb, q⟩ := h
  refine ⟨_, (pss_cons (ps_if (pt_cmpR op_eq (pe_meth0 (pv 0) T.cl m_Reader_ahead G_Reader_ahead (hr.mono (by omega)) b_Reader_ahead .nil pass0) pe_str (nomark _)) (pss_one (ps_ret (pe_call G_pick_tree (hr.mono (by omega)) (by rfl) m_pick_tree F_pick_tree.kp b_pick_tree .nil pass0 (pa_cons (pv 0) pa_nil)))) pss_nil)
      (pss_cons (ps_set (i := 1) sc_whole_tree.nd rfl (Or.inl rfl) (pe_call G_sum_tree (hr.mono (by omega)) (by rfl) m_sum_tree F_sum_tree.kp b_sum_tree .nil pass0 (pa_cons (pv 0) pa_nil)))
      (pss_cons (ps_if (pt_cmpR op_ne (pe_meth0 (pv 0) T.cl m_Reader_ahead G_Reader_ahead (hr.mono (by omega)) b_Reader_ahead .nil pass0) pe_str (nomark _)) (pss_one (ps_ret (pv 1))) pss_nil)
      (pss_cons (ps_expr (pe_meth (pv 0) T.cl m_Reader_take_just G_Reader_take_just (hr.mono (by omega)) b_Reader_take_just .nil pass0 (pa_cons pe_str pa_nil)))
      (pss_one (ps_ret (pe_tup (pa_cons pe_str (pa_cons (pv 1) (pa_cons (pe_call G_sum_tree (hr.mono (by omega)) (by rfl) m_sum_tree F_sum_tree.kp b_sum_tree .nil pass0 (pa_cons (pv 0) pa_nil)) pa_nil)))))))))), ?_⟩
  obtain ⟨d0, L0, g0, _⟩ := id r0
  refine ⟨_, rfl, R, d0, _, rfl, g0, rfl, R, ws, row, k, rfl, r0, rfl, _, rfl, if_strE (fun e => ?_) (fun e => ?_)⟩
  · refine ⟨_, rfl, ?_⟩
    have no : ∀ {t' : Tr} {u' r' : List Str}, ws.drop k = u' ++ r' → Rd 1 t' u' n → False := fun {t' u' r'} ed' g => by
      obtain ⟨z, u2, rfl, nz⟩ := g.head (Nat.le_refl 1)
      exact nz ((hd_drop ed').1.symm.trans e)
    cases rd with
    | up _ g => exact (no ed g).elim
    | less g _ => exact (no (by rw [ed, List.append_assoc]) g).elim
    | @pick a b c u1 v1 x1 m ga gb gc =>
      refine ⟨R, ws, row, k, m, u1, v1, x1, rest, a, b, c, rfl, rfl, r0, wk, ed, ga, gb, gc, st, tb, fun vv H' hv r1 b1 tb1 => q vv H' hv ?_ b1 tb1⟩
      rw [show (("if" : Str) :: (u1 ++ ("then" : Str) :: (v1 ++ ("else" : Str) :: x1))).length = u1.length + v1.length + x1.length + 3 by simp only [List.length_cons, List.length_append]; omega]
      exact r1
  · cases rd with
    | up _ g =>
      refine ⟨_, rfl, R, ws, row, k, u, rest, t, rfl, r0, wk, ed, g, st.up, tb, fun v H1 hv r1 b1 tb1 => ?_⟩
      obtain ⟨d1, L1, g1, _⟩ := id r1
      refine ⟨_, rfl, R, d1, _, rfl, g1, rfl, R, ws, row, _, rfl, r1, rfl, _, rfl, if_strN (fun _ => ⟨_, rfl, q v H1 hv r1 b1 tb1⟩) (fun e2 => ?_)⟩
      rw [hd_rest (drop_app ed)] at e2
      exact absurd e2 (st.2.2.2 rfl)
    | @less a b u1 v1 _ ga gb =>
      rw [List.append_assoc, List.cons_append] at ed
      refine ⟨_, rfl, R, ws, row, k, u1, _, a, rfl, r0, wk, ed, ga, st_less, tb, fun va H1 ha r1 b1 tb1 => ?_⟩
      obtain ⟨d1, L1, g1, _⟩ := id r1
      have e1 := drop_app ed
      obtain ⟨z2, e2⟩ := hd_drop e1
      refine ⟨_, rfl, R, d1, _, rfl, g1, rfl, R, ws, row, _, rfl, r1, rfl, _, rfl, if_strN (fun e3 => absurd z2 e3) (fun _ => ?_)⟩
      refine ⟨_, rfl, R, d1, _, rfl, g1, rfl, R, ws, row, _, "<", rfl, r1, z2, fun H2 r2 b2 => ?_⟩
      have tb2 := r1.tb tb1 b2
      refine ⟨_, rfl, _, rfl, R, ws, row, _, v1, rest, b, rfl, r2, wk, e2, gb, st.up, tb2, fun vb H3 hb r3 b3 tb3 => ⟨(by show 3 ≤ sizeLine; decide), fun p np => ?_⟩⟩
      have b13 := (BX.but b2).trans b3
      have s4 : Same H3 (upd H3 p (.tup [.str "below", va, vb])) := same_new np
      refine q (.ref p) _ ⟨p, va, vb, rfl, upd_same, (ha.keep (r1.tk b13)).keep (TK.same s4), hb.keep (TK.same s4)⟩ ?_ ((b1.trans b13).trans (BX.same s4)) (tb3.same s4)
      rw [show k + (u1 ++ ("<" : Str) :: v1).length = k + u1.length + 1 + v1.length by rw [List.length_append, List.length_cons]; omega]
      exact r3.same s4
    | pick _ _ _ => exact absurd (hd_drop (by rw [ed, List.cons_append])).1 e
end
/-! ### sums, times, small ones -/
section
variable {P : Program} {w : World} {K : PySem.W.Frag} {mg : Str → Option Value} {base : Heap}
theorem sign_of {wd : W2} {s : Str} (h : wd.pm = some s) : s ∈ twoS ∧ signW s = wd.s := by
  cases wd <;> cases h <;> decide +kernel
theorem ChF.st {n : Nat} {a t : Tr} {v rest : List Str} (c : ChF n a v t) (st : St 1 (rest.headD "")) : St 2 ((v ++ rest).headD "") := by
  cases c with
  | nil => exact st.two (by decide)
  | cons p _ _ => exact st_plus p
variable {cN cF : Addr} {PT : Addr × Addr}
theorem sum_step {C : Addr} {f : Addr} {fd : FuncData} (T : Top w K mg C) (n : Nat) (GT : FnR1 P w K mg base "times_tree" s_times_tree (n + 8) (spG C PT 2 n)) (F : Fun K "sum_tree" "sum_tree" s_sum_tree f fd) :
    FnOk P w K mg base CX0 (n + 9) f fd ["reader"] (spG C PT 1 (n + 1)) := by
  obtain ⟨f_times_tree, fd_times_tree, F_times_tree, b_times_tree, m_times_tree⟩ := T.d_times_tree
  have G_times_tree := GT f_times_tree fd_times_tree F_times_tree
  obtain ⟨f_Reader_take, fd_Reader_take, F_Reader_take, b_Reader_take, m_Reader_take⟩ := T.d_Reader_take
  have G_Reader_take := ok_Reader_take (P := P) (w := w) (base := base) F_Reader_take T
  obtain ⟨f_Reader_ahead, fd_Reader_ahead, F_Reader_ahead, b_Reader_ahead, m_Reader_ahead⟩ := T.d_Reader_ahead
  have G_Reader_ahead := ok_Reader_ahead (P := P) (w := w) (base := base) F_Reader_ahead T
  obtain ⟨aSg, mSg, hSg⟩ := T.x_sg
  obtain ⟨es, nn, hKD⟩ := hSg.dict
  refine F.ok sc_sum_tree (fun vs H Q E h => ?_) (fun cdv A outer s H vs Q E hr h => ?_)
  · obtain ⟨R, ws, row, k, u, rest, t, rfl, _⟩ := h
    rfl
  obtain ⟨R, ws, row, k, u, rest, t, rfl, r0, wk, ed, rd, st, tb, q⟩ := h
  obtain ⟨t0, u0, v0, rfl, g0, ch⟩ := rd.chain
  have ch := ch.front
  rw [List.append_assoc] at ed
  refine ⟨_, (pss_cons (ps_set (i := 1) sc_sum_tree.nd rfl (Or.inl rfl) (pe_call G_times_tree (hr.mono (by omega)) (by rfl) m_times_tree F_times_tree.kp b_times_tree .nil pass0 (pa_cons (pv 0) pa_nil)))
      (pss_cons (ps_while PassesOwn.never (pt_cmpR (op_in_kd hKD) (pe_meth0 (pv 0) T.cl m_Reader_ahead G_Reader_ahead (hr.mono (by omega)) b_Reader_ahead .nil pass0) (pe_glob (v := .ref aSg) (by rfl) mSg rfl) (by with_unfolding_all rfl))
        (pss_cons (ps_set (i := 2) sc_sum_tree.nd rfl (Or.inl rfl) (pe_ix ix_kdict (pe_glob (v := .ref aSg) (by rfl) mSg rfl) (pe_meth0 (pv 0) T.cl m_Reader_take G_Reader_take (hr.mono (by omega)) b_Reader_take .nil pass0) (fun _ _ => rfl)))
      (pss_one (ps_set (i := 1) sc_sum_tree.nd rfl (Or.inl rfl) (pe_tup (pa_cons (pv 2) (pa_cons (pv 1) (pa_cons (pe_call G_times_tree (hr.mono (by omega)) (by rfl) m_times_tree F_times_tree.kp b_times_tree .nil pass0 (pa_cons (pv 0) pa_nil)) pa_nil))))))))
      (pss_one (ps_ret (pv 1))))), ?_⟩
  refine ⟨_, rfl, R, ws, row, k, u0, _, t0, rfl, r0, wk, ed, g0, ch.st st, tb, fun v H1 hv r1 b1 tb1 => ?_⟩
  let W : Nat → L2.St → Hp → Prop := fun m σ H5 => ∃ (v : V) (v2 : Option V) (t' : Tr) (u' : List Str) (k' : Nat), σ = [some (.ref R), some v, v2] ∧ TrAt H5 v t' ∧ ChF n t' u' t ∧ RdAt C H5 R ws row k' ∧ ws.drop k' = u' ++ rest ∧ k' + u'.length = k + (u0 ++ v0).length ∧ BX R H H5 ∧ Tb2 PT H5 ∧ m = u'.length
  refine ⟨W, ⟨_, v, none, t0, v0, k + u0.length, rfl, hv, ch, r1, drop_app ed, by rw [List.length_append]; omega, b1, tb1, rfl⟩, ?_⟩
  rintro m σ H5 ⟨v, v2, t', u', k', rfl, hv5, ch5, r5, ed5, ek, b5, tb5, rfl⟩
  obtain ⟨d5, L5, g5, _⟩ := id r5
  cases ch5 with
  | nil =>
    have hd : hdW ws k' = rest.headD "" := hd_rest ed5
    have no : hdW ws k' ∉ twoS := fun z => by
      rw [hd] at z
      have := st.2.2.1 (Nat.le_refl 1)
      simp only [twoS, List.mem_cons, List.not_mem_nil, or_false] at z
      exact z.elim this.1 this.2
    refine ⟨_, rfl, R, d5, _, rfl, g5, rfl, R, ws, row, k', rfl, r5, _, _, rfl, rfl, hSg.no _ no, _, rfl, ?_⟩
    refine if_bl (fun z => nomatch z) (fun _ => ⟨_, rfl, q v H5 hv5 ?_ b5 tb5⟩)
    rw [← ek]
    exact r5
  | @cons _ b _ wd s v1 u1 p gb c5 =>
    rw [List.cons_append, List.append_assoc] at ed5
    obtain ⟨z1, e1⟩ := hd_drop ed5
    obtain ⟨m2, sw⟩ := sign_of p
    obtain ⟨tt, hy⟩ := hSg.yes s m2
    refine ⟨_, rfl, R, d5, _, rfl, g5, rfl, R, ws, row, k', rfl, r5, _, _, rfl, rfl, by rw [z1]; exact hy, _, rfl, ?_⟩
    refine if_bl (fun _ => ?_) (fun z => nomatch z)
    refine ⟨fun σ' H' => ∃ m', m' < (s :: (v1 ++ u1)).length ∧ W m' σ' H', fun _ _ z => z, ?_⟩
    refine ⟨_, rfl, R, d5, _, rfl, g5, rfl, R, ws, row, k', rfl, r5, fun H6 r6 b6 => ⟨aSg, s, .str (signW s), rfl, by rw [z1], ⟨es, nn, _, hKD.at_, hKD.lit, hy, ⟨tt, rfl⟩⟩, ?_⟩⟩
    rw [sw]
    have tb6 := r5.tb tb5 b6
    refine ⟨_, rfl, _, rfl, _, rfl, R, ws, row, k' + 1, v1, _, b, rfl, r6, wk, e1, gb, c5.st st, tb6, fun vb H7 hb r7 b7 tb7 => ⟨(by show 3 ≤ sizeLine; decide), fun pp npp => ?_⟩⟩
    have b57 := (BX.but b6).trans b7
    have s8 : Same H7 (upd H7 pp (.tup [.str wd.s, v, vb])) := same_new npp
    refine ⟨u1.length, by rw [List.length_cons, List.length_append]; omega, .ref pp, _, .o2 wd t' b, u1, k' + 1 + v1.length, rfl, ⟨pp, v, vb, rfl, upd_same, (hv5.keep (r5.tk b57)).keep (TK.same s8), hb.keep (TK.same s8)⟩, c5, r7.same s8, drop_app e1, ?_, (b5.trans b57).trans (BX.same s8), tb7.same s8, rfl⟩
    rw [← ek, List.length_cons, List.length_append]
    omega
def sp_bells_ago (K : PySem.W.Frag) (C : Addr) (PT : Addr × Addr) : Sp := fun vs H Q _ => ∃ (R : Addr) (ws : List Str) (row : Int) (k : Nat), vs = [.ref R] ∧ RdAt C H R ws row k ∧ Tb2 PT H ∧
  ((hdW ws k ≠ "@" ∧ Q (.int 0) H) ∨ ∃ (y : Str) (i : Nat) (r : List Str), ws.drop k = ("@" : Str) :: y :: r ∧ numW y ((i + 1 : Nat) : Int) ∧ ∀ H', RdAt C H' R ws row (k + 2) → BX R H H' → Tb2 PT H' → Q (nV (i + 1)) H')
variable [TF : TabF K mg base cF PT]
include TF in
theorem ok_bells_ago {f : Addr} {fd : FuncData} (F : Fun K "bells_ago" "bells_ago" s_bells_ago f fd) {C : Addr} (T : Top w K mg C) : FnOk P w K mg base CX0 5 f fd ["reader"] (sp_bells_ago K C PT) := by
  obtain ⟨f_Reader_take_just, fd_Reader_take_just, F_Reader_take_just, b_Reader_take_just, m_Reader_take_just⟩ := T.d_Reader_take_just
  have G_Reader_take_just := ok_Reader_take_just (P := P) (w := w) (base := base) F_Reader_take_just T
  obtain ⟨f_Reader_take_number, fd_Reader_take_number, F_Reader_take_number, b_Reader_take_number, m_Reader_take_number⟩ := T.d_Reader_take_number
  have G_Reader_take_number := ok_Reader_take_number (P := P) (w := w) (base := base) F_Reader_take_number T
  obtain ⟨f_Reader_ahead, fd_Reader_ahead, F_Reader_ahead, b_Reader_ahead, m_Reader_ahead⟩ := T.d_Reader_ahead
  have G_Reader_ahead := ok_Reader_ahead (P := P) (w := w) (base := base) F_Reader_ahead T
  refine F.ok sc_bells_ago (fun vs H Q E h => ?_) (fun cdv A outer s H vs Q E hr h => ?_)
  · obtain ⟨R, ws, row, k, rfl, _⟩ := h
    rfl
  obtain ⟨R, ws, row, k, rfl, r0, tb, q⟩ := h
  obtain ⟨d0, L0, g0, _⟩ := id r0
  refine ⟨_, (pss_cons (ps_if (pt_cmpR op_ne (pe_meth0 (pv 0) T.cl m_Reader_ahead G_Reader_ahead (hr.mono (by decide)) b_Reader_ahead .nil pass0) pe_str (nomark _)) (pss_one (ps_ret pe_int)) pss_nil)
      (pss_cons (ps_expr (pe_meth (pv 0) T.cl m_Reader_take_just G_Reader_take_just (hr.mono (by decide)) b_Reader_take_just .nil pass0 (pa_cons pe_str pa_nil)))
      (pss_cons (ps_set (i := 1) sc_bells_ago.nd rfl (Or.inl rfl) (pe_meth0 (pv 0) T.cl m_Reader_take_number G_Reader_take_number (hr.mono (by decide)) b_Reader_take_number .nil pass0))
      (pss_cons (ps_if (pt_cmpR op_lt (pv 1) pe_int (nomark _)) (pss_one ps_dead) pss_nil)
      (pss_one (ps_ret (pv 1))))))), ?_⟩
  refine ⟨_, rfl, R, d0, _, rfl, g0, rfl, R, ws, row, k, rfl, r0, rfl, _, rfl, if_strN (fun ne => ?_) (fun e => ?_)⟩
  · rcases q with ⟨_, q⟩ | ⟨y, i, r, ed, _⟩
    · exact q
    · exact absurd (hd_drop ed).1 ne
  · rcases q with ⟨ne, _⟩ | ⟨y, i, r, ed, hy, q⟩
    · exact absurd e ne
    · obtain ⟨z1, e1⟩ := hd_drop ed
      refine ⟨_, rfl, R, d0, _, rfl, g0, rfl, R, ws, row, k, "@", rfl, r0, z1, fun H1 r1 b1 => ?_⟩
      have tb1 := r0.tb tb b1
      obtain ⟨d1, L1, g1, _⟩ := id r1
      obtain ⟨z2, e2⟩ := hd_drop e1
      refine ⟨_, rfl, R, d1, _, rfl, g1, rfl, R, ws, row, k + 1, y, _, rfl, r1, z2, by have := hy.2; omega, hy.1, tb1, fun H2 r2 b2 tb2 => ?_⟩
      refine ⟨_, rfl, _, _, rfl, rfl, _, rfl, if_bl (fun c => ?_) (fun _ => ?_)⟩
      · have := of_decide_eq_true c
        omega
      · exact ⟨_, rfl, q H2 r2 ((BX.but b1).trans b2) tb2⟩
include TF in
theorem times_step {C : Addr} {f : Addr} {fd : FuncData} (T : Top w K mg C) (n : Nat) (GT : FnR1 P w K mg base "small_tree" s_small_tree (n + 8) (spG C PT 3 n)) (F : Fun K "times_tree" "times_tree" s_times_tree f fd) :
    FnOk P w K mg base CX0 (n + 9) f fd ["reader"] (spG C PT 2 (n + 1)) := by
  obtain ⟨f_small_tree, fd_small_tree, F_small_tree, b_small_tree, m_small_tree⟩ := T.d_small_tree
  have G_small_tree := GT f_small_tree fd_small_tree F_small_tree
  obtain ⟨f_Reader_take_just, fd_Reader_take_just, F_Reader_take_just, b_Reader_take_just, m_Reader_take_just⟩ := T.d_Reader_take_just
  have G_Reader_take_just := ok_Reader_take_just (P := P) (w := w) (base := base) F_Reader_take_just T
  obtain ⟨f_Reader_ahead, fd_Reader_ahead, F_Reader_ahead, b_Reader_ahead, m_Reader_ahead⟩ := T.d_Reader_ahead
  have G_Reader_ahead := ok_Reader_ahead (P := P) (w := w) (base := base) F_Reader_ahead T
  obtain ⟨f_number_of, fd_number_of, F_number_of, b_number_of, m_number_of⟩ := T.d_number_of
  have G_number_of := ok_number_of (P := P) (w := w) (base := base) F_number_of (TF.cd _ _ F_number_of m_number_of) T
  refine F.ok sc_times_tree (fun vs H Q E h => ?_) (fun cdv A outer s H vs Q E hr h => ?_)
  · obtain ⟨R, ws, row, k, u, rest, t, rfl, _⟩ := h
    rfl
  obtain ⟨R, ws, row, k, u, rest, t, rfl, r0, wk, ed, rd, st, tb, q⟩ := h
  obtain ⟨d0, L0, g0, _⟩ := id r0
  refine ⟨_, (pss_cons (ps_set (i := 1) sc_times_tree.nd rfl (Or.inl rfl) (pe_call G_number_of (hr.mono (by omega)) (by rfl) m_number_of F_number_of.kp b_number_of .nil pass0 (pa_cons (pe_meth0 (pv 0) T.cl m_Reader_ahead G_Reader_ahead (hr.mono (by omega)) b_Reader_ahead .nil pass0) pa_nil)))
      (pss_cons (ps_set (i := 2) sc_times_tree.nd rfl (Or.inl rfl) (pe_call G_small_tree (hr.mono (by omega)) (by rfl) m_small_tree F_small_tree.kp b_small_tree .nil pass0 (pa_cons (pv 0) pa_nil)))
      (pss_cons (ps_if (PW.pt (pw_or (pt_cmpR op_isN (pv 1) pe_non (nomark _)) (pw_or1 (pt_cmpR op_ne (pe_meth0 (pv 0) T.cl m_Reader_ahead G_Reader_ahead (hr.mono (by omega)) b_Reader_ahead .nil pass0) pe_str (nomark _))))) (pss_one (ps_ret (pv 2))) pss_nil)
      (pss_cons (ps_expr (pe_meth (pv 0) T.cl m_Reader_take_just G_Reader_take_just (hr.mono (by omega)) b_Reader_take_just .nil pass0 (pa_cons pe_str pa_nil)))
      (pss_one (ps_ret (pe_tup (pa_cons pe_str (pa_cons (pv 1) (pa_cons (pe_call G_small_tree (hr.mono (by omega)) (by rfl) m_small_tree F_small_tree.kp b_small_tree .nil pass0 (pa_cons (pv 0) pa_nil)) pa_nil)))))))))), ?_⟩
  refine ⟨_, rfl, R, d0, _, rfl, g0, rfl, R, ws, row, k, rfl, r0, _, rfl, by have := wk.hd k; omega, tb, fun H1 x1 tb1 => ?_⟩
  have r1 := r0.ext x1
  cases rd with
  | up _ g =>
    refine ⟨_, rfl, R, ws, row, k, u, rest, t, rfl, r1, wk, ed, g, st.up, tb1, fun v H2 hv r2 b2 tb2 => ?_⟩
    obtain ⟨d2, L2', g2, _⟩ := id r2
    have out := q v H2 hv r2 ((BX.ext x1).trans b2) tb2
    cases eo : numO (hdW ws k).cps.toList with
    | none => exact ⟨_, rfl, rfl, _, rfl, if_bl (fun _ => ⟨_, rfl, out⟩) (fun z => nomatch z)⟩
    | some i =>
      refine ⟨_, rfl, rfl, _, rfl, if_bl (fun z => nomatch z) (fun _ => ?_)⟩
      refine ⟨_, rfl, R, d2, _, rfl, g2, rfl, R, ws, row, _, rfl, r2, rfl, _, rfl, if_strN (fun _ => ⟨_, rfl, out⟩) (fun e => ?_)⟩
      rw [hd_rest (drop_app ed)] at e
      exact absurd e (st.2.1 (Nat.le_refl 2))
  | @times z i t1 u1 _ hz g =>
    rw [List.cons_append, List.cons_append] at ed
    obtain ⟨z1, e1⟩ := hd_drop ed
    rw [z1, hz.1]
    refine ⟨_, rfl, R, ws, row, k, [z], _, .no i, rfl, r1, wk, ed, .num hz, st_star, tb1, fun v H2 hv r2 b2 tb2 => ?_⟩
    obtain ⟨d2, L2', g2, _⟩ := id r2
    obtain ⟨z2, e2⟩ := hd_drop e1
    refine ⟨_, rfl, rfl, _, rfl, if_bl (fun z => nomatch z) (fun _ => ?_)⟩
    refine ⟨_, rfl, R, d2, _, rfl, g2, rfl, R, ws, row, k + 1, rfl, r2, rfl, _, rfl, if_strN (fun e => absurd z2 e) (fun _ => ?_)⟩
    refine ⟨_, rfl, R, d2, _, rfl, g2, rfl, R, ws, row, k + 1, "*", rfl, r2, z2, fun H3 r3 b3 => ?_⟩
    have tb3 := r2.tb tb2 b3
    refine ⟨_, rfl, _, rfl, R, ws, row, k + 1 + 1, u1, rest, t1, rfl, r3, wk, e2, g, st.up, tb3, fun vb H4 hb r4 b4 tb4 => ⟨(by show 3 ≤ sizeLine; decide), fun p np => ?_⟩⟩
    have s5 : Same H4 (upd H4 p (.tup [.str "times", .int i, vb])) := same_new np
    refine q (.ref p) _ ⟨p, vb, rfl, upd_same, hb.keep (TK.same s5)⟩ ?_ (((((BX.ext x1).trans b2).trans (BX.but b3)).trans b4).trans (BX.same s5)) (tb4.same s5)
    rw [show k + (z :: ("*" : Str) :: u1).length = k + 1 + 1 + u1.length by rw [List.length_cons, List.length_cons]; omega]
    exact r4.same s5
end
/-! ### small trees; all of them -/
section
variable {P : Program} {w : World} {K : PySem.W.Frag} {mg : Str → Option Value} {base : Heap}
variable {cN cF : Addr} {PT : Addr × Addr} [TN : TabN K mg base cN PT] [TF : TabF K mg base cF PT]
include TN TF
theorem small_any {C : Addr} {f : Addr} {fd : FuncData} (T : Top w K mg C) (n : Nat) {sB sT : Sp} (GB : FnR1 P w K mg base "bracket_tree" s_bracket_tree (n + 7) sB) (GT : FnR1 P w K mg base "two_tree" s_two_tree (n + 7) sT)
    (hB : ∀ m, n = m + 1 → ∀ vs H Q E, spBr C PT m vs H Q E → sB vs H Q E) (hT : ∀ m, n = m + 1 → ∀ vs H Q E, spTwo C PT m vs H Q E → sT vs H Q E) (F : Fun K "small_tree" "small_tree" s_small_tree f fd) :
    FnOk P w K mg base CX0 (n + 8) f fd ["reader"] (spG C PT 3 n) := by
  obtain ⟨f_bracket_tree, fd_bracket_tree, F_bracket_tree, b_bracket_tree, m_bracket_tree⟩ := T.d_bracket_tree
  have G_bracket_tree := GB f_bracket_tree fd_bracket_tree F_bracket_tree
  obtain ⟨f_two_tree, fd_two_tree, F_two_tree, b_two_tree, m_two_tree⟩ := T.d_two_tree
  have G_two_tree := GT f_two_tree fd_two_tree F_two_tree
  obtain ⟨f_Reader_ahead, fd_Reader_ahead, F_Reader_ahead, b_Reader_ahead, m_Reader_ahead⟩ := T.d_Reader_ahead
  have G_Reader_ahead := ok_Reader_ahead (P := P) (w := w) (base := base) F_Reader_ahead T
  obtain ⟨f_Reader_take_name, fd_Reader_take_name, F_Reader_take_name, b_Reader_take_name, m_Reader_take_name⟩ := T.d_Reader_take_name
  have G_Reader_take_name := ok_Reader_take_name (P := P) (w := w) (base := base) F_Reader_take_name T
  obtain ⟨f_Reader_take_number, fd_Reader_take_number, F_Reader_take_number, b_Reader_take_number, m_Reader_take_number⟩ := T.d_Reader_take_number
  have G_Reader_take_number := ok_Reader_take_number (P := P) (w := w) (base := base) F_Reader_take_number T
  obtain ⟨f_number_of, fd_number_of, F_number_of, b_number_of, m_number_of⟩ := T.d_number_of
  have G_number_of := ok_number_of (P := P) (w := w) (base := base) F_number_of (TF.cd _ _ F_number_of m_number_of) T
  obtain ⟨f_bells_ago, fd_bells_ago, F_bells_ago, b_bells_ago, m_bells_ago⟩ := T.d_bells_ago
  have G_bells_ago := ok_bells_ago (P := P) (w := w) (base := base) F_bells_ago T
  refine F.ok sc_small_tree (fun vs H Q E h => ?_) (fun cdv A outer s H vs Q E hr h => ?_)
  · obtain ⟨R, ws, row, k, u, rest, t, rfl, _⟩ := h
    rfl
  obtain ⟨R, ws, row, k, u, rest, t, rfl, r0, wk, ed, rd, st, tb, q⟩ := h
  obtain ⟨d0, L0, g0, _⟩ := id r0
  refine ⟨_, (pss_cons (ps_set (i := 1) sc_small_tree.nd rfl (Or.inl rfl) (pe_meth0 (pv 0) T.cl m_Reader_ahead G_Reader_ahead (hr.mono (by omega)) b_Reader_ahead .nil pass0))
      (pss_cons (ps_if (pt_cmpR op_eq (pv 1) pe_str (nomark _)) (pss_one (ps_ret (pe_call G_bracket_tree (hr.mono (by omega)) (by rfl) m_bracket_tree F_bracket_tree.kp b_bracket_tree .nil pass0 (pa_cons (pv 0) pa_nil)))) pss_nil)
      (pss_cons (ps_if (pt_cmpR (op_in_seqK K rfl) (pv 1) (pe_tup (pa_cons pe_str (pa_cons pe_str pa_nil))) (by with_unfolding_all rfl)) (pss_one (ps_ret (pe_call G_two_tree (hr.mono (by omega)) (by rfl) m_two_tree F_two_tree.kp b_two_tree .nil pass0 (pa_cons (pv 0) pa_nil)))) pss_nil)
      (pss_cons (ps_if (pt_cmpR op_notN (pe_call G_number_of (hr.mono (by omega)) (by rfl) m_number_of F_number_of.kp b_number_of .nil pass0 (pa_cons (pv 1) pa_nil)) pe_non (nomark _)) (pss_one (ps_ret (pe_tup (pa_cons pe_str (pa_cons (pe_meth0 (pv 0) T.cl m_Reader_take_number G_Reader_take_number (hr.mono (by omega)) b_Reader_take_number .nil pass0) pa_nil))))) pss_nil)
      (pss_cons (ps_set (i := 2) sc_small_tree.nd rfl (Or.inl rfl) (pe_meth0 (pv 0) T.cl m_Reader_take_name G_Reader_take_name (hr.mono (by omega)) b_Reader_take_name .nil pass0))
      (pss_one (ps_ret (pe_tup (pa_cons pe_str (pa_cons (pv 2) (pa_cons (pe_call G_bells_ago (hr.mono (by omega)) (by rfl) m_bells_ago F_bells_ago.kp b_bells_ago .nil pass0 (pa_cons (pv 0) pa_nil)) pa_nil))))))))))), ?_⟩
  refine ⟨_, rfl, R, d0, _, rfl, g0, rfl, R, ws, row, k, rfl, r0, ?_⟩
  cases rd with
  | up l _ => omega
  | @par _ u1 m g =>
    have z1 := (hd_drop (by rw [ed, List.cons_append])).1
    rw [z1]
    refine ⟨_, rfl, rfl, _, rfl, if_strE (fun _ => ?_) (fun e => absurd rfl e)⟩
    refine ⟨_, rfl, hB (m + 1) rfl _ _ _ _ ⟨R, ws, row, k, m, u1, rest, t, rfl, rfl, r0, wk, ed, g, tb, fun v H' hv r1 b1 tb1 => q v H' hv ?_ b1 tb1⟩⟩
    rw [show (("(" : Str) :: (u1 ++ [(")" : Str)])).length = u1.length + 2 by simp only [List.length_cons, List.length_append, List.length_nil]]
    exact r1
  | @two wd a b u1 v1 m ml ga gb =>
    have z1 := (hd_drop (by rw [ed, List.cons_append])).1
    rw [z1]
    refine ⟨_, rfl, rfl, _, rfl, if_strE (fun e => ?_) (fun _ => ?_)⟩
    · cases wd <;> exact absurd e (by decide +kernel)
    refine ⟨_, rfl, (by show 2 ≤ sizeLine; decide), fun tp ntp => ?_⟩
    have s1 : Same H (upd H tp (.tup [.str "most", .str "least"])) := same_new ntp
    refine ⟨tp, _, rfl, .inr (SqT.of upd_same), rfl, rfl, _, rfl, ?_⟩
    generalize upd H tp (.tup [.str "most", .str "least"]) = H1 at s1 ⊢
    refine if_in (zs := ["most", "least"]) (fun _ => ?_) (fun c => ?_)
    · refine ⟨_, rfl, hT (m + 1) rfl _ _ _ _ ⟨R, ws, row, k, m, wd, u1, v1, rest, a, b, rfl, rfl, r0.same s1, wk, ed, ga, gb, tb.same s1, fun v H' hv r1 b1 tb1 => q v H' hv ?_ ((BX.same s1).trans b1) tb1⟩⟩
      rw [show (wd.s :: ("(" : Str) :: (u1 ++ ("," : Str) :: (v1 ++ [(")" : Str)]))).length = u1.length + v1.length + 4 by simp only [List.length_cons, List.length_append, List.length_nil]; omega]
      exact r1
    · cases wd <;> first | exact absurd ml (by decide) | exact absurd (by decide +kernel) c
  | @num z i _ hz =>
    have ed := ed
    rw [List.cons_append, List.nil_append] at ed
    have z1 := (hd_drop ed).1
    rw [z1]
    refine ⟨_, rfl, rfl, _, rfl, if_strE (fun e => absurd e (num_ne hz no_open)) (fun _ => ?_)⟩
    refine ⟨_, rfl, (by show 2 ≤ sizeLine; decide), fun tp ntp => ?_⟩
    have s1 : Same H (upd H tp (.tup [.str "most", .str "least"])) := same_new ntp
    refine ⟨tp, _, rfl, .inr (SqT.of upd_same), rfl, rfl, _, rfl, ?_⟩
    generalize upd H tp (.tup [.str "most", .str "least"]) = H1 at s1 ⊢
    refine if_in (zs := ["most", "least"]) (fun c => ?_) (fun _ => ?_)
    · simp only [List.mem_cons, List.not_mem_nil, or_false] at c
      exact (c.elim (num_ne hz no_most) (num_ne hz no_least)).elim
    have r1 := r0.same s1
    refine ⟨_, rfl, _, rfl, by have := hz.2; omega, tb.same s1, fun H2 x2 tb2 => ?_⟩
    rw [hz.1]
    refine ⟨rfl, _, rfl, if_bl (fun _ => ?_) (fun z => nomatch z)⟩
    have r2 := r1.ext x2
    obtain ⟨d2, L2', g2, _⟩ := id r2
    refine ⟨_, rfl, R, d2, _, rfl, g2, rfl, R, ws, row, k, z, i, rfl, r2, z1, by have := hz.2; omega, hz.1, tb2, fun H3 r3 b3 tb3 => ⟨(by show 2 ≤ sizeLine; decide), fun p np => ?_⟩⟩
    have s4 : Same H3 (upd H3 p (.tup [.str "number", .int i])) := same_new np
    exact q (.ref p) _ ⟨p, rfl, upd_same⟩ (r3.same s4) ((((BX.same s1).trans (BX.ext x2)).trans b3).trans (BX.same s4)) (tb3.same s4)
  | @nam z _ hz =>
    have ed := ed
    rw [List.cons_append, List.nil_append] at ed
    have z1 := (hd_drop ed).1
    rw [z1]
    refine ⟨_, rfl, rfl, _, rfl, if_strE (fun e => absurd e (name_ne hz.1 nm_open)) (fun _ => ?_)⟩
    refine ⟨_, rfl, (by show 2 ≤ sizeLine; decide), fun tp ntp => ?_⟩
    have s1 : Same H (upd H tp (.tup [.str "most", .str "least"])) := same_new ntp
    refine ⟨tp, _, rfl, .inr (SqT.of upd_same), rfl, rfl, _, rfl, ?_⟩
    generalize upd H tp (.tup [.str "most", .str "least"]) = H1 at s1 ⊢
    refine if_in (zs := ["most", "least"]) (fun c => ?_) (fun _ => ?_)
    · simp only [List.mem_cons, List.not_mem_nil, or_false] at c
      exact (c.elim (name_ne hz.1 nm_most) (name_ne hz.1 nm_least)).elim
    have r1 := r0.same s1
    refine ⟨_, rfl, _, rfl, by have := hz.2; omega, tb.same s1, fun H2 x2 tb2 => ?_⟩
    rw [name_no hz.1]
    refine ⟨rfl, _, rfl, if_bl (fun z => nomatch z) (fun _ => ?_)⟩
    have r2 := r1.ext x2
    obtain ⟨d2, L2', g2, _⟩ := id r2
    refine ⟨_, rfl, R, d2, _, rfl, g2, rfl, R, ws, row, k, z, rfl, r2, z1, hz.2, hz.1, tb2, fun H3 r3 b3 tb3 => ?_⟩
    refine ⟨_, rfl, _, rfl, R, ws, row, k + 1, rfl, r3, tb3, .inl ⟨?_, (by show 3 ≤ sizeLine; decide), fun p np => ?_⟩⟩
    · rw [hd_rest (hd_drop ed).2]
      exact st.1
    · have s4 : Same H3 (upd H3 p (.tup [.str "name", .str z, .int 0])) := same_new np
      exact q (.ref p) _ ⟨p, rfl, upd_same⟩ (r3.same s4) ((((BX.same s1).trans (BX.ext x2)).trans b3).trans (BX.same s4)) (tb3.same s4)
  | @ago z y i _ hz hy =>
    have ed := ed
    simp only [List.cons_append, List.nil_append] at ed
    have z1 := (hd_drop ed).1
    rw [z1]
    refine ⟨_, rfl, rfl, _, rfl, if_strE (fun e => absurd e (name_ne hz.1 nm_open)) (fun _ => ?_)⟩
    refine ⟨_, rfl, (by show 2 ≤ sizeLine; decide), fun tp ntp => ?_⟩
    have s1 : Same H (upd H tp (.tup [.str "most", .str "least"])) := same_new ntp
    refine ⟨tp, _, rfl, .inr (SqT.of upd_same), rfl, rfl, _, rfl, ?_⟩
    generalize upd H tp (.tup [.str "most", .str "least"]) = H1 at s1 ⊢
    refine if_in (zs := ["most", "least"]) (fun c => ?_) (fun _ => ?_)
    · simp only [List.mem_cons, List.not_mem_nil, or_false] at c
      exact (c.elim (name_ne hz.1 nm_most) (name_ne hz.1 nm_least)).elim
    have r1 := r0.same s1
    refine ⟨_, rfl, _, rfl, by have := hz.2; omega, tb.same s1, fun H2 x2 tb2 => ?_⟩
    rw [name_no hz.1]
    refine ⟨rfl, _, rfl, if_bl (fun z => nomatch z) (fun _ => ?_)⟩
    have r2 := r1.ext x2
    obtain ⟨d2, L2', g2, _⟩ := id r2
    refine ⟨_, rfl, R, d2, _, rfl, g2, rfl, R, ws, row, k, z, rfl, r2, z1, hz.2, hz.1, tb2, fun H3 r3 b3 tb3 => ?_⟩
    refine ⟨_, rfl, _, rfl, R, ws, row, k + 1, rfl, r3, tb3, .inr ⟨y, i, rest, (hd_drop ed).2, hy, fun H4 r4 b4 tb4 => ⟨(by show 3 ≤ sizeLine; decide), fun p np => ?_⟩⟩⟩
    have s5 : Same H4 (upd H4 p (.tup [.str "name", .str z, nV (i + 1)])) := same_new np
    exact q (.ref p) _ ⟨p, rfl, upd_same⟩ (r4.same s5) (((((BX.same s1).trans (BX.ext x2)).trans b3).trans b4).trans (BX.same s5)) (tb4.same s5)
/-- the seven functions that read trees, calls bounded by n -/
structure Grp (P : Program) (w : World) (K : PySem.W.Frag) (mg : Str → Option Value) (base : Heap) (C : Addr) (PT : Addr × Addr) (n : Nat) : Prop where
  whole : FnR1 P w K mg base "whole_tree" s_whole_tree (n + 8) (spG C PT 0 n)
  sum : FnR1 P w K mg base "sum_tree" s_sum_tree (n + 8) (spG C PT 1 n)
  times : FnR1 P w K mg base "times_tree" s_times_tree (n + 8) (spG C PT 2 n)
  small : FnR1 P w K mg base "small_tree" s_small_tree (n + 8) (spG C PT 3 n)
  pick : FnR1 P w K mg base "pick_tree" s_pick_tree (n + 8) (spPick C PT n)
  brack : FnR1 P w K mg base "bracket_tree" s_bracket_tree (n + 8) (spBr C PT n)
  two : FnR1 P w K mg base "two_tree" s_two_tree (n + 8) (spTwo C PT n)
omit TN TF in
theorem Rd.pos {l : Nat} {t : Tr} {u : List Str} {n : Nat} (r : Rd l t u n) : l < 3 → 0 < n := by
  cases r <;> intro h <;> omega
theorem grp {C : Addr} (T : Top w K mg C) : ∀ n, Grp P w K mg base C PT n
  | 0 => by
    have no : ∀ l, l < 3 → ∀ vs H Q E, ¬ spG C PT l 0 vs H Q E := fun l hl vs H Q E ⟨_, _, _, _, _, _, _, _, _, _, _, g, _⟩ => absurd (g.pos hl) (by decide)
    exact ⟨fun _ _ _ => fn_no (no 0 (by decide)), fun _ _ _ => fn_no (no 1 (by decide)), fun _ _ _ => fn_no (no 2 (by decide)),
      fun f fd F => small_any T 0 (sB := fun _ _ _ _ => False) (sT := fun _ _ _ _ => False) (fun _ _ _ => fn_no fun _ _ _ _ h => h) (fun _ _ _ => fn_no fun _ _ _ _ h => h) (fun m e => absurd e (by omega)) (fun m e => absurd e (by omega)) F,
      fun _ _ _ => fn_no fun vs H Q E ⟨_, _, _, _, _, _, _, _, _, _, _, _, _, e, _⟩ => absurd e (by omega), fun _ _ _ => fn_no fun vs H Q E ⟨_, _, _, _, _, _, _, _, _, e, _⟩ => absurd e (by omega), fun _ _ _ => fn_no fun vs H Q E ⟨_, _, _, _, _, _, _, _, _, _, _, _, e, _⟩ => absurd e (by omega)⟩
  | n + 1 => by
    have g := grp T n
    exact ⟨fun f fd F => whole_step T n g.sum g.pick F, fun f fd F => sum_step T n g.times F, fun f fd F => times_step T n g.small F,
      fun f fd F => small_any T (n + 1) g.brack g.two (fun m e vs H Q E h => by obtain rfl := Nat.succ.inj e; exact h) (fun m e vs H Q E h => by obtain rfl := Nat.succ.inj e; exact h) F,
      fun f fd F => pick_step T n g.whole F, fun f fd F => bracket_step T n g.whole F, fun f fd F => two_step T n g.whole F⟩
abbrev sp_whole_tree (_ : PySem.W.Frag) (C : Addr) (PT : Addr × Addr) : Sp := spG C PT 0 120
theorem ok_whole_tree {C : Addr} {f : Addr} {fd : FuncData} (F : Fun K "whole_tree" "whole_tree" s_whole_tree f fd) (T : Top w K mg C) : FnOk P w K mg base CX0 128 f fd ["reader"] (sp_whole_tree K C PT) := (grp T 120).whole f fd F
end
/-! ### formulas -/
def firstN (n : Nat) (p : Nat → Bool) : Option Nat := (List.range n).find? p
theorem firstN_at {n i : Nat} {p : Nat → Bool} (hi : i < n) (hp : p i = true) (no : ∀ j, j < i → p j = false) : firstN n p = some i := by
  unfold firstN
  rw [List.find?_range_eq_some]
  exact ⟨hp, List.mem_range.mpr hi, fun j hj => by rw [no j hj]; rfl⟩
theorem firstN_none {n : Nat} {p : Nat → Bool} (no : ∀ j, j < n → p j = false) : firstN n p = none := by
  unfold firstN
  rw [List.find?_eq_none]
  intro j hj
  rw [no j (List.mem_range.mp hj)]
  exact Bool.false_ne_true
theorem firstN_no {n : Nat} {p : Nat → Bool} (h : firstN n p = none) : ∀ j, j < n → p j = false := fun j hj => by
  have := List.find?_eq_none.mp h j (List.mem_range.mpr hj)
  exact Bool.eq_false_iff.mpr this
structure Fm where
  ins : List Str
  was : List (Str × List Int)
  rules : List (Str × Tr)
  outs : List Str
def WaAt (H : Hp) (v : V) (p : Str × List Int) : Prop := ∃ a b, v = .ref a ∧ H a = some (.tup [.str p.1, .ref b]) ∧ H b = some (.tup (p.2.map V.int))
def RlAt (H : Hp) (v : V) (p : Str × Tr) : Prop := ∃ a x, v = .ref a ∧ H a = some (.tup [.str p.1, x]) ∧ TrAt H x p.2
theorem WaAt.keep {H H' : Hp} {v : V} {p : Str × List Int} (h : WaAt H v p) (k : TK H H') : WaAt H' v p := by
  obtain ⟨a, b, rfl, e1, e2⟩ := h
  exact ⟨a, b, rfl, k _ _ e1, k _ _ e2⟩
theorem RlAt.keep {H H' : Hp} {v : V} {p : Str × Tr} (h : RlAt H v p) (k : TK H H') : RlAt H' v p := by
  obtain ⟨a, x, rfl, e1, e2⟩ := h
  exact ⟨a, x, rfl, k _ _ e1, e2.keep k⟩
def FmAt (H : Hp) (r : Addr) (F : Fm) : Prop := ∃ (a1 a2 a3 a4 : Addr) (wv rv : List V), H r = some (.tup [.ref a1, .ref a2, .ref a3, .ref a4]) ∧ H a1 = some (.tup (F.ins.map V.str)) ∧ H a2 = some (.tup wv) ∧ All2 (WaAt H) wv F.was ∧ H a3 = some (.tup rv) ∧ All2 (RlAt H) rv F.rules ∧ H a4 = some (.tup (F.outs.map V.str))
theorem FmAt.keep {H H' : Hp} {r : Addr} {F : Fm} (h : FmAt H r F) (k : TK H H') : FmAt H' r F := by
  obtain ⟨a1, a2, a3, a4, wv, rv, e0, e1, e2, e3, e4, e5, e6⟩ := h
  exact ⟨a1, a2, a3, a4, wv, rv, k _ _ e0, k _ _ e1, k _ _ e2, e3.imp fun _ _ z => z.keep k, k _ _ e4, e5.imp fun _ _ z => z.keep k, k _ _ e6⟩
/-- formulas whose was is a tuple that has no names of its own -/
def FmAtF (H : Hp) (r : Addr) (F : Fm) : Prop := ∃ (a1 a2 a3 a4 : Addr) (ob : Obj) (wv rv : List V), ob.dict = none ∧ H r = some (.tup [.ref a1, .ref a2, .ref a3, .ref a4]) ∧ H a1 = some (.tup (F.ins.map V.str)) ∧ H a2 = some (.frz ob (.tup wv)) ∧ All2 (WaAt H) wv F.was ∧ H a3 = some (.tup rv) ∧ All2 (RlAt H) rv F.rules ∧ H a4 = some (.tup (F.outs.map V.str))
theorem FmAtF.same {H H' : Hp} {r : Addr} {F : Fm} (h : FmAtF H r F) (s : Same H H') : FmAtF H' r F := by
  obtain ⟨a1, a2, a3, a4, ob, wv, rv, d, e0, e1, e2, e3, e4, e5, e6⟩ := h
  exact ⟨a1, a2, a3, a4, ob, wv, rv, d, s _ _ e0, s _ _ e1, s _ _ e2, e3.imp fun _ _ z => z.keep (TK.same s), s _ _ e4, e5.imp fun _ _ z => z.keep (TK.same s), s _ _ e6⟩
structure FmOk (F : Fm) : Prop where
  li : F.ins.length ≤ 100
  lw : F.was.length ≤ 100
  lr : F.rules.length ≤ 100
  lo : F.outs.length ≤ 100
  tr : ∀ p ∈ F.rules, p.2.parts.length ≤ 100
def dupB (l : List Str) (i : Nat) : Bool := match l[i]? with
  | some x => decide (x ∈ l.take i)
  | none => false
def dupO (l : List Str) : Option Str := (firstN l.length (dupB l)).bind fun i => l[i]?
def onS : Option Str → V
  | some z => .str z
  | none => .non
def Fm.own (F : Fm) : List Str := F.ins ++ F.rules.map (·.1)
def Fm.kept (F : Fm) : List Str := F.was.map (·.1)
def Fm.used (F : Fm) : List Str := F.kept ++ F.rules.flatMap (fun p => p.2.leans.map (·.1)) ++ F.outs
def lostO (l own : List Str) : Option Str := l.find? fun z => decide (z ∉ own)
theorem find_at {α : Type} {p : α → Bool} : ∀ {l : List α} {i : Nat} {x : α}, l[i]? = some x → p x = true → (∀ (j : Nat) (y : α), j < i → l[j]? = some y → p y = false) → l.find? p = some x
  | [], _, _, e, _, _ => nomatch e
  | a :: r, 0, x, e, hp, _ => by
    obtain rfl := Option.some.inj e
    rw [List.find?_cons, hp]
  | a :: r, i + 1, x, e, hp, no => by
    rw [List.find?_cons, no 0 a (Nat.succ_pos _) rfl]
    exact find_at (l := r) e hp fun j y hj ey => no (j + 1) y (Nat.succ_lt_succ hj) ey
def leanN (ns : List Str) (l : List (Str × Nat)) : List Str := (l.filter fun q => decide (q.2 = 0) && decide (q.1 ∈ ns)).map (·.1)
theorem nodup_get {ns : List Str} (nd : ns.Nodup) {i j : Nat} {z : Str} (h1 : ns[i]? = some z) (h2 : ns[j]? = some z) : i = j := by
  obtain ⟨l1, e1⟩ := List.getElem?_eq_some_iff.mp h1
  obtain ⟨l2, e2⟩ := List.getElem?_eq_some_iff.mp h2
  rw [List.nodup_iff_pairwise_ne, List.pairwise_iff_getElem] at nd
  rcases Nat.lt_trichotomy i j with h | h | h
  · exact absurd (e1.trans e2.symm) (nd i j l1 l2 h)
  · exact h
  · exact absurd (e2.trans e1.symm) (nd j i l2 l1 h)
theorem few_in {α : Type} [BEq α] [LawfulBEq α] : ∀ {l m : List α}, l.Nodup → (∀ x ∈ l, x ∈ m) → l.length ≤ m.length := by
  intro l
  induction l with
  | nil => intro _ _ _; exact Nat.zero_le _
  | cons x l ih =>
    intro m nd h
    obtain ⟨n1, n2⟩ := List.nodup_cons.mp nd
    have i := ih (m := m.erase x) n2 fun y hy => (List.mem_erase_of_ne (fun e : y = x => n1 (e ▸ hy))).mpr (h y (List.mem_cons_of_mem _ hy))
    have := List.length_erase_of_mem (h x (List.mem_cons_self ..))
    have pos : 0 < m.length := List.length_pos_of_mem (h x (List.mem_cons_self ..))
    show l.length + 1 ≤ m.length
    omega
/-! ### rows read -/
theorem RdAt.lstN {C R p : Addr} {H : Hp} {ws : List Str} {row : Int} {k : Nat} {xs ys : List V} (r : RdAt C H R ws row k) (hp : H p = some (.lst xs)) (ne : xs.length < ws.length) : RdAt C (upd H p (.lst ys)) R ws row k := by
  obtain ⟨dx, L, e1, e2⟩ := r
  refine ⟨dx, L, by rw [upd_ne (ne_of e1 hp (fun z => nomatch z))]; exact e1, ?_⟩
  rw [upd_ne fun z => ?_]
  · exact e2
  · rw [z, hp] at e2
    have := congrArg List.length (HO.lst.inj (Option.some.inj e2))
    rw [List.length_map] at this
    omega
theorem RdAt.neL {C R p : Addr} {H : Hp} {ws : List Str} {row : Int} {k : Nat} {xs : List V} (r : RdAt C H R ws row k) (hp : H p = some (.lst xs)) : p ≠ R := by
  obtain ⟨dx, L, e1, e2⟩ := r
  exact ne_of hp e1 (fun z => nomatch z)
theorem BX.own {R p : Addr} {H H1 : Hp} {o : HO} (a : BX R H H1) (h : H p = none) : BX R H (upd H1 p o) := fun b x e n m => by
  rw [upd_ne (ne_of_none e h)]
  exact a b x e n m
theorem Tb2.lstU {PT : Addr × Addr} {D : Addr} {H : Hp} {xs ys : List V} (t : Tb2 PT H) (e : H D = some (.lst xs)) : Tb2 PT (upd H D (.lst ys)) := by
  obtain ⟨⟨p1, e1, t1⟩, p2, e2, t2⟩ := t
  exact ⟨⟨p1, by rw [upd_ne (fun z => by rw [z, e] at e1; cases e1)]; exact e1, t1⟩, p2, by rw [upd_ne (fun z => by rw [z, e] at e2; cases e2)]; exact e2, t2⟩
section
variable {P : Program} {w : World} {K : PySem.W.Frag} {mg : Str → Option Value} {base : Heap}
variable {cN cF : Addr} {PT : Addr × Addr} [TN : TabN K mg base cN PT] [TF : TabF K mg base cF PT]
def sp_names_behind (K : PySem.W.Frag) (C : Addr) (PT : Addr × Addr) : Sp := fun vs H Q _ => ∃ (R : Addr) (wd : Str) (zs : List Str) (row : Int), vs = [.str wd, .ref R] ∧ RdAt C H R (wd :: zs) row 0 ∧ (∀ z ∈ zs, namW z) ∧ zs.length ≤ 39 ∧ Tb2 PT H ∧
  ∀ (p : Addr) (H' : Hp), H' p = some (.tup (zs.map V.str)) → BX R H H' → Tb2 PT H' → Q (.ref p) H'
include TN in
theorem ok_names_behind {f : Addr} {fd : FuncData} (F : Fun K "names_behind" "names_behind" s_names_behind f fd) {C : Addr} (T : Top w K mg C) : FnOk P w K mg base CX0 5 f fd ["word", "reader"] (sp_names_behind K C PT) := by
  obtain ⟨f_Reader_take_just, fd_Reader_take_just, F_Reader_take_just, b_Reader_take_just, m_Reader_take_just⟩ := T.d_Reader_take_just
  have G_Reader_take_just := ok_Reader_take_just (P := P) (w := w) (base := base) F_Reader_take_just T
  obtain ⟨f_Reader_over, fd_Reader_over, F_Reader_over, b_Reader_over, m_Reader_over⟩ := T.d_Reader_over
  have G_Reader_over := ok_Reader_over (P := P) (w := w) (base := base) F_Reader_over T
  obtain ⟨f_Reader_take_name, fd_Reader_take_name, F_Reader_take_name, b_Reader_take_name, m_Reader_take_name⟩ := T.d_Reader_take_name
  have G_Reader_take_name := ok_Reader_take_name (P := P) (w := w) (base := base) F_Reader_take_name T
  refine F.ok sc_names_behind (fun vs H Q E h => ?_) (fun cdv A outer s H vs Q E hr h => ?_)
  · obtain ⟨R, wd, zs, row, rfl, _⟩ := h
    rfl
  obtain ⟨R, wd, zs, row, rfl, r0, hz, lz, tb, q⟩ := h
  refine ⟨_, (pss_cons (ps_expr (pe_meth (pv 1) T.cl m_Reader_take_just G_Reader_take_just (hr.mono (by decide)) b_Reader_take_just .nil pass0 (pa_cons (pv 0) pa_nil)))
      (pss_cons (ps_set (i := 2) sc_names_behind.nd rfl (Or.inl rfl) (pe_lst pa_nil))
      (pss_cons (ps_while PassesOwn.never (pt_not (pt_val (pe_meth0 (pv 1) T.cl m_Reader_over G_Reader_over (hr.mono (by decide)) b_Reader_over .nil pass0)))
        (pss_one (ps_expr (pe_bmK K rfl PySem.F.plainAttrs_list PySem.F.slot_list_append PySem.F.type_list_append mt_append (pv 2) (pa_cons (pe_meth0 (pv 1) T.cl m_Reader_take_name G_Reader_take_name (hr.mono (by decide)) b_Reader_take_name .nil pass0) pa_nil)))))
      (pss_one (ps_ret (pe_callTy (call_tuple_ofK K rfl) (by rfl) T.m_tuple (by decide +kernel) (pa_cons (pv 2) pa_nil))))))), ?_⟩
  obtain ⟨d0, L0, g0, _⟩ := id r0
  refine ⟨_, rfl, R, d0, _, rfl, g0, rfl, _, rfl, R, wd :: zs, row, 0, wd, rfl, r0, rfl, fun H1 r1 b1 => ?_⟩
  have tb1 := r0.tb tb b1
  refine ⟨(by show 0 ≤ sizeLine; decide), fun p np => ?_⟩
  have s2 : Same H1 (upd H1 p (.lst [])) := same_new np
  have pR : p ≠ R := fun z => by
    obtain ⟨_, _, e, _⟩ := r1
    rw [z, e] at np
    cases np
  have np0 : H p = none := b1.none np pR
  let W : Nat → L2.St → Hp → Prop := fun m σ H5 => ∃ j : Nat, σ = [some (.str wd), some (.ref R), some (.ref p)] ∧ H5 p = some (.lst ((zs.take j).map V.str)) ∧ RdAt C H5 R (wd :: zs) row (j + 1) ∧ j ≤ zs.length ∧ BX R H H5 ∧ Tb2 PT H5 ∧ m = zs.length - j
  refine ⟨W, ⟨_, 0, rfl, upd_same, r1.same s2, Nat.zero_le _, (BX.but b1).own np0, tb1.same s2, rfl⟩, ?_⟩
  rintro m σ H5 ⟨j, rfl, hp5, r5, hj, b5, tb5, rfl⟩
  obtain ⟨d5, L5, g5, _⟩ := id r5
  refine ⟨_, rfl, R, d5, _, rfl, g5, rfl, R, wd :: zs, row, j + 1, rfl, r5, _, rfl, ?_⟩
  by_cases c : j = zs.length
  · rw [decide_eq_true (show (wd :: zs).length ≤ j + 1 by rw [List.length_cons]; omega)]
    refine if_bl (fun z => nomatch z) (fun _ => ?_)
    rw [c, List.take_length] at hp5
    refine ⟨_, rfl, p, _, rfl, .inl ⟨SqL.of hp5, fun t nt => ?_⟩⟩
    exact q t _ upd_same (b5.trans (BX.same (same_new nt))) (tb5.same (same_new nt))
  · have jl : j < zs.length := by omega
    rw [decide_eq_false (show ¬ (wd :: zs).length ≤ j + 1 by rw [List.length_cons]; omega)]
    refine if_bl (fun _ => ?_) (fun z => nomatch z)
    refine ⟨fun σ' H' => ∃ m', m' < zs.length - j ∧ W m' σ' H', fun _ _ z => z, ?_⟩
    have ez : zs[j]? = some zs[j] := List.getElem?_eq_getElem jl
    have gz := hz _ (List.mem_of_getElem? ez)
    refine ⟨_, rfl, .inl ⟨rfl, _, SqL.of hp5⟩, _, rfl, R, d5, _, rfl, g5, rfl, R, wd :: zs, row, j + 1, zs[j], rfl, r5, hdW_at (by rw [List.getElem?_cons_succ]; exact ez), gz.2, gz.1, tb5, fun H6 r6 b6 tb6 => ?_⟩
    have hp6 := r5.lst b6 hp5
    have lt : ((zs.take j).map V.str).length = j := by rw [List.length_map, List.length_take]; omega
    refine ⟨p, _, _, rfl, rfl, hp6, small1000 (by rw [lt]; omega), zs.length - (j + 1), by omega, j + 1, rfl, ?_, r6.lstN hp6 (by rw [lt, List.length_cons]; omega), jl, (b5.trans b6).own np0, tb6.lstU hp6, rfl⟩
    rw [upd_same, List.take_add_one, ez, List.map_append]
    rfl
def sp_was_row (K : PySem.W.Frag) (C : Addr) (PT : Addr × Addr) : Sp := fun vs H Q _ => ∃ (R : Addr) (z : Str) (ys : List Str) (ns : List Int) (row : Int), vs = [.ref R] ∧ RdAt C H R (("was" : Str) :: z :: (":" : Str) :: ys) row 0 ∧ namW z ∧ All2 numW ys ns ∧ ys.length ≤ 39 ∧ Tb2 PT H ∧
  ∀ (v : V) (H' : Hp), WaAt H' v (z, ns) → BX R H H' → Tb2 PT H' → Q v H'
include TN TF in
theorem ok_was_row {f : Addr} {fd : FuncData} (F : Fun K "was_row" "was_row" s_was_row f fd) {C : Addr} (T : Top w K mg C) : FnOk P w K mg base CX0 5 f fd ["reader"] (sp_was_row K C PT) := by
  obtain ⟨f_Reader_take_just, fd_Reader_take_just, F_Reader_take_just, b_Reader_take_just, m_Reader_take_just⟩ := T.d_Reader_take_just
  have G_Reader_take_just := ok_Reader_take_just (P := P) (w := w) (base := base) F_Reader_take_just T
  obtain ⟨f_Reader_take_name, fd_Reader_take_name, F_Reader_take_name, b_Reader_take_name, m_Reader_take_name⟩ := T.d_Reader_take_name
  have G_Reader_take_name := ok_Reader_take_name (P := P) (w := w) (base := base) F_Reader_take_name T
  obtain ⟨f_Reader_over, fd_Reader_over, F_Reader_over, b_Reader_over, m_Reader_over⟩ := T.d_Reader_over
  have G_Reader_over := ok_Reader_over (P := P) (w := w) (base := base) F_Reader_over T
  obtain ⟨f_Reader_take_number, fd_Reader_take_number, F_Reader_take_number, b_Reader_take_number, m_Reader_take_number⟩ := T.d_Reader_take_number
  have G_Reader_take_number := ok_Reader_take_number (P := P) (w := w) (base := base) F_Reader_take_number T
  refine F.ok sc_was_row (fun vs H Q E h => ?_) (fun cdv A outer s H vs Q E hr h => ?_)
  · obtain ⟨R, z, ys, ns, row, rfl, _⟩ := h
    rfl
  obtain ⟨R, z, ys, ns, row, rfl, r0, hz, al, ly, tb, q⟩ := h
  have lns := al.length
  refine ⟨_, (pss_cons (ps_expr (pe_meth (pv 0) T.cl m_Reader_take_just G_Reader_take_just (hr.mono (by decide)) b_Reader_take_just .nil pass0 (pa_cons pe_str pa_nil)))
      (pss_cons (ps_set (i := 1) sc_was_row.nd rfl (Or.inl rfl) (pe_meth0 (pv 0) T.cl m_Reader_take_name G_Reader_take_name (hr.mono (by decide)) b_Reader_take_name .nil pass0))
      (pss_cons (ps_expr (pe_meth (pv 0) T.cl m_Reader_take_just G_Reader_take_just (hr.mono (by decide)) b_Reader_take_just .nil pass0 (pa_cons pe_str pa_nil)))
      (pss_cons (ps_set (i := 2) sc_was_row.nd rfl (Or.inl rfl) (pe_lst pa_nil))
      (pss_cons (ps_while PassesOwn.never (pt_not (pt_val (pe_meth0 (pv 0) T.cl m_Reader_over G_Reader_over (hr.mono (by decide)) b_Reader_over .nil pass0)))
        (pss_one (ps_expr (pe_bmK K rfl PySem.F.plainAttrs_list PySem.F.slot_list_append PySem.F.type_list_append mt_append (pv 2) (pa_cons (pe_meth0 (pv 0) T.cl m_Reader_take_number G_Reader_take_number (hr.mono (by decide)) b_Reader_take_number .nil pass0) pa_nil)))))
      (pss_one (ps_ret (pe_tup (pa_cons (pv 1) (pa_cons (pe_callTy (call_tuple_ofK K rfl) (by rfl) T.m_tuple (by decide +kernel) (pa_cons (pv 2) pa_nil)) pa_nil)))))))))), ?_⟩
  obtain ⟨d0, L0, g0, _⟩ := id r0
  refine ⟨_, rfl, R, d0, _, rfl, g0, rfl, R, _, row, 0, "was", rfl, r0, rfl, fun H1 r1 b1 => ?_⟩
  have tb1 := r0.tb tb b1
  obtain ⟨d1, L1, g1, _⟩ := id r1
  refine ⟨_, rfl, R, d1, _, rfl, g1, rfl, R, _, row, 0 + 1, z, rfl, r1, rfl, hz.2, hz.1, tb1, fun H2 r2 b2 tb2 => ?_⟩
  obtain ⟨d2, L2', g2, _⟩ := id r2
  refine ⟨_, rfl, R, d2, _, rfl, g2, rfl, R, _, row, 0 + 1 + 1, ":", rfl, r2, rfl, fun H3 r3 b3 => ?_⟩
  have tb3 := r2.tb tb2 b3
  have b03 := ((BX.but b1).trans b2).trans (BX.but b3)
  refine ⟨(by show 0 ≤ sizeLine; decide), fun p np => ?_⟩
  have s4 : Same H3 (upd H3 p (.lst [])) := same_new np
  let W : Nat → L2.St → Hp → Prop := fun m σ H5 => ∃ j : Nat, σ = [some (.ref R), some (.str z), some (.ref p)] ∧ H5 p = some (.lst ((ns.take j).map V.int)) ∧ RdAt C H5 R (("was" : Str) :: z :: (":" : Str) :: ys) row (j + 3) ∧ j ≤ ys.length ∧ BX R H3 H5 ∧ Tb2 PT H5 ∧ m = ys.length - j
  refine ⟨W, ⟨_, 0, rfl, upd_same, r3.same s4, Nat.zero_le _, BX.same s4, tb3.same s4, rfl⟩, ?_⟩
  rintro m σ H5 ⟨j, rfl, hp5, r5, hj, b5, tb5, rfl⟩
  obtain ⟨d5, L5, g5, _⟩ := id r5
  refine ⟨_, rfl, R, d5, _, rfl, g5, rfl, R, _, row, j + 3, rfl, r5, _, rfl, ?_⟩
  by_cases c : j = ys.length
  · rw [decide_eq_true (show (("was" : Str) :: z :: (":" : Str) :: ys).length ≤ j + 3 by simp only [List.length_cons]; omega)]
    refine if_bl (fun z => nomatch z) (fun _ => ?_)
    rw [c, lns, List.take_length] at hp5
    refine ⟨_, rfl, _, rfl, p, _, rfl, .inl ⟨SqL.of hp5, fun t nt => ⟨(by show 2 ≤ sizeLine; decide), fun t2 nt2 => ?_⟩⟩⟩
    have s6 : Same H5 (upd H5 t (.tup (ns.map V.int))) := same_new nt
    have s7 := s6.trans (same_new (o := .tup [V.str z, V.ref t]) nt2)
    exact q (.ref t2) _ ⟨t2, t, rfl, upd_same, same_new nt2 _ _ upd_same⟩ ((b03.trans b5).trans (BX.same s7)) (tb5.same s7)
  · have jl : j < ys.length := by omega
    rw [decide_eq_false (show ¬ (("was" : Str) :: z :: (":" : Str) :: ys).length ≤ j + 3 by simp only [List.length_cons]; omega)]
    refine if_bl (fun _ => ?_) (fun z => nomatch z)
    refine ⟨fun σ' H' => ∃ m', m' < ys.length - j ∧ W m' σ' H', fun _ _ z => z, ?_⟩
    have ez : ys[j]? = some ys[j] := List.getElem?_eq_getElem jl
    obtain ⟨i, ei, gi⟩ := al.getL ez
    refine ⟨_, rfl, .inl ⟨rfl, _, SqL.of hp5⟩, _, rfl, R, d5, _, rfl, g5, rfl, R, _, row, j + 3, ys[j], i, rfl, r5, hdW_at (by rw [List.getElem?_cons_succ, List.getElem?_cons_succ, List.getElem?_cons_succ]; exact ez), by have := gi.2; omega, gi.1, tb5, fun H6 r6 b6 tb6 => ?_⟩
    have hp6 := r5.lst b6 hp5
    have lt : ((ns.take j).map V.int).length = j := by rw [List.length_map, List.length_take]; omega
    have b56 : BX R H3 (upd H6 p (.lst ((ns.take j).map V.int ++ [V.int i]))) := (b5.trans b6).own np
    refine ⟨p, _, _, rfl, rfl, hp6, small1000 (by rw [lt]; omega), ys.length - (j + 1), by omega, j + 1, rfl, ?_, r6.lstN hp6 (by rw [lt]; simp only [List.length_cons]; omega), jl, b56, tb6.lstU hp6, rfl⟩
    rw [upd_same, List.take_add_one, ei, List.map_append]
    rfl
def sp_rule_row (K : PySem.W.Frag) (C : Addr) (PT : Addr × Addr) : Sp := fun vs H Q _ => ∃ (R : Addr) (z : Str) (u : List Str) (t : Tr) (row : Int), vs = [.ref R] ∧ RdAt C H R (z :: ("=" : Str) :: u) row 0 ∧ namW z ∧ WOk (z :: ("=" : Str) :: u) ∧ Rd 0 t u 120 ∧ Tb2 PT H ∧
  ∀ (v : V) (H' : Hp), RlAt H' v (z, t) → BX R H H' → Tb2 PT H' → Q v H'
include TN TF in
theorem ok_rule_row {f : Addr} {fd : FuncData} (F : Fun K "rule_row" "rule_row" s_rule_row f fd) {C : Addr} (T : Top w K mg C) : FnOk P w K mg base CX0 129 f fd ["reader"] (sp_rule_row K C PT) := by
  obtain ⟨f_Reader_take_name, fd_Reader_take_name, F_Reader_take_name, b_Reader_take_name, m_Reader_take_name⟩ := T.d_Reader_take_name
  have G_Reader_take_name := ok_Reader_take_name (P := P) (w := w) (base := base) F_Reader_take_name T
  obtain ⟨f_Reader_take_just, fd_Reader_take_just, F_Reader_take_just, b_Reader_take_just, m_Reader_take_just⟩ := T.d_Reader_take_just
  have G_Reader_take_just := ok_Reader_take_just (P := P) (w := w) (base := base) F_Reader_take_just T
  obtain ⟨f_Reader_end, fd_Reader_end, F_Reader_end, b_Reader_end, m_Reader_end⟩ := T.d_Reader_end
  have G_Reader_end := ok_Reader_end (P := P) (w := w) (base := base) F_Reader_end T
  obtain ⟨f_whole_tree, fd_whole_tree, F_whole_tree, b_whole_tree, m_whole_tree⟩ := T.d_whole_tree
  have G_whole_tree := ok_whole_tree (P := P) (w := w) (base := base) F_whole_tree T
  refine F.ok sc_rule_row (fun vs H Q E h => ?_) (fun cdv A outer s H vs Q E hr h => ?_)
  · obtain ⟨R, z, u, t, row, rfl, _⟩ := h
    rfl
  obtain ⟨R, z, u, t, row, rfl, r0, hz, wk, rd, tb, q⟩ := h
  refine ⟨_, (pss_cons (ps_set (i := 1) sc_rule_row.nd rfl (Or.inl rfl) (pe_meth0 (pv 0) T.cl m_Reader_take_name G_Reader_take_name (hr.mono (by decide)) b_Reader_take_name .nil pass0))
      (pss_cons (ps_expr (pe_meth (pv 0) T.cl m_Reader_take_just G_Reader_take_just (hr.mono (by decide)) b_Reader_take_just .nil pass0 (pa_cons pe_str pa_nil)))
      (pss_cons (ps_set (i := 2) sc_rule_row.nd rfl (Or.inl rfl) (pe_call G_whole_tree (hr.mono (by decide)) (by rfl) m_whole_tree F_whole_tree.kp b_whole_tree .nil pass0 (pa_cons (pv 0) pa_nil)))
      (pss_cons (ps_expr (pe_meth0 (pv 0) T.cl m_Reader_end G_Reader_end (hr.mono (by decide)) b_Reader_end .nil pass0))
      (pss_one (ps_ret (pe_tup (pa_cons (pv 1) (pa_cons (pv 2) pa_nil))))))))), ?_⟩
  obtain ⟨d0, L0, g0, _⟩ := id r0
  refine ⟨_, rfl, R, d0, _, rfl, g0, rfl, R, _, row, 0, z, rfl, r0, rfl, hz.2, hz.1, tb, fun H1 r1 b1 tb1 => ?_⟩
  obtain ⟨d1, L1, g1, _⟩ := id r1
  refine ⟨_, rfl, R, d1, _, rfl, g1, rfl, R, _, row, 0 + 1, "=", rfl, r1, rfl, fun H2 r2 b2 => ?_⟩
  have tb2 := r1.tb tb1 b2
  have ed : (z :: ("=" : Str) :: u).drop (0 + 1 + 1) = u ++ [] := by rw [List.append_nil]; rfl
  refine ⟨_, rfl, R, _, row, 0 + 1 + 1, u, [], t, rfl, r2, wk, ed, rd, by unfold St; decide +kernel, tb2, fun v H3 hv r3 b3 tb3 => ?_⟩
  obtain ⟨d3, L3, g3, _⟩ := id r3
  refine ⟨_, rfl, R, d3, _, rfl, g3, rfl, R, _, row, _, rfl, r3, by simp only [List.length_cons]; omega, _, rfl, _, rfl, (by show 2 ≤ sizeLine; decide), fun p np => ?_⟩
  have s4 : Same H3 (upd H3 p (.tup [.str z, v])) := same_new np
  exact q (.ref p) _ ⟨p, v, rfl, upd_same, hv.keep (TK.same s4)⟩ (((b1.trans (BX.but b2)).trans b3).trans (BX.same s4)) (tb3.same s4)
end
/-! ### formulas read -/
abbrev Mid := (Str × List Int) ⊕ (Str × Tr)
def Mid.wa : Mid → Option (Str × List Int)
  | .inl p => some p
  | .inr _ => none
def Mid.rl : Mid → Option (Str × Tr)
  | .inl _ => none
  | .inr p => some p
/-- the words of a row between the first and the last -/
def RwOk (u : List Str) : Mid → Prop
  | .inl p => ∃ ys, u = ("was" : Str) :: p.1 :: (":" : Str) :: ys ∧ namW p.1 ∧ All2 numW ys p.2
  | .inr p => ∃ v, u = p.1 :: ("=" : Str) :: v ∧ namW p.1 ∧ Rd 0 p.2 v 120
/-- a list of words, other than the one at D -/
def LsAt (D : Addr) (H : Hp) (v : V) (ws : List Str) : Prop := ∃ L : Addr, v = .ref L ∧ L ≠ D ∧ H L = some (.lst (ws.map V.str))
structure TxOk (a : Str) (rs : List Str) (ins outs : List Str) (mid : List (List Str)) (ms : List Mid) : Prop where
  la : a.length ≤ 1000000
  sp : Txt.split a "\n" = rs
  sr : All2 (fun r ws => Txt.split r " " = ws ∧ r.length ≤ 1000000) rs ((("in" : Str) :: ins) :: (mid ++ [("out" : Str) :: outs]))
  mi : All2 RwOk mid ms
  mw : ∀ u ∈ mid, u.length ≤ 40 ∧ WOk u
  hi : ∀ z ∈ ins, namW z
  ho : ∀ z ∈ outs, namW z
  li : ins.length ≤ 39
  lo : outs.length ≤ 39
  lm : mid.length ≤ 100
theorem nm_was : nameB "was" = false := by decide +kernel
section
variable {P : Program} {w : World} {K : PySem.W.Frag} {mg : Str → Option Value} {base : Heap}
variable {cN cF : Addr} {PT : Addr × Addr} [TN : TabN K mg base cN PT] [TF : TabF K mg base cF PT]
def NoTb (H : Hp) (p : Addr) : Prop := ∀ o, H p = some o → ∃ ps, o = .tbl ps
theorem NoTb.of {H H' : Hp} {p : Addr} (x : LamX.ExtN H H') (n : H' p = none) : NoTb H p := fun o e => Classical.byContradiction fun h => by
  have := x p o e fun ps z => h ⟨ps, z⟩
  rw [n] at this
  cases this
theorem NoTb.own {H H' : Hp} {D : Addr} {o : HO} (nt : NoTb H D) (e : LamX.ExtN H H') : LamX.ExtN H (upd H' D o) := fun b x hb n => by
  by_cases z : b = D
  · subst z
    obtain ⟨ps, rfl⟩ := nt x hb
    exact absurd rfl (n ps)
  · rw [upd_ne z]; exact e b x hb n
theorem bx_ext {M : Addr} {H H1 H2 : Hp} (s : LamX.ExtN H H1) (nM : H M = none) (b : BX M H1 H2) : LamX.ExtN H H2 := fun x o e n => b x o (s x o e n) n (fun z => by rw [z, nM] at e; cases e)
theorem ext_own {H H' : Hp} {D : Addr} {o : HO} (e : LamX.ExtN H H') (n : H D = none) : LamX.ExtN H (upd H' D o) := fun b x hb nt => by
  by_cases z : b = D
  · subst z; rw [hb] at n; cases n
  · rw [upd_ne z]; exact e b x hb nt
def sp_read_formulas (K : PySem.W.Frag) (C : Addr) (PT : Addr × Addr) : Sp := fun vs H Q _ => ∃ (a : Str) (rs ins outs : List Str) (mid : List (List Str)) (ms : List Mid), vs = [.str a] ∧ TxOk a rs ins outs mid ms ∧ Tb2 PT H ∧
  ∀ (r : Addr) (H' : Hp), FmAt H' r ⟨ins, ms.filterMap Mid.wa, ms.filterMap Mid.rl, outs⟩ → LamX.ExtN H H' → Tb2 PT H' → Q (.ref r) H'
include TN TF in
set_option maxHeartbeats 0 in
theorem ok_read_formulas {f : Addr} {fd : FuncData} (F : Fun K "read_formulas" "read_formulas" s_read_formulas f fd) {C : Addr} (T : Top w K mg C) : FnOk P w K mg base CX0 130 f fd ["text"] (sp_read_formulas K C PT) := by
  obtain ⟨f_names_behind, fd_names_behind, F_names_behind, b_names_behind, m_names_behind⟩ := T.d_names_behind
  have G_names_behind := ok_names_behind (P := P) (w := w) (base := base) F_names_behind T
  obtain ⟨f_Reader___init__, fd_Reader___init__, F_Reader___init__, b_Reader___init__, m_Reader___init__⟩ := T.d_Reader___init__
  have G_Reader___init__ := ok_Reader___init__ (P := P) (w := w) (base := base) F_Reader___init__ T
  obtain ⟨f_Reader_ahead, fd_Reader_ahead, F_Reader_ahead, b_Reader_ahead, m_Reader_ahead⟩ := T.d_Reader_ahead
  have G_Reader_ahead := ok_Reader_ahead (P := P) (w := w) (base := base) F_Reader_ahead T
  obtain ⟨f_was_row, fd_was_row, F_was_row, b_was_row, m_was_row⟩ := T.d_was_row
  have G_was_row := ok_was_row (P := P) (w := w) (base := base) F_was_row T
  obtain ⟨f_rule_row, fd_rule_row, F_rule_row, b_rule_row, m_rule_row⟩ := T.d_rule_row
  have G_rule_row := ok_rule_row (P := P) (w := w) (base := base) F_rule_row T
  refine F.ok sc_read_formulas (fun vs H Q E h => ?_) (fun cdv A outer s H vs Q E hr h => ?_)
  · obtain ⟨a, rs, ins, outs, mid, ms, rfl, _⟩ := h
    rfl
  obtain ⟨a, rs, ins, outs, mid, ms, rfl, tx, tb, q⟩ := h
  obtain ⟨rws, hrws⟩ : ∃ rws, rws = (("in" : Str) :: ins) :: (mid ++ [("out" : Str) :: outs]) := ⟨_, rfl⟩
  have sr := tx.sr
  rw [← hrws] at sr
  have lrw : rws.length = mid.length + 2 := by rw [hrws, List.length_cons, List.length_append]; rfl
  have lrs : rs.length = rws.length := sr.length
  have lm := tx.lm
  have lmm := tx.mi.length
  have la := tx.la
  refine ⟨_, (pss_cons (ps_setLc (i := 1) (own := [("row", 2)]) (g := gName 2) (tt := tYes) (by rfl) sc_read_formulas.nd rfl rfl (sw_true rfl rfl rfl (by decide +kernel)) (pi_listK K rfl (pe_bmK K rfl PySem.F.plainAttrs_str PySem.F.slot_str_split PySem.F.type_str_split mt_split (pv 0) (pa_cons pe_str pa_nil))) (blkOk_by (own := [("row", 2)]) (N := N_read_formulas) (sc := defScope s_read_formulas) (by decide +kernel)) (fun _ _ _ _ _ => (pg_name (i := 2) sc_read_formulas.nd rfl (Or.inl rfl))) (fun _ _ _ _ _ => pts_nil) (fun _ _ _ _ _ => (pe_bmK K rfl PySem.F.plainAttrs_str PySem.F.slot_str_split PySem.F.type_str_split mt_split (pv 2) (pa_cons pe_str pa_nil))))
      (pss_cons (ps_set (i := 3) sc_read_formulas.nd rfl (Or.inl rfl) (pe_op op_sub (pe_callB (call_len_seqK K rfl) (by rfl) T.m_len (by decide +kernel) (pa_cons (pv 1) pa_nil)) pe_int))
      (pss_cons (ps_set (i := 4) sc_read_formulas.nd rfl (Or.inl rfl) (pe_call G_names_behind (hr.mono (by decide)) (by rfl) m_names_behind F_names_behind.kp b_names_behind .nil pass0 (pa_cons pe_str (pa_cons (pe_make m_Reader___init__ G_Reader___init__ (hr.mono (by decide)) (by rfl) T.mgC b_Reader___init__ .nil pass0 (pa_cons (pe_ix (ix_listK K rfl) (pv 1) pe_int (fun _ _ => rfl)) (pa_cons pe_int pa_nil))) pa_nil))))
      (pss_cons (ps_set (i := 5) sc_read_formulas.nd rfl (Or.inl rfl) (pe_lst pa_nil))
      (pss_cons (ps_set (i := 6) sc_read_formulas.nd rfl (Or.inl rfl) (pe_lst pa_nil))
      (pss_cons (ps_for PassesOwn.never rfl (pi_range2 (by rfl) T.m_range (pa_cons pe_int (pa_cons (pv 3) pa_nil))) (pg_name (i := 7) sc_read_formulas.nd rfl (Or.inl rfl))
        (pss_cons (ps_set (i := 8) sc_read_formulas.nd rfl (Or.inl rfl) (pe_make m_Reader___init__ G_Reader___init__ (hr.mono (by decide)) (by rfl) T.mgC b_Reader___init__ .nil pass0 (pa_cons (pe_ix (ix_listK K rfl) (pv 1) (pv 7) (fun _ _ => rfl)) (pa_cons (pv 7) pa_nil))))
      (pss_one (ps_if (pt_cmpR op_eq (pe_meth0 (pv 8) T.cl m_Reader_ahead G_Reader_ahead (hr.mono (by decide)) b_Reader_ahead .nil pass0) pe_str (nomark _)) (pss_one (ps_expr (pe_bmK K rfl PySem.F.plainAttrs_list PySem.F.slot_list_append PySem.F.type_list_append mt_append (pv 5) (pa_cons (pe_call G_was_row (hr.mono (by decide)) (by rfl) m_was_row F_was_row.kp b_was_row .nil pass0 (pa_cons (pv 8) pa_nil)) pa_nil)))) (pss_one (ps_expr (pe_bmK K rfl PySem.F.plainAttrs_list PySem.F.slot_list_append PySem.F.type_list_append mt_append (pv 6) (pa_cons (pe_call G_rule_row (hr.mono (by decide)) (by rfl) m_rule_row F_rule_row.kp b_rule_row .nil pass0 (pa_cons (pv 8) pa_nil)) pa_nil))))))))
      (pss_cons (ps_set (i := 9) sc_read_formulas.nd rfl (Or.inl rfl) (pe_call G_names_behind (hr.mono (by decide)) (by rfl) m_names_behind F_names_behind.kp b_names_behind .nil pass0 (pa_cons pe_str (pa_cons (pe_make m_Reader___init__ G_Reader___init__ (hr.mono (by decide)) (by rfl) T.mgC b_Reader___init__ .nil pass0 (pa_cons (pe_ix (ix_listK K rfl) (pv 1) (pv 3) (fun _ _ => rfl)) (pa_cons (pv 3) pa_nil))) pa_nil))))
      (pss_one (ps_ret (pe_tup (pa_cons (pv 4) (pa_cons (pe_callTy (call_tuple_ofK K rfl) (by rfl) T.m_tuple (by decide +kernel) (pa_cons (pv 5) pa_nil)) (pa_cons (pe_callTy (call_tuple_ofK K rfl) (by rfl) T.m_tuple (by decide +kernel) (pa_cons (pv 6) pa_nil)) (pa_cons (pv 9) pa_nil)))))))))))))), ?_⟩
  refine ⟨_, rfl, rfl, _, _, rfl, rfl, by decide +kernel, Nat.le_trans (show a.length + 2 ≤ 1000002 by omega) (by decide), fun p0 np0 => ?_⟩
  have s1 : Same H (upd H p0 (.lst ((Txt.split a "\n").map V.str))) := same_new np0
  have hp0 : (upd H p0 (.lst ((Txt.split a "\n").map V.str))) p0 = some (.lst (rs.map V.str)) := by rw [upd_same, tx.sp]
  generalize upd H p0 (.lst ((Txt.split a "\n").map V.str)) = H1 at s1 hp0 ⊢
  refine ⟨p0, rfl, ⟨_, SqL.of hp0⟩, fun D nD => ?_⟩
  refine lc_list (K := K) (a := p0) (xs := rs.map V.str) (fun i H9 => ∃ lv, H9 D = some (.lst lv) ∧ All2 (LsAt D H9) lv (rws.take i) ∧ Same H1 H9) ⟨[], upd_same, by rw [List.take_zero]; exact .nil, same_new nD⟩ (fun i H9 _ ⟨_, _, _, s9⟩ => SqL.of (s9 _ _ hp0)) ?_ ?_
  · rintro i v H9 hx ⟨lv, hD, al, s9⟩
    rw [List.getElem?_map] at hx
    cases hk : rs[i]? with
    | none => rw [hk] at hx; cases hx
    | some r =>
    rw [hk] at hx
    obtain rfl : V.str r = v := Option.some.inj hx
    obtain ⟨u, hu, eu, lr⟩ := sr.getL hk
    have il := (List.getElem?_eq_some_iff.mp hk).1
    have lal := al.length
    rw [List.length_take] at lal
    refine ⟨rfl, yes_in ⟨_, rfl, rfl, _, _, rfl, rfl, by decide +kernel, Nat.le_trans (show r.length + 2 ≤ 1000002 by omega) (by decide), fun L nL => ?_⟩⟩
    have s10 : Same H9 (upd H9 L (.lst ((Txt.split r " ").map V.str))) := same_new nL
    have hL : (upd H9 L (.lst ((Txt.split r " ").map V.str))) L = some (.lst (u.map V.str)) := by rw [upd_same, eu]
    have LD : L ≠ D := fun z => by rw [z, hD] at nL; cases nL
    generalize upd H9 L (.lst ((Txt.split r " ").map V.str)) = H10 at s10 hL ⊢
    refine ⟨lv, s10 _ _ hD, small1000 (by omega), lv ++ [.ref L], upd_same, ?_, Same.own (s9.trans s10) nD⟩
    rw [List.take_add_one, hu]
    refine (al.imp fun x y z => ?_).snoc ⟨L, rfl, LD, by rw [upd_ne LD]; exact hL⟩
    obtain ⟨L2', e, n, g⟩ := z
    exact ⟨L2', e, n, by rw [upd_ne n]; exact s10 _ _ g⟩
  rintro H2 ⟨lv, hD, al, s2⟩
  rw [List.length_map, List.take_of_length_le (by omega)] at al
  have llv : lv.length = mid.length + 2 := by rw [al.length, lrw]
  have s02 := s1.trans s2
  -- the last row's number
  refine ⟨_, rfl, D, _, rfl, .inl (SqL.of hD), _, _, rfl, rfl, ?_⟩
  have elast : ((lv.length : Nat) : Int) - 1 = ((mid.length + 1 : Nat) : Int) := by rw [llv]; omega
  have rowAt : ∀ {i : Nat} {u : List Str}, rws[i]? = some u → ∃ L : Addr, lv[i]? = some (.ref L) ∧ H2 L = some (.lst (u.map V.str)) := fun {i u} e => by
    obtain ⟨v, ev, L, rfl, _, g⟩ := al.get e
    exact ⟨L, ev, g⟩
  -- ins
  obtain ⟨Li, eLi, hLi⟩ := rowAt (show rws[0]? = some (("in" : Str) :: ins) by rw [hrws]; rfl)
  refine ⟨_, rfl, D, _, _, _, rfl, rfl, SqL.of hD, atI_nat (j := 0) eLi, fun M dx nM ndx ne => ?_⟩
  have s3 : Same H2 (upd (upd H2 dx (.own M)) M (.ins C dx [])) := (same_new ndx).trans (same_new (by rw [upd_ne ne.symm]; exact nM))
  have hM3 : (upd (upd H2 dx (.own M)) M (.ins C dx [])) M = some (.ins C dx []) := upd_same
  generalize upd (upd H2 dx (.own M)) M (.ins C dx []) = H3 at s3 hM3 ⊢
  have li := tx.li
  refine ⟨M, dx, Li, ("in" : Str) :: ins, 0, rfl, hM3, s3 _ _ hLi, by rw [List.length_cons]; omega, fun H4 r4 b4 => ⟨rfl, ?_⟩⟩
  have tb4 : Tb2 PT H4 := (tb.same (s02.trans s3)).butR hM3 b4
  refine ⟨M, "in", ins, 0, rfl, r4, tx.hi, tx.li, tb4, fun pi H5 hpi b5 tb5 => ?_⟩
  have x25 : LamX.ExtN H2 H5 := bx_ext (ext_same s3) nM ((BX.but b4).trans b5)
  refine ⟨(by show 0 ≤ sizeLine; decide), fun pw npw => ?_⟩
  have s6 : Same H5 (upd H5 pw (.lst [])) := same_new npw
  have hpw6 : (upd H5 pw (.lst [])) pw = some (.lst []) := upd_same
  generalize upd H5 pw (.lst []) = H6 at s6 hpw6 ⊢
  refine ⟨(by show 0 ≤ sizeLine; decide), fun pr npr => ?_⟩
  have s7 : Same H6 (upd H6 pr (.lst [])) := same_new npr
  have hpr7 : (upd H6 pr (.lst [])) pr = some (.lst []) := upd_same
  have prw : pr ≠ pw := fun z => by rw [z, hpw6] at npr; cases npr
  have hpw7 : (upd H6 pr (.lst [])) pw = some (.lst []) := s7 _ _ hpw6
  generalize upd H6 pr (.lst []) = H7 at s7 hpr7 hpw7 ⊢
  have s57 := s6.trans s7
  refine ⟨_, rfl, _, _, rfl, ⟨by decide, by decide, by omega, by omega⟩, ?_⟩
  have x27 : LamX.ExtN H2 H7 := x25.trans (ext_same s57)
  have npw2 : NoTb H2 pw := .of x25 npw
  have npr2 : NoTb H2 pr := .of (x25.trans (ext_same s6)) npr
  refine for_range (lo := 1) (n := (((lv.length : Nat) : Int) - 1 - 1).toNat) (fun i σ H8 => ∃ (v7 v8 : Option V) (wv rv : List V), σ = [some (.str a), some (.ref D), none, some (.int (((lv.length : Nat) : Int) - 1)), some (.ref pi), some (.ref pw), some (.ref pr), v7, v8, none] ∧ H8 pw = some (.lst wv) ∧ H8 pr = some (.lst rv) ∧ All2 (WaAt H8) wv ((ms.take i).filterMap Mid.wa) ∧ All2 (RlAt H8) rv ((ms.take i).filterMap Mid.rl) ∧ wv.length ≤ i ∧ rv.length ≤ i ∧ LamX.ExtN H2 H8 ∧ Tb2 PT H8 ∧ H8 pi = some (.tup (ins.map V.str))) ⟨none, none, [], [], rfl, hpw7, hpr7, by rw [List.take_zero]; exact .nil, by rw [List.take_zero]; exact .nil, Nat.le_refl _, Nat.le_refl _, x27, tb5.same s57, s57 _ _ hpi⟩ ?_ ?_
  · rintro i σ H8 hi ⟨v7, v8, wv, rv, rfl, hpw, hpr, aw, ar, lw, lr, x8, tb8, hpi8⟩
    have im : i < mid.length := by omega
    obtain ⟨u, hu⟩ : ∃ u, mid[i]? = some u := ⟨_, List.getElem?_eq_getElem im⟩
    obtain ⟨m, hm, ok⟩ := tx.mi.getL hu
    obtain ⟨l40, wk⟩ := tx.mw u (List.mem_of_getElem? hu)
    have tkm : ms.take (i + 1) = ms.take i ++ [m] := by rw [List.take_add_one, hm]; rfl
    obtain ⟨Lu, eLu, hLu⟩ := rowAt (show rws[i + 1]? = some u by rw [hrws, List.getElem?_cons_succ, List.getElem?_append_left im]; exact hu)
    have hD8 := x8 _ _ hD (fun ps z => nomatch z)
    refine ⟨_, rfl, _, rfl, D, _, _, _, rfl, rfl, SqL.of hD8, (by rw [show (1 : Int) + ((i : Nat) : Int) = ((i + 1 : Nat) : Int) by omega]; exact atI_nat eLu), _, rfl, fun M dx nM ndx ne => ?_⟩
    have s9 : Same H8 (upd (upd H8 dx (.own M)) M (.ins C dx [])) := (same_new ndx).trans (same_new (by rw [upd_ne ne.symm]; exact nM))
    have hM9 : (upd (upd H8 dx (.own M)) M (.ins C dx [])) M = some (.ins C dx []) := upd_same
    generalize upd (upd H8 dx (.own M)) M (.ins C dx []) = H9 at s9 hM9 ⊢
    refine ⟨M, dx, Lu, u, _, rfl, hM9, s9 _ _ (x8 _ _ hLu (fun ps z => nomatch z)), l40, fun H10 r10 b10 => ⟨rfl, ?_⟩⟩
    have tb10 : Tb2 PT H10 := (tb8.same s9).butR hM9 b10
    obtain ⟨d10, L10, g10, _⟩ := id r10
    have b810 : BX M H9 H10 := BX.but b10
    refine ⟨_, rfl, M, d10, _, rfl, g10, rfl, M, u, _, 0, rfl, r10, rfl, _, rfl, ?_⟩
    cases m with
    | inl p =>
      obtain ⟨ys, rfl, nz, an⟩ := ok
      refine if_strE (fun _ => ?_) (fun e => absurd rfl e)
      have pwM : pw ≠ M := fun z => by rw [z, nM] at hpw; cases hpw
      have hpw10 : H10 pw = some (.lst wv) := b10 _ _ (s9 _ _ hpw) pwM
      refine ⟨_, rfl, .inl ⟨rfl, _, SqL.of hpw10⟩, _, rfl, M, p.1, ys, p.2, _, rfl, r10, nz, an, by simp only [List.length_cons] at l40; omega, tb10, fun v H11 hv b11 tb11 => ?_⟩
      have x11 : LamX.ExtN H8 H11 := bx_ext (ext_same s9) nM (b810.trans b11)
      have hpw11 := x11 _ _ hpw (fun ps z => nomatch z)
      have hpr11 := x11 _ _ hpr (fun ps z => nomatch z)
      have k11 := tk_ext x11
      have kd : TK H11 (upd H11 pw (.lst (wv ++ [v]))) := TK.lst hpw11
      refine ⟨pw, _, _, rfl, rfl, hpw11, small1000 (by omega), _, _, wv ++ [v], rv, rfl, upd_same, by rw [upd_ne prw]; exact hpr11, ?_, ?_, by rw [List.length_append]; show _ + 1 ≤ _; omega, by omega, npw2.own (x8.trans x11), tb11.lstU hpw11, kd _ _ (k11 _ _ hpi8)⟩
      · rw [tkm, List.filterMap_append]
        exact ((aw.imp fun _ _ z => (z.keep k11).keep kd)).snoc (hv.keep kd)
      · rw [tkm, List.filterMap_append]
        show All2 _ _ (_ ++ [])
        rw [List.append_nil]
        exact ar.imp fun _ _ z => (z.keep k11).keep kd
    | inr p =>
      obtain ⟨x, rfl, nz, rd⟩ := ok
      refine if_strE (fun e => absurd e (name_ne nz.1 nm_was)) (fun _ => ?_)
      have prM : pr ≠ M := fun z => by rw [z, nM] at hpr; cases hpr
      have hpr10 : H10 pr = some (.lst rv) := b10 _ _ (s9 _ _ hpr) prM
      refine ⟨_, rfl, .inl ⟨rfl, _, SqL.of hpr10⟩, _, rfl, M, p.1, x, p.2, _, rfl, r10, nz, wk, rd, tb10, fun v H11 hv b11 tb11 => ?_⟩
      have x11 : LamX.ExtN H8 H11 := bx_ext (ext_same s9) nM (b810.trans b11)
      have hpw11 := x11 _ _ hpw (fun ps z => nomatch z)
      have hpr11 := x11 _ _ hpr (fun ps z => nomatch z)
      have k11 := tk_ext x11
      have kd : TK H11 (upd H11 pr (.lst (rv ++ [v]))) := TK.lst hpr11
      refine ⟨pr, _, _, rfl, rfl, hpr11, small1000 (by omega), _, _, wv, rv ++ [v], rfl, by rw [upd_ne prw.symm]; exact hpw11, upd_same, ?_, ?_, by omega, by rw [List.length_append]; show _ + 1 ≤ _; omega, npr2.own (x8.trans x11), tb11.lstU hpr11, kd _ _ (k11 _ _ hpi8)⟩
      · rw [tkm, List.filterMap_append]
        show All2 _ _ (_ ++ [])
        rw [List.append_nil]
        exact aw.imp fun _ _ z => (z.keep k11).keep kd
      · rw [tkm, List.filterMap_append]
        exact ((ar.imp fun _ _ z => (z.keep k11).keep kd)).snoc (hv.keep kd)
  · rintro σ H8 ⟨v7, v8, wv, rv, rfl, hpw, hpr, aw, ar, lw, lr, x8, tb8, hpi8⟩
    have all : ms.take (((lv.length : Nat) : Int) - 1 - 1).toNat = ms := List.take_of_length_le (by omega)
    rw [all] at aw ar
    -- outs
    obtain ⟨Lo, eLo, hLo⟩ := rowAt (show rws[mid.length + 1]? = some (("out" : Str) :: outs) by rw [hrws, List.getElem?_cons_succ, List.getElem?_append_right (Nat.le_refl _), Nat.sub_self]; rfl)
    have hD8 := x8 _ _ hD (fun ps z => nomatch z)
    refine ⟨_, rfl, _, rfl, D, _, _, _, rfl, rfl, SqL.of hD8, (by rw [elast]; exact atI_nat eLo), _, rfl, fun M dx nM ndx ne => ?_⟩
    have s9 : Same H8 (upd (upd H8 dx (.own M)) M (.ins C dx [])) := (same_new ndx).trans (same_new (by rw [upd_ne ne.symm]; exact nM))
    have hM9 : (upd (upd H8 dx (.own M)) M (.ins C dx [])) M = some (.ins C dx []) := upd_same
    generalize upd (upd H8 dx (.own M)) M (.ins C dx []) = H9 at s9 hM9 ⊢
    have lo := tx.lo
    refine ⟨M, dx, Lo, ("out" : Str) :: outs, _, rfl, hM9, s9 _ _ (x8 _ _ hLo (fun ps z => nomatch z)), by rw [List.length_cons]; omega, fun H10 r10 b10 => ⟨rfl, ?_⟩⟩
    have tb10 : Tb2 PT H10 := (tb8.same s9).butR hM9 b10
    refine ⟨M, "out", outs, _, rfl, r10, tx.ho, tx.lo, tb10, fun po H11 hpo b11 tb11 => ?_⟩
    have x11 : LamX.ExtN H8 H11 := bx_ext (ext_same s9) nM ((BX.but b10).trans b11)
    have k11 := tk_ext x11
    have hpw11 := x11 _ _ hpw (fun ps z => nomatch z)
    have hpr11 := x11 _ _ hpr (fun ps z => nomatch z)
    refine ⟨_, rfl, _, rfl, pw, _, rfl, .inl ⟨SqL.of hpw11, fun t1 nt1 => ?_⟩⟩
    have s12 : Same H11 (upd H11 t1 (.tup wv)) := same_new nt1
    have ht1 : (upd H11 t1 (.tup wv)) t1 = some (.tup wv) := upd_same
    generalize upd H11 t1 (.tup wv) = H12 at s12 ht1 ⊢
    refine ⟨_, rfl, pr, _, rfl, .inl ⟨SqL.of (s12 _ _ hpr11), fun t2 nt2 => ?_⟩⟩
    have s13 : Same H12 (upd H12 t2 (.tup rv)) := same_new nt2
    have ht2 : (upd H12 t2 (.tup rv)) t2 = some (.tup rv) := upd_same
    generalize upd H12 t2 (.tup rv) = H13 at s13 ht2 ⊢
    refine ⟨_, rfl, (by show 4 ≤ sizeLine; decide), fun t3 nt3 => ?_⟩
    have s14 : Same H13 (upd H13 t3 (.tup [.ref pi, .ref t1, .ref t2, .ref po])) := same_new nt3
    have s114 := s12.trans (s13.trans s14)
    have k814 := k11.trans (TK.same s114)
    exact q t3 _ ⟨pi, t1, t2, po, wv, rv, upd_same, k814 _ _ hpi8, s14 _ _ (s13 _ _ ht1), aw.imp fun _ _ z => z.keep k814, s14 _ _ ht2, ar.imp fun _ _ z => z.keep k814, s114 _ _ hpo⟩ ((((ext_same s02).trans x8).trans x11).trans (ext_same s114)) (tb11.same s114)
end
/-! ### data of known size -/
structure Neat (d : PyData) (dp wt : Nat) : Prop where
  lay : d.canLay0 = true
  dep : d.depth ≤ dp
  wei : d.weight ≤ wt
  sho : d.intsShort 13 = true
  say : d.showable = true
  nod : d.hasDict = false
structure NeatAll (ds : List PyData) (dp wt : Nat) : Prop where
  lay : PyData.canLayAll0 ds = true
  dep : PyData.depthAll ds ≤ dp
  wei : PyData.weightAll ds ≤ wt
  sho : PyData.intsShortAll 13 ds = true
  say : PyData.showableAll ds = true
  nod : PyData.hasDictAll ds = false
theorem Neat.non {dp : Nat} : Neat .none dp 0 := ⟨rfl, Nat.zero_le _, Nat.le_refl _, by simp [PyData.intsShort], by simp [PyData.showable], by simp [PyData.hasDict]⟩
theorem Neat.bool {b : Bool} {dp : Nat} : Neat (.bool b) dp 0 := ⟨rfl, Nat.zero_le _, Nat.le_refl _, by simp [PyData.intsShort], by simp [PyData.showable], by simp [PyData.hasDict]⟩
theorem Neat.int {i : Int} {dp : Nat} (h : i.natAbs < 10 ^ 12) : Neat (.int i) dp 41 := by
  have l : i.natAbs.log2 < 40 := by
    by_cases z : i.natAbs = 0
    · rw [z]; decide
    · exact (Nat.log2_lt z).mpr (Nat.lt_trans h (by decide))
  refine ⟨rfl, Nat.zero_le _, ?_, ?_, ?_, by simp [PyData.hasDict]⟩
  · simp only [PyData.weight]
    split <;> omega
  · simp only [PyData.intsShort, decide_eq_true_eq]
    exact PyData.shown_int_le h
  · simp only [PyData.showable, decide_eq_true_eq]
    omega
theorem Neat.str {x : Str} {n dp : Nat} (h : PyData.canLay0 (.str x) = true) (hn : x.cps.size ≤ n) : Neat (.str x) dp n := ⟨h, Nat.zero_le _, hn, by simp [PyData.intsShort], by simp [PyData.showable], by simp [PyData.hasDict]⟩
theorem NeatAll.nil {dp : Nat} : NeatAll [] dp 0 := ⟨rfl, Nat.zero_le _, Nat.le_refl _, by simp [PyData.intsShortAll], by simp [PyData.showableAll], by simp [PyData.hasDictAll]⟩
theorem NeatAll.cons {d : PyData} {ds : List PyData} {dp a b : Nat} (h : Neat d dp a) (t : NeatAll ds dp b) : NeatAll (d :: ds) dp (a + 1 + b) := by
  refine ⟨?_, ?_, ?_, ?_, ?_, ?_⟩
  · simp only [PyData.canLayAll0, h.lay, t.lay, Bool.and_self]
  · simp only [PyData.depthAll]
    exact Nat.max_le.mpr ⟨h.dep, t.dep⟩
  · simp only [PyData.weightAll]
    have := h.wei
    have := t.wei
    omega
  · simp only [PyData.intsShortAll, h.sho, t.sho, Bool.and_self]
  · simp only [PyData.showableAll, h.say, t.say, Bool.and_self]
  · simp only [PyData.hasDictAll, h.nod, t.nod, Bool.or_self]
theorem Neat.mono {d : PyData} {a b c e : Nat} (h : Neat d a b) (x : a ≤ c) (y : b ≤ e) : Neat d c e := ⟨h.lay, Nat.le_trans h.dep x, Nat.le_trans h.wei y, h.sho, h.say, h.nod⟩
theorem NeatAll.mono {d : List PyData} {a b c e : Nat} (h : NeatAll d a b) (x : a ≤ c) (y : b ≤ e) : NeatAll d c e := ⟨h.lay, Nat.le_trans h.dep x, Nat.le_trans h.wei y, h.sho, h.say, h.nod⟩
theorem Neat.tup {ds : List PyData} {dp n : Nat} (h : NeatAll ds dp n) : Neat (.tuple ds) (dp + 1) n := by
  refine ⟨?_, ?_, ?_, ?_, ?_, ?_⟩
  · simp only [PyData.canLay0, h.lay]
  · simp only [PyData.depth]
    have := h.dep
    omega
  · simp only [PyData.weight]
    exact h.wei
  · simp only [PyData.intsShort, h.sho]
  · simp only [PyData.showable, h.say]
  · simp only [PyData.hasDict, h.nod]
theorem Neat.lst {ds : List PyData} {dp n : Nat} (h : NeatAll ds dp n) : Neat (.list ds) (dp + 1) n := by
  refine ⟨?_, ?_, ?_, ?_, ?_, ?_⟩
  · simp only [PyData.canLay0, h.lay]
  · simp only [PyData.depth]
    have := h.dep
    omega
  · simp only [PyData.weight]
    exact h.wei
  · simp only [PyData.intsShort, h.sho]
  · simp only [PyData.showable, h.say]
  · simp only [PyData.hasDict, h.nod]
theorem NeatAll.map {α : Type} {f : α → PyData} {dp n : Nat} : ∀ {l : List α}, (∀ x ∈ l, Neat (f x) dp n) → NeatAll (l.map f) dp (l.length * (n + 1))
  | [], _ => by rw [List.length_nil, Nat.zero_mul]; exact .nil
  | x :: l, h => by
    have t : NeatAll (l.map f) dp (l.length * (n + 1)) := NeatAll.map fun y hy => h y (List.mem_cons_of_mem _ hy)
    have := NeatAll.cons (h x (List.mem_cons_self ..)) t
    refine NeatAll.mono this (Nat.le_refl _) ?_
    rw [List.length_cons, Nat.add_mul]
    omega
theorem Neat.shaped {d : PyData} {dp n : Nat} (h : Neat d dp n) (k : dp ≤ 60) : SeqAt.shaped d = true := by
  unfold SeqAt.shaped
  rw [h.lay, Bool.true_and]
  exact decide_eq_true (by have := h.dep; omega)
theorem Neat.fits {d : PyData} {dp n : Nat} (h : Neat d dp n) (k : dp ≤ 60) (m : n ≤ 1000000) : d.shown.length ≤ sizeLine := by
  refine PyData.shown_fits_of_layable0 (B := 13) (by decide) (by decide) ?_ h.sho
  have a : d.canLay0 = true := h.lay
  have b : decide (d.depth ≤ 64) = true := decide_eq_true (by have := h.dep; omega)
  have c : decide (d.weight ≤ 2 ^ 20) = true := decide_eq_true (by have := h.wei; omega)
  unfold PyData.layable0
  rw [a, b, c]
  rfl
theorem dp_ints {K : PySem.W.Frag} {H : Hp} : ∀ ns : List Int, DpAll K H (ns.map V.int) (ns.map PyData.int)
  | [] => .nil
  | n :: ns => .cons (.int n) (dp_ints ns)
theorem dp_nats {K : PySem.W.Frag} {H : Hp} : ∀ ns : List Nat, DpAll K H (ns.map nV) (ns.map fun n => PyData.int ((n : Nat) : Int))
  | [] => .nil
  | n :: ns => .cons (.int _) (dp_nats ns)
theorem eqv_nil {ds : List PyData} : PyData.eqvAll ds [] = ds.isEmpty := by cases ds <;> rfl
def ZA : Str := "zyxwvutsrqponmlkjihgfedcba"
def zaS (j : Nat) : Str := ⟨#[122 - j]⟩
theorem za_at : ∀ j < 26, (cps ZA)[j]? = some (122 - j) := by decide +kernel
theorem zaS_inj {i j : Nat} (hi : i < 26) (hj : j < 26) (h : zaS i = zaS j) : i = j := by
  have : cps (zaS i) = cps (zaS j) := by rw [h]
  have : [122 - i] = [122 - j] := this
  have := (List.cons.inj this).1
  omega
theorem zaS_wd {j : Nat} (h : j < 26) : Wd 6 (zaS j) := ⟨Nat.le_refl 1, (by show 1 ≤ 6; decide), fun c hc => by
  obtain rfl : c = 122 - j := List.mem_singleton.mp hc
  omega⟩
theorem za_few {s : Nat} {forb : List Str} (hs : s < 26) (h : ∀ j, j < s → zaS j ∈ forb) : s ≤ forb.length := by
  have := few_in (l := (List.range s).map zaS) (m := forb) ?_ ?_
  · rwa [List.length_map, List.length_range] at this
  · rw [List.nodup_iff_pairwise_ne, List.pairwise_map]
    exact List.Pairwise.imp_of_mem (fun {a b} ha hb n e => n (zaS_inj (by have := List.mem_range.mp ha; omega) (by have := List.mem_range.mp hb; omega) e)) (List.nodup_iff_pairwise_ne.mp List.nodup_range)
  · intro x hx
    obtain ⟨j, hj, rfl⟩ := List.mem_map.mp hx
    exact h j (List.mem_range.mp hj)
theorem cut6 {z : Str} (h : z.length ≤ 6) : cutS z none (some 6) = z := by
  refine str_inj ?_
  unfold cutS
  show (List.take _ (List.drop _ (cps z))) = cps z
  rw [show (6 : Int) = ((6 : Nat) : Int) from rfl, HT.sIx_nat, HT.sIx_none, List.drop_zero, Nat.sub_zero, Nat.min_eq_right h, List.take_of_length_le (by rw [← strlen]; exact Nat.le_refl _)]
theorem Wd.cat {a b : Nat} {x y : Str} (h : Wd a x) (g : Wd b y) : Wd (a + b) (x ++ y) := by
  have e : (x ++ y).length = x.length + y.length := Array.size_append ..
  refine ⟨by rw [e]; have := h.lo; omega, by rw [e]; exact Nat.add_le_add h.hi g.hi, fun c hc => ?_⟩
  have hc : c ∈ (x.cps ++ y.cps).toList := hc
  rw [Array.toList_append] at hc
  rcases List.mem_append.mp hc with z | z
  · exact h.ltr c z
  · exact g.ltr c z
theorem mul_one (z : Str) : Txt.mul z 1 = z := rfl
theorem mulOk_one (z : Str) : MulOk z 1 := ⟨by decide, fun _ h => by simp at h, fun _ h => by simp at h⟩
theorem flat_strs (l : List Str) : (l.map V.str).all flatV = true := List.all_eq_true.mpr fun x hx => by
  obtain ⟨y, _, rfl⟩ := List.mem_map.mp hx
  rfl
theorem or_in {K : PySem.W.Frag} {nm : Str} {ns : List Str} {p : Addr} {σ : L2.St} {H : Hp} {Q : Bool → Hp → Prop} (h5 : σ[5]? = some (some (.str nm))) (h2 : σ[2]? = some (some (.ref p))) (hp : H p = some (.lst (ns.map V.str))) (yes : ∀ Hx, Same H Hx → nm ∈ ns ++ takL → Q true Hx) (no : ∀ Hx, Same H Hx → nm ∉ ns ++ takL → Q false Hx) :
    tOr (tTest (tOp (rIn K false) (tVar 5) (tVar 2))) (tTest (tOp (rIn K false) (tVar 5) (tCall (sp_law_taken K) [] E0 tNil))) σ H Q := by
  refine ⟨_, h5, _, h2, p, _, rfl, .inl (SqL.of hp), rfl, flat_strs ns, _, rfl, if_in (zs := ns) (fun e => ?_) (fun e => ?_)⟩
  · exact yes H (Same.refl _) (List.mem_append.mpr (.inl e))
  · refine ⟨_, h5, rfl, fun p2 H1 np hp1 s1 => ⟨p2, _, rfl, .inl (SqL.of hp1), rfl, flat_strs takL, _, rfl, ?_⟩⟩
    cases c : inV (.str nm) (takL.map V.str) with
    | true => exact yes H1 s1 (List.mem_append.mpr (.inr (inV_strs.mp c)))
    | false => exact no H1 s1 fun z => (List.mem_append.mp z).elim e fun z => by rw [inV_strs.mpr z] at c; cases c
section
variable {P : Program} {w : World} {K : PySem.W.Frag} {mg : Str → Option Value} {base : Heap}
def sp_law_names (K : PySem.W.Frag) : Sp := fun vs H Q _ => ∃ (f c : Addr) (m : Nat), vs = [.ref f, nV m] ∧ 1 ≤ m ∧ m ≤ 9 ∧ Flow H f c ∧ ∀ (p : Addr) (ns : List Str) (H' : Hp), H p = none → H' p = some (.lst (ns.map V.str)) → ns.length = m → ns.Nodup → (∀ z ∈ ns, Wd 6 z ∧ z ∉ takL) → Flow H' f c → But f H H' → Q (.ref p) H'
theorem ok_law_names {f : Addr} {fd : FuncData} (F : Fun K "_law_names" "_law_names" s_law_names f fd) {C : Addr} (T : Top w K mg C) : FnOk P w K mg base CX0 3 f fd ["_law_flow_here", "_law_many"] (sp_law_names K) := by
  obtain ⟨f_law_word, fd_law_word, F_law_word, b_law_word, m_law_word⟩ := T.d_law_word
  have G_law_word := ok_law_word (P := P) (w := w) (base := base) F_law_word T
  obtain ⟨f_law_pick, fd_law_pick, F_law_pick, b_law_pick, m_law_pick⟩ := T.d_law_pick
  have G_law_pick := ok_law_pick (P := P) (w := w) (base := base) F_law_pick T
  obtain ⟨f_law_taken, fd_law_taken, F_law_taken, b_law_taken, m_law_taken⟩ := T.d_law_taken
  have G_law_taken := ok_law_taken (P := P) (w := w) (base := base) F_law_taken T
  refine F.ok sc_law_names (fun vs H Q E h => ?_) (fun cdv A outer s H vs Q E hr h => ?_)
  · obtain ⟨f, c, m, rfl, _⟩ := h
    rfl
  obtain ⟨f, c, mm, rfl, mm1, mm9, hF, q⟩ := h
  refine ⟨_, (pss_cons (ps_set (i := 2) sc_law_names.nd rfl (Or.inl rfl) (pe_lst pa_nil))
      (pss_cons (ps_set (i := 3) sc_law_names.nd rfl (Or.inl rfl) (pe_call G_law_word (hr.mono (by decide)) (by rfl) m_law_word F_law_word.kp b_law_word .nil pass0 (pa_cons (pv 0) (pa_cons pe_int pa_nil))))
      (pss_cons (ps_for PassesOwn.never rfl (pi_range1 (by rfl) T.m_range (pa_cons (pv 1) pa_nil)) (pg_name (i := 4) sc_law_names.nd rfl (Or.inl rfl))
        (pss_cons (ps_set (i := 5) sc_law_names.nd rfl (Or.inl rfl) (pe_ix (ix_listK K rfl) (pe_lst (pa_cons (pe_call G_law_word (hr.mono (by decide)) (by rfl) m_law_word F_law_word.kp b_law_word .nil pass0 (pa_cons (pv 0) (pa_cons pe_int pa_nil))) (pa_cons (pe_slice sl_str (pe_op op_add_str (pv 3) (pe_call G_law_word (hr.mono (by decide)) (by rfl) m_law_word F_law_word.kp b_law_word .nil pass0 (pa_cons (pv 0) (pa_cons pe_int pa_nil)))) po_none (po_some pe_int)) (pa_cons (pv 3) pa_nil)))) (pe_call G_law_pick (hr.mono (by decide)) (by rfl) m_law_pick F_law_pick.kp b_law_pick .nil pass0 (pa_cons (pv 0) (pa_cons pe_int pa_nil))) (fun _ _ => rfl)))
      (pss_cons (ps_set (i := 6) sc_law_names.nd rfl (Or.inl rfl) pe_int)
      (pss_cons (ps_while PassesOwn.never (PW.pt (pw_or (pt_cmpR (op_in_seqK K rfl) (pv 5) (pv 2) (by with_unfolding_all rfl)) (pw_or1 (pt_cmpR (op_in_seqK K rfl) (pv 5) (pe_call0 G_law_taken (hr.mono (by decide)) (by rfl) m_law_taken F_law_taken.kp b_law_taken .nil pass0) (by with_unfolding_all rfl)))))
        (pss_cons (ps_set (i := 5) sc_law_names.nd rfl (Or.inl rfl) (pe_op op_rep_str (pe_ix ix_str pe_str (pe_op op_mod (pv 6) pe_int) (fun _ _ => rfl)) (pe_op op_add pe_int (pe_op op_fdiv (pv 6) pe_int))))
      (pss_one (ps_set (i := 6) sc_law_names.nd rfl (Or.inl rfl) (pe_op op_add (pv 6) pe_int)))))
      (pss_one (ps_expr (pe_bmK K rfl PySem.F.plainAttrs_list PySem.F.slot_list_append PySem.F.type_list_append mt_append (pv 2) (pa_cons (pv 5) pa_nil))))))))
      (pss_one (ps_ret (pv 2)))))), ?_⟩
  refine ⟨(by show 0 ≤ sizeLine; decide), fun p np => ?_⟩
  have pf : p ≠ f := hF.ne np
  have pc : p ≠ c := hF.nec np
  have F0 := hF.new (o := .lst []) np
  have B0 : But f H (upd H p (.lst [])) := But.refl.new np
  have hp0 : (upd H p (.lst [])) p = some (.lst []) := upd_same
  generalize upd H p (.lst []) = H0 at F0 B0 hp0 ⊢
  refine ⟨_, rfl, f, c, 4, rfl, by decide, by decide, F0, fun stem H1 ws F1 B1 => ?_⟩
  have hp1 := B1 _ _ hp0 pf
  have nstem : Wd 6 stem := ⟨ws.lo, Nat.le_trans ws.hi (by decide), ws.ltr⟩
  refine ⟨_, rfl, _, rfl, by omega, by omega, for_range (lo := 0) (n := ((mm : Nat) : Int).toNat) (fun i σ H5 => ∃ (ns : List Str) (v4 v5 v6 : Option V), σ = [some (.ref f), some (nV mm), some (.ref p), some (.str stem), v4, v5, v6] ∧ H5 p = some (.lst (ns.map V.str)) ∧ ns.length = i ∧ ns.Nodup ∧ (∀ z ∈ ns, Wd 6 z ∧ z ∉ takL) ∧ Flow H5 f c ∧ But f H H5) ⟨[], none, none, none, rfl, hp1, rfl, List.nodup_nil, (fun _ z => nomatch z), F1, B0.trans B1⟩ ?_ ?_⟩
  · rintro i σ H5 hi ⟨ns, v4, v5, v6, rfl, hp5, ln, nd, gd, F5, B5⟩
    refine ⟨_, rfl, f, c, 6, rfl, by decide, by decide, F5, fun w1 H6 g1 F6 B6 => ?_⟩
    refine ⟨_, rfl, _, rfl, f, c, 2, rfl, by decide, by decide, F6, fun w2 H7 g2 F7 B7 => ?_⟩
    have ls : stem.length + w2.length ≤ 6 := by
      have := ws.hi
      have := g2.hi
      omega
    refine ⟨_, _, rfl, rfl, little (by omega), ?_⟩
    refine ⟨_, rfl, _, rfl, little (by rw [show (stem ++ w2).length = stem.length + w2.length from Array.size_append ..]; omega), ?_⟩
    refine ⟨_, rfl, (by show 3 ≤ sizeLine; decide), fun l nl => ?_⟩
    have mlf : l ≠ f := F7.ne nl
    have mlp : p ≠ l := fun z => by
      rw [← z] at nl
      rw [B7 _ _ (B6 _ _ hp5 pf) pf] at nl
      cases nl
    have F8 := F7.new (o := .lst [V.str w1, V.str (cutS (stem ++ w2) none (some 6)), V.str stem]) nl
    have B8 := ((B5.trans B6).trans B7).new (o := .lst [V.str w1, V.str (cutS (stem ++ w2) none (some 6)), V.str stem]) nl
    have hl8 : (upd H7 l (.lst [V.str w1, V.str (cutS (stem ++ w2) none (some 6)), V.str stem])) l = some (.lst [V.str w1, V.str (cutS (stem ++ w2) none (some 6)), V.str stem]) := upd_same
    have hp8 : (upd H7 l (.lst [V.str w1, V.str (cutS (stem ++ w2) none (some 6)), V.str stem])) p = some (.lst (ns.map V.str)) := by
      rw [upd_ne mlp]
      exact B7 _ _ (B6 _ _ hp5 pf) pf
    generalize upd H7 l (.lst [V.str w1, V.str (cutS (stem ++ w2) none (some 6)), V.str stem]) = H8 at F8 B8 hl8 hp8 ⊢
    refine ⟨_, rfl, f, c, 3, rfl, by decide, by decide +kernel, F8, fun v H9 v0 v1 F9 B9 => ?_⟩
    have hl9 := B9 _ _ hl8 mlf
    have hp9 := B9 _ _ hp8 pf
    have B9 := B8.trans B9
    obtain ⟨nm, en, gnm⟩ : ∃ nm, atI [V.str w1, V.str (cutS (stem ++ w2) none (some 6)), V.str stem] v = some (.str nm) ∧ Wd 6 nm := by
      have : v = 0 ∨ v = 1 ∨ v = 2 := by omega
      rcases this with rfl | rfl | rfl
      · exact ⟨w1, atI_nat (j := 0) rfl, g1⟩
      · exact ⟨_, atI_nat (j := 1) rfl, by
          rw [cut6 (by rw [show (stem ++ w2).length = stem.length + w2.length from Array.size_append ..]; exact ls)]
          exact ws.cat g2⟩
      · exact ⟨stem, atI_nat (j := 2) rfl, nstem⟩
    refine ⟨l, _, v, _, rfl, rfl, SqL.of hl9, en, ?_⟩
    let W : Nat → L2.St → Hp → Prop := fun m σ H10 => ∃ (nm : Str) (sp : Nat), σ = [some (.ref f), some (nV mm), some (.ref p), some (.str stem), some (.int (0 + (i : Int))), some (.str nm), some (nV sp)] ∧ Wd 6 nm ∧ (∀ j, j + 1 < sp → zaS j ∈ ns ++ takL) ∧ (∀ j, sp = j + 1 → nm = zaS j) ∧ sp ≤ 18 ∧ m = 20 - sp ∧ Same H9 H10
    refine ⟨W, ⟨_, nm, 0, rfl, gnm, (fun j z => absurd z (by omega)), (fun j z => absurd z (by omega)), by decide, rfl, Same.refl _⟩, ?_⟩
    rintro m σ H10 ⟨nm, sp, rfl, gn, f1, f2, l18, rfl, s10⟩
    have lnf : (ns ++ takL).length ≤ 16 := by
      rw [List.length_append, show takL.length = 8 from rfl]
      omega
    refine or_in rfl rfl (s10 _ _ hp9) (fun H11 s11 e => ?_) (fun H11 s11 e => ?_)
    · have sx := s10.trans s11
      have all : ∀ j, j < sp → zaS j ∈ ns ++ takL := fun j hj => by
        by_cases z : j + 1 = sp
        · rw [← f2 j z.symm]; exact e
        · exact f1 j (by omega)
      have l16 : sp ≤ 16 := Nat.le_trans (za_few (by omega) all) lnf
      refine if_bl (fun _ => ?_) (fun z => nomatch z)
      refine ⟨fun σ' H' => ∃ m', m' < 20 - sp ∧ W m' σ' H', fun _ _ z => z, ?_⟩
      have e1 : (nV sp, V.int 26) = (V.int (sp : Int), V.int 26) := rfl
      have m26 : ((sp : Int) % 26) = ((sp : Nat) : Int) := by omega
      have d26 : ((sp : Int) / 26) = 0 := by omega
      refine ⟨_, rfl, _, _, rfl, rfl, (by show (0 : Int) < 26; decide), _, _, 122 - sp, rfl, rfl, by decide, ?_, _, rfl, _, _, rfl, rfl, ⟨by decide, by decide⟩, _, _, rfl, rfl, _, _, rfl, rfl, ?_, ?_⟩
      · rw [m26]
        exact atI_nat (za_at sp (by omega))
      · rw [d26]
        exact mulOk_one _
      rw [d26]
      have nx : Txt.mul ⟨#[122 - sp]⟩ (1 + 0) = zaS sp := rfl
      rw [nx]
      refine ⟨_, rfl, _, _, rfl, rfl, 20 - (sp + 1), by omega, zaS sp, sp + 1, ?_, zaS_wd (by omega), fun j hj => all j (by omega), fun j hj => by rw [show j = sp by omega], by omega, rfl, sx⟩
      show [some (V.ref f), some (nV mm), some (V.ref p), some (V.str stem), some (V.int (0 + (i : Int))), some (V.str (zaS sp)), some (V.int ((sp : Int) + 1))] = _
      rw [show ((sp : Int) + 1) = (((sp + 1 : Nat)) : Int) by omega]
    · have sx := s10.trans s11
      refine if_bl (fun z => nomatch z) (fun _ => ?_)
      have hp11 := sx _ _ hp9
      refine ⟨_, rfl, .inl ⟨rfl, _, SqL.of hp11⟩, _, rfl, p, _, _, rfl, rfl, hp11, small1000 (by rw [List.length_map]; omega), ns ++ [nm], _, _, _, rfl, ?_, ?_, ?_, fun z hz => ?_, (F9.same sx).lst pf pc, (B9.same sx).own np⟩
      · rw [upd_same, List.map_append]; rfl
      · rw [List.length_append, ln]; rfl
      · rw [List.nodup_append]
        exact ⟨nd, by simp, fun a ha b hb z => e (List.mem_append.mpr (.inl (by rw [← List.mem_singleton.mp hb, ← z]; exact ha)))⟩
      · rcases List.mem_append.mp hz with z | z
        · exact gd _ z
        · rw [List.mem_singleton.mp z]
          exact ⟨gn, fun y => e (List.mem_append.mpr (.inr y))⟩
  · rintro σ H5 ⟨ns, v4, v5, v6, rfl, hp5, ln, nd, gd, F5, B5⟩
    exact ⟨_, rfl, q p ns H5 np hp5 (by omega) nd gd F5 B5⟩
end
theorem All2.perm {α β : Type} {R : α → β → Prop} : ∀ {as as' : List α} {bs : List β}, as'.Perm as → All2 R as bs → ∃ bs' : List β, bs'.Perm bs ∧ All2 R as' bs' := by
  intro as as' bs p
  induction p generalizing bs with
  | nil => intro a; exact ⟨bs, .refl _, a⟩
  | cons x _ ih =>
    intro a
    cases a with
    | cons h t => obtain ⟨b', p', a'⟩ := ih t; exact ⟨_ :: b', p'.cons _, .cons h a'⟩
  | swap x y l =>
    intro a
    cases a with
    | cons h t => cases t with
      | cons h2 t2 => exact ⟨_ :: _ :: _, .swap .., .cons h2 (.cons h t2)⟩
  | trans _ _ ih1 ih2 =>
    intro a
    obtain ⟨b1, p1, a1⟩ := ih2 a
    obtain ⟨b2, p2, a2⟩ := ih1 a1
    exact ⟨b2, p2.trans p1, a2⟩
/-! ### trees drawn -/
def Tr.small : Tr → Prop
  | .nm _ _ => True
  | .no i => Small i
  | .tm k t => (-9 ≤ k ∧ k ≤ 9) ∧ t.small
  | .o2 _ a b => a.small ∧ b.small
  | .o3 a b c => a.small ∧ b.small ∧ c.small
structure TOk (now names : List Str) (t : Tr) : Prop where
  ln : ∀ q ∈ t.leans, (q.2 = 0 ∧ q.1 ∈ now) ∨ (1 ≤ q.2 ∧ q.2 ≤ 6 ∧ q.1 ∈ names)
  sm : t.small
theorem Flow.neS {H : Hp} {f c p : Addr} {zs : List Str} (h : Flow H f c) (e : H p = some (.lst (zs.map V.str))) : p ≠ f := fun z => by
  obtain ⟨ns, i, a, q, r, e1, _⟩ := h
  rw [z, e1] at e
  cases zs with
  | nil => cases e
  | cons y zs => cases e
theorem at_strs {zs : List Str} {v : Int} (h0 : 0 ≤ v) (h1 : v < (zs.length : Int)) : ∃ z, atI (zs.map V.str) v = some (.str z) ∧ z ∈ zs := by
  have hk : v.toNat < zs.length := by omega
  have q : atI (zs.map V.str) ((v.toNat : Nat) : Int) = some (.str zs[v.toNat]) := atI_nat (by rw [List.getElem?_map, List.getElem?_eq_getElem hk]; rfl)
  rw [show ((v.toNat : Nat) : Int) = v by omega] at q
  exact ⟨_, q, List.getElem_mem hk⟩
theorem Wd.lay {m : Nat} {z : Str} (h : Wd m z) : PyData.canLay0 (.str z) = true := by
  show PyData.strOk z = true
  unfold PyData.strOk
  rw [Array.all_eq_true_iff_forall_mem]
  intro c hc
  have := (h.ltr c (Array.mem_def.mp hc)).2
  exact decide_eq_true (by omega)
theorem Wd.size {m : Nat} {z : Str} (h : Wd m z) : z.cps.size ≤ m := h.hi
theorem dp_strs {K : PySem.W.Frag} {H : Hp} : ∀ l : List Str, DpAll K H (l.map V.str) (l.map PyData.str)
  | [] => .nil
  | n :: ns => .cons (.str n) (dp_strs ns)
theorem strs_shaped {m : Nat} {l : List Str} (h : ∀ z ∈ l, Wd m z) : SeqAt.shaped (.list (l.map PyData.str)) = true :=
  (Neat.lst (NeatAll.map (f := PyData.str) (dp := 0) (n := m) fun z hz => Neat.str (h z hz).lay (h z hz).size)).shaped (by decide)
section
variable {P : Program} {w : World} {K : PySem.W.Frag} {mg : Str → Option Value} {base : Heap}
def sp_law_leaf (K : PySem.W.Frag) : Sp := fun vs H Q _ => ∃ (f c nw na : Addr) (now names : List Str), vs = [.ref f, .ref nw, .ref na] ∧ H nw = some (.lst (now.map V.str)) ∧ H na = some (.lst (names.map V.str)) ∧ now.length ≤ 100 ∧ names.length ≤ 100 ∧ (∀ z ∈ now, Wd 6 z) ∧ (∀ z ∈ names, Wd 6 z) ∧ Flow H f c ∧ ∀ (v : V) (t : Tr) (H' : Hp), TrAt H' v t → TOk now names t → t.parts.length = 1 → Flow H' f c → But f H H' → Q v H'
theorem ok_law_leaf {f : Addr} {fd : FuncData} (F : Fun K "_law_leaf" "_law_leaf" s_law_leaf f fd) {C : Addr} (T : Top w K mg C) : FnOk P w K mg base CX0 3 f fd ["_law_flow_here", "_law_now", "_law_names_here"] (sp_law_leaf K) := by
  obtain ⟨f_law_thing, fd_law_thing, F_law_thing, b_law_thing, m_law_thing⟩ := T.d_law_thing
  have G_law_thing := ok_law_thing (P := P) (w := w) (base := base) F_law_thing T
  obtain ⟨f_law_pick, fd_law_pick, F_law_pick, b_law_pick, m_law_pick⟩ := T.d_law_pick
  have G_law_pick := ok_law_pick (P := P) (w := w) (base := base) F_law_pick T
  refine F.ok sc_law_leaf (fun vs H Q E h => ?_) (fun cdv A outer s H vs Q E hr h => ?_)
  · obtain ⟨f, c, nw, na, now, names, rfl, _⟩ := h
    rfl
  obtain ⟨f, c, nw, na, now, names, rfl, hnw, hna, ln, la, gw, ga, hF, q⟩ := h
  have nwf := hF.neS hnw
  have naf := hF.neS hna
  let R1 : TS := fun D' σ' H' => D'.rt = Q ∧ σ' = [some (.ref f), some (.ref nw), some (.ref na)] ∧ Flow H' f c ∧ But f H H'
  refine ⟨_, (pss_cons (ps_if (PW.pt (pw_and (pt_cmpR (op_neDK K rfl hr.units) (pv 1) (pe_lst pa_nil) (nomark _)) (pw_and1 (pt_cmpR op_eq (pe_call G_law_pick (hr.mono (by decide)) (by rfl) m_law_pick F_law_pick.kp b_law_pick .nil pass0 (pa_cons (pv 0) (pa_cons pe_int pa_nil))) pe_int (nomark _))))) (pss_one (ps_ret (pe_tup (pa_cons pe_str (pa_cons (pe_ix (ix_listK K rfl) (pv 1) (pe_call G_law_pick (hr.mono (by decide)) (by rfl) m_law_pick F_law_pick.kp b_law_pick .nil pass0 (pa_cons (pv 0) (pa_cons (pe_callB (call_len_seqK K rfl) (by rfl) T.m_len (by decide +kernel) (pa_cons (pv 1) pa_nil)) pa_nil))) (fun _ _ => rfl)) (pa_cons pe_int pa_nil)))))) pss_nil)
      (PSs.to (pss_cons (ps_if (PW.pt (pw_and (pt_cmpR (op_neDK K rfl hr.units) (pv 2) (pe_lst pa_nil) (nomark _)) (pw_and1 (pt_cmpR op_gt (pe_call G_law_pick (hr.mono (by decide)) (by rfl) m_law_pick F_law_pick.kp b_law_pick .nil pass0 (pa_cons (pv 0) (pa_cons pe_int pa_nil))) pe_int (nomark _))))) (pss_one (ps_ret (pe_tup (pa_cons pe_str (pa_cons (pe_ix (ix_listK K rfl) (pv 2) (pe_call G_law_pick (hr.mono (by decide)) (by rfl) m_law_pick F_law_pick.kp b_law_pick .nil pass0 (pa_cons (pv 0) (pa_cons (pe_callB (call_len_seqK K rfl) (by rfl) T.m_len (by decide +kernel) (pa_cons (pv 2) pa_nil)) pa_nil))) (fun _ _ => rfl)) (pa_cons (pe_op op_add pe_int (pe_call G_law_pick (hr.mono (by decide)) (by rfl) m_law_pick F_law_pick.kp b_law_pick .nil pass0 (pa_cons (pv 0) (pa_cons pe_int pa_nil)))) pa_nil)))))) pss_nil)
      (pss_one (ps_ret (pe_tup (pa_cons pe_str (pa_cons (pe_call G_law_thing (hr.mono (by decide)) (by rfl) m_law_thing F_law_thing.kp b_law_thing .nil pass0 (pa_cons (pv 0) pa_nil)) pa_nil)))))) R1 ?tail1)), ?_⟩
  case tail1 =>
    rintro D' σ' H1 ⟨eD, rfl, F1, B1⟩
    have hna1 := B1 _ _ hna naf
    refine ⟨_, rfl, (by show 0 ≤ sizeLine; decide), fun p1 np1 => ?_⟩
    have s2 : Same H1 (upd H1 p1 (.lst [])) := same_new np1
    have hp1 : (upd H1 p1 (.lst [])) p1 = some (.lst []) := upd_same
    have F2 := F1.new (o := .lst []) np1
    generalize upd H1 p1 (.lst []) = H2 at s2 hp1 F2 ⊢
    have B2 : But f H H2 := B1.same s2
    refine ⟨_, _, .lst (SqL.of (s2 _ _ hna1)) (dp_strs _), .lst (SqL.of hp1) .nil, strs_shaped ga, rfl, _, rfl, ?_⟩
    have number : ∀ H3, Flow H3 f c → But f H H3 → tRet (tTup (tCons (tC (V.str "number")) (tCons (tCall (sp_law_thing K) [] E0 (tCons (tVar 0) tNil)) tNil))) D' [some (.ref f), some (.ref nw), some (.ref na)] H3 := fun H3 F3 B3 => by
      refine ⟨_, rfl, f, c, rfl, F3, fun v H4 sv F4 B4 => ⟨(by show 2 ≤ sizeLine; decide), fun p2 np2 => ?_⟩⟩
      rw [eD]
      exact q (.ref p2) (.no v) _ ⟨p2, rfl, upd_same⟩ ⟨(fun q hq => by cases hq), sv⟩ rfl (F4.new np2) ((B3.trans B4).new np2)
    have ee : PyData.eqv (.list (names.map PyData.str)) (.list []) = (names.map PyData.str).isEmpty := eqv_nil
    rw [ee]
    cases hn : names with
    | nil =>
      refine if_bl (fun z => nomatch z) (fun _ => if_bl (fun z => nomatch z) fun _ => ?_)
      exact number H2 F2 B2
    | cons n1 nr =>
      refine if_bl (fun _ => ?_) (fun z => nomatch z)
      refine ⟨_, rfl, f, c, 3, rfl, by decide, by decide, F2, fun v H3 v0 v1 F3 B3 => ⟨_, _, rfl, rfl, _, rfl, if_bl (fun _ => ?_) (fun _ => number H3 F3 (B2.trans B3))⟩⟩
      have hna3 := B3 _ _ (s2 _ _ hna1) naf
      have pos : 0 < names.length := by rw [hn]; exact Nat.succ_pos _
      refine ⟨_, rfl, _, rfl, _, rfl, na, _, rfl, .inl (SqL.of hna3), f, c, ((names.length : Nat) : Int), ?_, by omega, log_small (by omega), F3, fun v2 H4 v20 v21 F4 B4 => ?_⟩
      · rw [List.length_map, List.append_nil]
      have hna4 := B4 _ _ hna3 naf
      obtain ⟨z, ez, mz⟩ := at_strs v20 v21
      refine ⟨na, _, v2, _, rfl, rfl, SqL.of hna4, ez, _, rfl, f, c, 6, rfl, by decide, by decide, F4, fun v3 H5 v30 v31 F5 B5 => ⟨_, _, rfl, rfl, (by show 3 ≤ sizeLine; decide), fun p2 np2 => ?_⟩⟩
      rw [eD]
      refine q (.ref p2) (.nm z (1 + v3).toNat) _ ⟨p2, rfl, ?_⟩ ⟨fun q hq => .inr ?_, trivial⟩ rfl (F5.new np2) ((((B2.trans B3).trans B4).trans B5).new np2)
      · rw [upd_same, show nV (1 + v3).toNat = V.int (1 + v3) from by show V.int _ = _; rw [Int.toNat_of_nonneg (by omega)]]
      · rw [List.mem_singleton.mp hq]
        exact ⟨(by show 1 ≤ (1 + v3).toNat; omega), (by show (1 + v3).toNat ≤ 6; omega), mz⟩
  refine ⟨_, rfl, (by show 0 ≤ sizeLine; decide), fun p1 np1 => ?_⟩
  have s1 : Same H (upd H p1 (.lst [])) := same_new np1
  have hp1 : (upd H p1 (.lst [])) p1 = some (.lst []) := upd_same
  have F1 := hF.new (o := .lst []) np1
  generalize upd H p1 (.lst []) = H1 at s1 hp1 F1 ⊢
  have B1 : But f H H1 := But.refl.same s1
  refine ⟨_, _, .lst (SqL.of (s1 _ _ hnw)) (dp_strs _), .lst (SqL.of hp1) .nil, strs_shaped gw, rfl, _, rfl, ?_⟩
  have ee : PyData.eqv (.list (now.map PyData.str)) (.list []) = (now.map PyData.str).isEmpty := eqv_nil
  rw [ee]
  cases hn : now with
  | nil =>
    refine if_bl (fun z => nomatch z) (fun _ => if_bl (fun z => nomatch z) fun _ => ?_)
    exact ⟨rfl, rfl, F1, B1⟩
  | cons n1 nr =>
    refine if_bl (fun _ => ?_) (fun z => nomatch z)
    refine ⟨_, rfl, f, c, 2, rfl, by decide, by decide, F1, fun v H3 v0 v1 F3 B3 => ⟨rfl, _, rfl, if_bl (fun _ => ?_) (fun _ => ⟨rfl, rfl, F3, B1.trans B3⟩)⟩⟩
    have hnw3 := B3 _ _ (s1 _ _ hnw) nwf
    have pos : 0 < now.length := by rw [hn]; exact Nat.succ_pos _
    refine ⟨_, rfl, _, rfl, _, rfl, nw, _, rfl, .inl (SqL.of hnw3), f, c, ((now.length : Nat) : Int), ?_, by omega, log_small (by omega), F3, fun v2 H4 v20 v21 F4 B4 => ?_⟩
    · rw [List.length_map, List.append_nil]
    have hnw4 := B4 _ _ hnw3 nwf
    obtain ⟨z, ez, mz⟩ := at_strs v20 v21
    refine ⟨nw, _, v2, _, rfl, rfl, SqL.of hnw4, ez, (by show 3 ≤ sizeLine; decide), fun p2 np2 => ?_⟩
    refine q (.ref p2) (.nm z 0) _ ⟨p2, rfl, upd_same⟩ ⟨fun q hq => .inl ?_, trivial⟩ rfl (F4.new np2) (((B1.trans B3).trans B4).new np2)
    rw [List.mem_singleton.mp hq]
    exact ⟨rfl, mz⟩
/-- a tree of at most so many parts; n: how deep the calls may go -/
def spT (K : PySem.W.Frag) : Nat → Sp
  | 0 => fun _ _ _ _ => False
  | n + 1 => fun vs H Q _ => ∃ (f c nw na : Addr) (now names : List Str) (r : Nat), vs = [.ref f, nV r, .ref nw, .ref na] ∧ 1 ≤ r ∧ r ≤ n + 3 ∧ r ≤ 20 ∧ H nw = some (.lst (now.map V.str)) ∧ H na = some (.lst (names.map V.str)) ∧ now.length ≤ 100 ∧ names.length ≤ 100 ∧ (∀ z ∈ now, Wd 6 z) ∧ (∀ z ∈ names, Wd 6 z) ∧ Flow H f c ∧ ∀ (v : V) (t : Tr) (H' : Hp), TrAt H' v t → TOk now names t → t.parts.length ≤ r → Flow H' f c → But f H H' → Q v H'
def wsT : List Str := ["", "", "times", "sum", "gap", "below", "most", "least", "pick", "sum"]
theorem parts_one (t : Tr) : 1 ≤ t.parts.length := by rw [t.parts_eq, List.length_append]; exact Nat.le_add_left ..
theorem tree_step {C : Addr} {f : Addr} {fd : FuncData} (T : Top w K mg C) (n : Nat) (below : ∀ (f : Addr) (fd : FuncData), Fun K "_law_tree" "_law_tree" s_law_tree f fd → FnOk P w K mg base CX0 (n + 3) f fd ["_law_flow_here", "_law_room", "_law_now", "_law_names_here"] (spT K n)) (F : Fun K "_law_tree" "_law_tree" s_law_tree f fd) :
    FnOk P w K mg base CX0 (n + 4) f fd ["_law_flow_here", "_law_room", "_law_now", "_law_names_here"] (spT K (n + 1)) := by
  obtain ⟨f_law_tree, fd_law_tree, F_law_tree, b_law_tree, m_law_tree⟩ := T.d_law_tree
  have G_law_tree := below f_law_tree fd_law_tree F_law_tree
  obtain ⟨f_law_pick, fd_law_pick, F_law_pick, b_law_pick, m_law_pick⟩ := T.d_law_pick
  have G_law_pick := ok_law_pick (P := P) (w := w) (base := base) F_law_pick T
  obtain ⟨f_law_leaf, fd_law_leaf, F_law_leaf, b_law_leaf, m_law_leaf⟩ := T.d_law_leaf
  have G_law_leaf := ok_law_leaf (P := P) (w := w) (base := base) F_law_leaf T
  obtain ⟨f_law_shuffled, fd_law_shuffled, F_law_shuffled, b_law_shuffled, m_law_shuffled⟩ := T.d_law_shuffled
  have G_law_shuffled := ok_law_shuffled (P := P) (w := w) (base := base) F_law_shuffled T
  refine F.ok sc_law_tree (fun vs H Q E h => ?_) (fun cdv A outer s H vs Q E hr h => ?_)
  · obtain ⟨f, c, nw, na, now, names, r, rfl, _⟩ := h
    rfl
  obtain ⟨f, c, nw, na, now, names, r, rfl, r1, rn, r20, hnw, hna, ln, la, gw, ga, hF, q⟩ := h
  have nwf := hF.neS hnw
  have naf := hF.neS hna
  refine ⟨_, (pss_cons (ps_set (i := 4) sc_law_tree.nd rfl (Or.inl rfl) (pe_ix (ix_listK K rfl) (pe_lst (pa_cons pe_str (pa_cons pe_str (pa_cons pe_str (pa_cons pe_str (pa_cons pe_str (pa_cons pe_str (pa_cons pe_str (pa_cons pe_str (pa_cons pe_str (pa_cons pe_str pa_nil))))))))))) (pe_call G_law_pick (hr.mono (by omega)) (by rfl) m_law_pick F_law_pick.kp b_law_pick .nil pass0 (pa_cons (pv 0) (pa_cons pe_int pa_nil))) (fun _ _ => rfl)))
      (pss_cons (ps_if (PW.pt (pw_or (pt_cmpR op_eq (pv 4) pe_str (nomark _)) (pw_or1 (pt_cmpR op_lt (pv 1) pe_int (nomark _))))) (pss_one (ps_ret (pe_call G_law_leaf (hr.mono (by omega)) (by rfl) m_law_leaf F_law_leaf.kp b_law_leaf .nil pass0 (pa_cons (pv 0) (pa_cons (pv 2) (pa_cons (pv 3) pa_nil)))))) pss_nil)
      (pss_cons (ps_if (pt_cmpR op_eq (pv 4) pe_str (nomark _)) (pss_one (ps_ret (pe_tup (pa_cons (pv 4) (pa_cons (pe_op op_sub (pe_call G_law_pick (hr.mono (by omega)) (by rfl) m_law_pick F_law_pick.kp b_law_pick .nil pass0 (pa_cons (pv 0) (pa_cons pe_int pa_nil))) pe_int) (pa_cons (pe_call G_law_tree (hr.mono (Nat.le_refl _)) (by rfl) m_law_tree F_law_tree.kp b_law_tree .nil pass0 (pa_cons (pv 0) (pa_cons (pe_op op_sub (pv 1) pe_int) (pa_cons (pv 2) (pa_cons (pv 3) pa_nil))))) pa_nil)))))) pss_nil)
      (pss_cons (ps_set (i := 5) sc_law_tree.nd rfl (Or.inl rfl) (pe_op op_add pe_int (pe_call G_law_pick (hr.mono (by omega)) (by rfl) m_law_pick F_law_pick.kp b_law_pick .nil pass0 (pa_cons (pv 0) (pa_cons (pe_op op_sub (pv 1) pe_int) pa_nil)))))
      (pss_cons (ps_if (pt_cmpR op_eq (pv 4) pe_str (nomark _)) (pss_cons (ps_set (i := 6) sc_law_tree.nd rfl (Or.inl rfl) (pe_lst (pa_cons (pe_call G_law_tree (hr.mono (Nat.le_refl _)) (by rfl) m_law_tree F_law_tree.kp b_law_tree .nil pass0 (pa_cons (pv 0) (pa_cons (pv 5) (pa_cons (pv 2) (pa_cons (pv 3) pa_nil))))) (pa_cons (pe_call G_law_leaf (hr.mono (by omega)) (by rfl) m_law_leaf F_law_leaf.kp b_law_leaf .nil pass0 (pa_cons (pv 0) (pa_cons (pv 2) (pa_cons (pv 3) pa_nil)))) pa_nil))))
      (pss_one (ps_ret (pe_op (op_catAK K rfl) (pe_tup (pa_cons (pv 4) pa_nil)) (pe_callTy (call_tuple_ofK K rfl) (by rfl) T.m_tuple (by decide +kernel) (pa_cons (pe_call G_law_shuffled (hr.mono (by omega)) (by rfl) m_law_shuffled F_law_shuffled.kp b_law_shuffled .nil pass0 (pa_cons (pv 0) (pa_cons (pe_op op_cat (pv 6) (pe_lst (pa_cons (pe_call G_law_tree (hr.mono (Nat.le_refl _)) (by rfl) m_law_tree F_law_tree.kp b_law_tree .nil pass0 (pa_cons (pv 0) (pa_cons (pe_op op_sub (pe_op op_sub (pv 1) pe_int) (pv 5)) (pa_cons (pv 2) (pa_cons (pv 3) pa_nil))))) pa_nil))) pa_nil))) pa_nil)))))) pss_nil)
      (pss_one (ps_ret (pe_tup (pa_cons (pv 4) (pa_cons (pe_call G_law_tree (hr.mono (Nat.le_refl _)) (by rfl) m_law_tree F_law_tree.kp b_law_tree .nil pass0 (pa_cons (pv 0) (pa_cons (pv 5) (pa_cons (pv 2) (pa_cons (pv 3) pa_nil))))) (pa_cons (pe_call G_law_tree (hr.mono (Nat.le_refl _)) (by rfl) m_law_tree F_law_tree.kp b_law_tree .nil pass0 (pa_cons (pv 0) (pa_cons (pe_op op_sub (pe_op op_sub (pv 1) pe_int) (pv 5)) (pa_cons (pv 2) (pa_cons (pv 3) pa_nil))))) pa_nil))))))))))), ?_⟩
  refine ⟨(by show 10 ≤ sizeLine; decide), fun l nl => ?_⟩
  have lf : l ≠ f := hF.ne nl
  generalize e1 : upd H l _ = H1
  have s1 : Same H H1 := by rw [← e1]; exact same_new nl
  have hl1 : H1 l = some (.lst (wsT.map V.str)) := by rw [← e1]; exact upd_same
  have F1 : Flow H1 f c := by rw [← e1]; exact hF.new nl
  have B1 : But f H H1 := But.refl.same s1
  clear e1
  refine ⟨_, rfl, f, c, 10, rfl, by decide, by decide, F1, fun v H2 v0 v1 F2 B2 => ?_⟩
  obtain ⟨wd, ew, mw⟩ := at_strs (zs := wsT) v0 v1
  have hl2 := B2 _ _ hl1 lf
  replace B2 := B1.trans B2
  have hnw2 := B2 _ _ hnw nwf
  have hna2 := B2 _ _ hna naf
  refine ⟨l, _, v, _, rfl, rfl, SqL.of hl2, ew, ?_⟩
  have leaf : ∀ D : Ends, D.rt = Q → tRet (tCall (sp_law_leaf K) [] E0 (tCons (tVar 0) (tCons (tVar 2) (tCons (tVar 3) tNil)))) D [some (.ref f), some (nV r), some (.ref nw), some (.ref na), some (.str wd), none, none] H2 := fun D eD => by
    refine ⟨_, rfl, _, rfl, _, rfl, f, c, nw, na, now, names, rfl, hnw2, hna2, ln, la, gw, ga, F2, fun v t H3 ht ok lp F3 B3 => ?_⟩
    rw [eD]
    exact q v t H3 ht ok (by omega) F3 (B2.trans B3)
  refine ⟨_, rfl, rfl, _, rfl, if_str (fun e => ?_) (fun e => ?_)⟩
  · exact if_bl (fun _ => leaf _ rfl) (fun z => nomatch z)
  refine ⟨_, rfl, _, _, rfl, rfl, _, rfl, if_bl (fun _ => leaf _ rfl) (fun c4 => ?_)⟩
  have c4 : ¬ ((r : Nat) : Int) < 4 := of_decide_eq_false c4
  obtain ⟨m, rfl⟩ : ∃ m, n = m + 1 := ⟨n - 1, by omega⟩
  refine ⟨_, rfl, rfl, _, rfl, if_str (fun et => ?_) (fun et => ?_)⟩
  · refine ⟨_, rfl, _, rfl, f, c, 19, rfl, by decide, by decide, F2, fun v2 H3 v20 v21 F3 B3 => ⟨_, _, rfl, rfl, _, rfl, _, rfl, _, _, rfl, rfl, _, rfl, _, rfl, f, c, nw, na, now, names, r - 1, ?_, by omega, by omega, by omega, B3 _ _ hnw2 nwf, B3 _ _ hna2 naf, ln, la, gw, ga, F3, fun v3 t H4 ht ok lp F4 B4 => ⟨(by show 3 ≤ sizeLine; decide), fun p np => ?_⟩⟩⟩
    · rw [show nV (r - 1) = V.int (((r : Nat) : Int) - 1) from congrArg V.int (by omega)]
      rfl
    · have := parts_one t
      refine q (.ref p) (.tm (v2 - 9) t) _ ⟨p, v3, rfl, ?_, ht.keep (TK.new np)⟩ ⟨ok.ln, ⟨by omega, by omega⟩, ok.sm⟩ ?_ (F4.new np) (((B2.trans B3).trans B4).new np)
      · rw [upd_same, et]
      · show (t.parts ++ [_]).length ≤ r
        rw [List.length_append]
        show _ + 1 ≤ r
        omega
  refine ⟨_, rfl, _, rfl, _, _, rfl, rfl, f, c, ((r - 3 : Nat) : Int), ?_, by omega, log_small (by omega), F2, fun v2 H3 v20 v21 F3 B3 => ⟨_, _, rfl, rfl, ?_⟩⟩
  · rw [show V.int ((r - 3 : Nat) : Int) = V.int (((r : Nat) : Int) - 3) from congrArg V.int (by omega)]
    rfl
  have hnw3 := B3 _ _ hnw2 nwf
  have hna3 := B3 _ _ hna2 naf
  replace B3 := B2.trans B3
  obtain ⟨o, eo, o1, o2⟩ : ∃ o : Nat, 1 + v2 = ((o : Nat) : Int) ∧ 1 ≤ o ∧ o + 3 ≤ r := ⟨(1 + v2).toNat, by omega, by omega, by omega⟩
  have ev : V.int (1 + v2) = nV o := congrArg V.int eo
  have ea : [V.ref f, V.int (1 + v2), V.ref nw, V.ref na] = [V.ref f, nV o, V.ref nw, V.ref na] := by rw [ev]
  refine ⟨_, rfl, rfl, _, rfl, if_str (fun ep => ?_) (fun ep => ?_)⟩
  · refine ⟨_, rfl, _, rfl, _, rfl, _, rfl, f, c, nw, na, now, names, o, ea, by omega, by omega, by omega, hnw3, hna3, ln, la, gw, ga, F3, fun va ta H4 hta oka lpa F4 B4 => ?_⟩
    have hnw4 := B4 _ _ hnw3 nwf
    have hna4 := B4 _ _ hna3 naf
    refine ⟨_, rfl, _, rfl, _, rfl, f, c, nw, na, now, names, rfl, hnw4, hna4, ln, la, gw, ga, F4, fun vb tb H5 htb okb lpb F5 B5 => ?_⟩
    refine ⟨(by show 2 ≤ sizeLine; decide), fun pl npl => ?_⟩
    have plf : pl ≠ f := F5.ne npl
    have s6 : Same H5 (upd H5 pl (.lst [va, vb])) := same_new npl
    have hpl : (upd H5 pl (.lst [va, vb])) pl = some (.lst [va, vb]) := upd_same
    have F6 := F5.new (o := .lst [va, vb]) npl
    replace hta := (hta.keep (TK.but F4 B5)).keep (TK.same s6)
    replace htb := htb.keep (TK.same s6)
    have B6 := ((B3.trans B4).trans B5).same s6
    generalize upd H5 pl (.lst [va, vb]) = H6 at s6 hpl F6 hta htb B6 ⊢
    have eb : [V.ref f, V.int (((r : Nat) : Int) - 2 - (1 + v2)), V.ref nw, V.ref na] = [V.ref f, nV (r - 2 - o), V.ref nw, V.ref na] := by
      rw [show nV (r - 2 - o) = V.int (((r : Nat) : Int) - 2 - (1 + v2)) from congrArg V.int (by omega)]
    refine ⟨_, rfl, (by show 1 ≤ sizeLine; decide), fun pt npt => ?_⟩
    have st : Same H6 (upd H6 pt (.tup [.str wd])) := same_new npt
    have hpt : (upd H6 pt (.tup [.str wd])) pt = some (.tup [.str wd]) := upd_same
    have ptf : pt ≠ f := F6.ne npt
    replace F6 := F6.new (o := .tup [.str wd]) npt
    replace hta := hta.keep (TK.same st)
    replace htb := htb.keep (TK.same st)
    replace hpl := st _ _ hpl
    replace B6 := B6.same st
    generalize upd H6 pt (.tup [.str wd]) = H6 at st hpt hpl F6 hta htb B6 ⊢
    refine ⟨_, rfl, _, rfl, _, rfl, _, rfl, _, _, rfl, rfl, _, rfl, _, _, rfl, rfl, _, rfl, _, rfl, f, c, nw, na, now, names, r - 2 - o, eb, by omega, by omega, by omega, B6 _ _ hnw nwf, B6 _ _ hna naf, ln, la, gw, ga, F6, fun vc tc H7 htc okc lpc F7 B7 => ?_⟩
    have hpl7 := B7 _ _ hpl plf
    refine ⟨(by show 1 ≤ sizeLine; decide), fun p8 np8 => ?_⟩
    have hp8 : (upd H7 p8 (.lst [vc])) p8 = some (.lst [vc]) := upd_same
    have s8 : Same H7 (upd H7 p8 (.lst [vc])) := same_new np8
    have F8 := F7.new (o := .lst [vc]) np8
    replace hta := (hta.keep (TK.but F6 B7)).keep (TK.same s8)
    replace htb := (htb.keep (TK.but F6 B7)).keep (TK.same s8)
    replace htc := htc.keep (TK.same s8)
    have B8 := (B6.trans B7).same s8
    generalize upd H7 p8 (.lst [vc]) = H8 at s8 hp8 F8 hta htb htc B8 ⊢
    refine ⟨pl, p8, _, _, rfl, rfl, s8 _ _ hpl7, hp8, (by show 3 ≤ sizeLine; decide), fun p9 np9 => ?_⟩
    have p9f : p9 ≠ f := F8.ne np9
    have hp9 : (upd H8 p9 (.lst ([va, vb] ++ [vc]))) p9 = some (.lst [va, vb, vc]) := upd_same
    have s9 : Same H8 (upd H8 p9 (.lst ([va, vb] ++ [vc]))) := same_new np9
    have F9 := F8.new (o := .lst ([va, vb] ++ [vc])) np9
    generalize upd H8 p9 (.lst ([va, vb] ++ [vc])) = H9 at s9 hp9 F9 ⊢
    have al : All2 (TrAt H9) [va, vb, vc] [ta, tb, tc] := .cons (hta.keep (TK.same s9)) (.cons (htb.keep (TK.same s9)) (.cons (htc.keep (TK.same s9)) .nil))
    refine ⟨f, c, p9, [va, vb, vc], rfl, SqL.of hp9, p9f, (by show 3 ≤ 500; decide), F9, fun p10 ys H10 pm np10 hp10 F10 B10 => ?_⟩
    have al10 : All2 (TrAt H10) [va, vb, vc] [ta, tb, tc] := al.imp fun _ _ z => z.keep (TK.but F9 B10)
    obtain ⟨ts, pt2, al2⟩ := All2.perm pm al10
    have l3 : ts.length = 3 := pt2.length_eq
    obtain ⟨ka, kb, kc, rfl⟩ : ∃ a b c, ts = [a, b, c] := by
      match ts, l3 with
      | [a, b, c], _ => exact ⟨a, b, c, rfl⟩
    have okk : ∀ t ∈ [ka, kb, kc], TOk now names t := fun t ht => by
      rcases List.mem_cons.mp (pt2.mem_iff.mp ht) with rfl | ht
      · exact oka
      rcases List.mem_cons.mp ht with rfl | ht
      · exact okb
      rw [List.mem_singleton.mp ht]
      exact okc
    have sum : ka.parts.length + kb.parts.length + kc.parts.length = ta.parts.length + tb.parts.length + tc.parts.length := by
      have := (pt2.map fun t => t.parts.length).sum_nat
      simp only [List.map_cons, List.map_nil, List.sum_cons, List.sum_nil] at this
      omega
    refine ⟨p10, ys, rfl, .inl ⟨SqL.of hp10, fun p11 np11 => ?_⟩⟩
    have s11 : Same H10 (upd H10 p11 (.tup ys)) := same_new np11
    have hp11 : (upd H10 p11 (.tup ys)) p11 = some (.tup ys) := upd_same
    have F11 := F10.new (o := .tup ys) np11
    have B11 := ((B8.same s9).trans B10).same s11
    have al11 : All2 (TrAt (upd H10 p11 (.tup ys))) ys [ka, kb, kc] := al2.imp fun _ _ z => z.keep (TK.same s11)
    have hpt11 := s11 _ _ (B10 _ _ (s9 _ _ (s8 _ _ (B7 _ _ hpt ptf))) ptf)
    generalize upd H10 p11 (.tup ys) = H11 at s11 hp11 F11 B11 al11 hpt11 ⊢
    have ly : ys.length = 3 := pm.length_eq
    refine catA_of hpt11 hp11 (by rw [ly]; show 4 ≤ 1000; decide) fun p12 H12 h12 s12 => ?_
    have al12 := al11.imp fun _ _ z => TrAt.keep (TK.same s12) z
    obtain ⟨ya, yb, yc, rfl⟩ : ∃ a b c, ys = [a, b, c] := by
      match ys, ly with
      | [a, b, c], _ => exact ⟨a, b, c, rfl⟩
    have o1 := okk ka (by simp)
    have o2 := okk kb (by simp)
    have o3 := okk kc (by simp)
    refine q (.ref p12) (.o3 ka kb kc) _ (TrAt.mk ?_ al12) ⟨fun z hz => ?_, o1.sm, o2.sm, o3.sm⟩ ?_ (F11.same s12) (B11.same s12)
    · rw [h12, ep]; rfl
    · rcases List.mem_append.mp hz with hz | hz
      · rcases List.mem_append.mp hz with hz | hz
        · exact o1.ln z hz
        · exact o2.ln z hz
      · exact o3.ln z hz
    · show (ka.parts ++ kb.parts ++ kc.parts ++ [_]).length ≤ r
      rw [List.length_append, List.length_append, List.length_append]
      show _ + 1 ≤ r
      omega
  · obtain ⟨w2, rfl⟩ : ∃ w2 : W2, wd = w2.s := by
      unfold wsT at mw
      simp only [List.mem_cons, List.not_mem_nil, or_false] at mw
      rcases mw with h | h | h | h | h | h | h | h | h | h
      · exact absurd h e
      · exact absurd h e
      · exact absurd h et
      · exact ⟨.sum, h⟩
      · exact ⟨.gap, h⟩
      · exact ⟨.below, h⟩
      · exact ⟨.most, h⟩
      · exact ⟨.least, h⟩
      · exact absurd h ep
      · exact ⟨.sum, h⟩
    refine ⟨_, rfl, _, rfl, _, rfl, _, rfl, _, rfl, f, c, nw, na, now, names, o, ea, by omega, by omega, by omega, hnw3, hna3, ln, la, gw, ga, F3, fun va ta H4 hta oka lpa F4 B4 => ?_⟩
    have hnw4 := B4 _ _ hnw3 nwf
    have hna4 := B4 _ _ hna3 naf
    have eb : [V.ref f, V.int (((r : Nat) : Int) - 1 - (1 + v2)), V.ref nw, V.ref na] = [V.ref f, nV (r - 1 - o), V.ref nw, V.ref na] := by
      rw [show nV (r - 1 - o) = V.int (((r : Nat) : Int) - 1 - (1 + v2)) from congrArg V.int (by omega)]
    refine ⟨_, rfl, _, rfl, _, _, rfl, rfl, _, rfl, _, _, rfl, rfl, _, rfl, _, rfl, f, c, nw, na, now, names, r - 1 - o, eb, by omega, by omega, by omega, hnw4, hna4, ln, la, gw, ga, F4, fun vb tb H5 htb okb lpb F5 B5 => ⟨(by show 3 ≤ sizeLine; decide), fun p np => ?_⟩⟩
    have hta5 := (hta.keep (TK.but F4 B5)).keep (TK.new (o := .tup [.str w2.s, va, vb]) np)
    refine q (.ref p) (.o2 w2 ta tb) _ ⟨p, va, vb, rfl, upd_same, hta5, htb.keep (TK.new np)⟩ ⟨fun z hz => ?_, oka.sm, okb.sm⟩ ?_ (F5.new np) (((B3.trans B4).trans B5).new np)
    · rcases List.mem_append.mp hz with hz | hz
      · exact oka.ln z hz
      · exact okb.ln z hz
    · show (ta.parts ++ tb.parts ++ [_]).length ≤ r
      rw [List.length_append, List.length_append]
      show _ + 1 ≤ r
      omega
theorem tree_all {C : Addr} (T : Top w K mg C) : ∀ (n : Nat) (f : Addr) (fd : FuncData), Fun K "_law_tree" "_law_tree" s_law_tree f fd → FnOk P w K mg base CX0 (n + 3) f fd ["_law_flow_here", "_law_room", "_law_now", "_law_names_here"] (spT K n)
  | 0, f, fd, F => by
    refine F.ok sc_law_tree (fun vs H Q E h => h.elim) (fun cdv A outer s H vs Q E hr h => h.elim)
  | n + 1, f, fd, F => tree_step T n (tree_all T n) F
abbrev sp_law_tree (K : PySem.W.Frag) : Sp := spT K 8
theorem ok_law_tree {C : Addr} {f : Addr} {fd : FuncData} (F : Fun K "_law_tree" "_law_tree" s_law_tree f fd) (T : Top w K mg C) : FnOk P w K mg base CX0 11 f fd ["_law_flow_here", "_law_room", "_law_now", "_law_names_here"] (sp_law_tree K) := tree_all T 8 f fd F
end
/-- the word at a tree's head -/
def Tr.wd : Tr → Str
  | .nm _ _ => "name"
  | .no _ => "number"
  | .tm _ _ => "times"
  | .o2 w _ _ => w.s
  | .o3 _ _ _ => "pick"
theorem Tr.hd_wd (t : Tr) : ∃ r, t.hd = .str t.wd :: r ∧ (∀ x ∈ r, (∃ z, x = V.str z) ∨ ∃ i, x = V.int i) := by
  cases t with
  | nm n k => exact ⟨_, rfl, fun x hx => by
      rcases List.mem_cons.mp hx with rfl | hx
      · exact .inl ⟨_, rfl⟩
      · exact .inr ⟨_, List.mem_singleton.mp hx⟩⟩
  | no i => exact ⟨_, rfl, fun x hx => .inr ⟨_, List.mem_singleton.mp hx⟩⟩
  | tm k t => exact ⟨_, rfl, fun x hx => .inr ⟨_, List.mem_singleton.mp hx⟩⟩
  | o2 w a b => exact ⟨[], rfl, fun x hx => by cases hx⟩
  | o3 a b c => exact ⟨[], rfl, fun x hx => by cases hx⟩
theorem Tr.wd_nm (t : Tr) : t.isNm = decide (t.wd = "name") := by
  cases t with
  | o2 w a b => cases w <;> rfl
  | _ => rfl
/-! ### what the law sees in trees -/
def Tr.dep : Tr → Nat
  | .nm _ _ => 1
  | .no _ => 1
  | .tm _ t => t.dep + 1
  | .o2 _ a b => max a.dep b.dep + 1
  | .o3 a b c => max a.dep (max b.dep c.dep) + 1
theorem Tr.dep_parts (t : Tr) : t.dep ≤ t.parts.length := by
  induction t with
  | nm n k => exact Nat.le_refl _
  | no i => exact Nat.le_refl _
  | tm k t ih => simp only [Tr.dep, Tr.parts, List.length_append]; show _ ≤ _ + 1; omega
  | o2 w a b i1 i2 => simp only [Tr.dep, Tr.parts, List.length_append]; show _ ≤ _ + 1; omega
  | o3 a b c i1 i2 i3 => simp only [Tr.dep, Tr.parts, List.length_append]; show _ ≤ _ + 1; omega
theorem Tr.dep_kid {t u : Tr} (h : u ∈ t.kids) : u.dep + 1 ≤ t.dep := by
  cases t with
  | nm n k => cases h
  | no i => cases h
  | tm k t => rw [List.mem_singleton.mp h]; exact Nat.le_refl _
  | o2 w a b =>
    simp only [Tr.kids, List.mem_cons, List.not_mem_nil, or_false] at h
    simp only [Tr.dep]
    rcases h with rfl | rfl <;> omega
  | o3 a b c =>
    simp only [Tr.kids, List.mem_cons, List.not_mem_nil, or_false] at h
    simp only [Tr.dep]
    rcases h with rfl | rfl | rfl <;> omega
theorem Tr.leans_kids {t : Tr} (h : t.isNm = false) : t.leans = t.kids.flatMap Tr.leans := by
  cases t with
  | nm n k => cases h
  | no i => rfl
  | tm k t => simp [Tr.leans, Tr.kids]
  | o2 w a b => simp [Tr.leans, Tr.kids]
  | o3 a b c => simp [Tr.leans, Tr.kids]
def Tr.isNo : Tr → Bool
  | .no _ => true
  | _ => false
theorem Tr.wd_no (t : Tr) : t.isNo = decide (t.wd = "number") := by
  cases t with
  | o2 w a b => cases w <;> rfl
  | _ => rfl
/-! ### formulas drawn -/
abbrev stV (tf : Str → V) (ns : List Str) : List (Key × V) := ns.map fun z => (Sum.inr z, tf z)
theorem stV_val {tf : Str → V} {ns : List Str} (z : Str) : valV (stV tf ns) (Sum.inr z) = if z ∈ ns then some (tf z) else none := by
  induction ns with
  | nil => rfl
  | cons x r ih =>
    unfold valV at ih ⊢
    show Option.map _ (List.find? _ ((Sum.inr x, tf x) :: stV tf r)) = _
    rw [List.find?_cons]
    by_cases h : x = z
    · subst h
      rw [decide_eq_true rfl, if_pos (List.mem_cons_self ..)]; rfl
    · rw [decide_eq_false fun k => h (Sum.inr.inj k)]
      have : (z ∈ x :: r) ↔ z ∈ r := ⟨fun k => (List.mem_cons.mp k).resolve_left fun y => h y.symm, List.mem_cons_of_mem _⟩
      by_cases k : z ∈ r
      · rw [if_pos (this.mpr k)]
        rw [if_pos k] at ih
        exact ih
      · rw [if_neg fun y => k (this.mp y)]
        rw [if_neg k] at ih
        exact ih
theorem stV_put (tf : Str → V) {ns : List Str} {z : Str} (h : z ∉ ns) (v : V) : putK (stV tf ns) (Sum.inr z) v = stV (fun y => if y = z then v else tf y) (ns ++ [z]) := by
  rw [putK_new _ (by rw [stV_val, if_neg h])]
  unfold stV
  rw [List.map_append]
  congr 1
  · refine List.map_congr_left fun y hy => ?_
    show (_, tf y) = (_, if y = z then v else tf y)
    rw [if_neg (show ¬ y = z from fun e => h (e ▸ hy))]
  · show [_] = [(_, if z = z then v else tf z)]
    rw [if_pos rfl]
/-- what is so of formulas that the law draws -/
structure GFm (most : Nat) (F : Fm) : Prop where
  li : F.ins.length ≤ 4
  lr : F.rules.length ≤ most
  lw : F.was.length ≤ 9
  lo : F.outs.length ≤ 4
  nd : F.own.Nodup
  wd : ∀ z ∈ F.own, Wd 6 z ∧ z ∉ takL
  kn : F.kept.Nodup
  ko : ∀ z ∈ F.kept, z ∈ F.own
  th : ∀ p ∈ F.was, p.2.length ≤ 7 ∧ ∀ x ∈ p.2, Small x
  oo : ∀ z ∈ F.outs, z ∈ F.own
  tr : ∀ p ∈ F.rules, p.2.parts.length ≤ 10 ∧ p.2.small ∧ ∀ q ∈ p.2.leans, q.1 ∈ F.own ∧ q.2 ≤ 6
  rk : ∃ rk : Str → Nat, ∀ p ∈ F.rules, ∀ q ∈ p.2.leans, q.2 = 0 → rk q.1 < rk p.1
/-- the names of what comes in and of the rules, as the law draws them -/
structure Dr (most : Nat) (ins own : List Str) : Prop where
  li : ins.length ≤ 4
  lo : own.length ≤ most
  nd : (ins ++ own).Nodup
  wd : ∀ z ∈ ins ++ own, Wd 6 z ∧ z ∉ takL
theorem perm_strs {ys : List V} {own : List Str} (p : ys.Perm (own.map V.str)) : ∃ zs : List Str, ys = zs.map V.str ∧ zs.Perm own := by
  have base : ∀ l : List Str, All2 (fun v z => v = V.str z) (l.map V.str) l := by
    intro l
    induction l with
    | nil => exact .nil
    | cons x r ih => exact .cons rfl ih
  obtain ⟨zs, pz, al⟩ := All2.perm p (base own)
  refine ⟨zs, ?_, pz⟩
  clear pz p
  induction al with
  | nil => rfl
  | cons e _ ih => rw [List.map_cons, e, ih]
section
variable {P : Program} {w : World} {K : PySem.W.Frag} {mg : Str → Option Value} {base : Heap}
def sp_law_formulas (K : PySem.W.Frag) : Sp := fun vs H Q _ => ∃ (f c : Addr) (most : Nat), vs = [.ref f, nV most] ∧ most ≤ 5 ∧ Flow H f c ∧ ∀ (r : Addr) (F : Fm) (H' : Hp), FmAt H' r F → GFm most F → Flow H' f c → But f H H' → Q (.ref r) H'
theorem ok_law_formulas {f : Addr} {fd : FuncData} (F : Fun K "_law_formulas" "_law_formulas" s_law_formulas f fd) {C : Addr} (T : Top w K mg C) : FnOk P w K mg base CX0 12 f fd ["_law_flow_here", "_law_most"] (sp_law_formulas K) := by
  obtain ⟨f_law_names, fd_law_names, F_law_names, b_law_names, m_law_names⟩ := T.d_law_names
  have G_law_names := ok_law_names (P := P) (w := w) (base := base) F_law_names T
  obtain ⟨f_law_tree, fd_law_tree, F_law_tree, b_law_tree, m_law_tree⟩ := T.d_law_tree
  have G_law_tree := ok_law_tree (P := P) (w := w) (base := base) F_law_tree T
  obtain ⟨f_law_pick, fd_law_pick, F_law_pick, b_law_pick, m_law_pick⟩ := T.d_law_pick
  have G_law_pick := ok_law_pick (P := P) (w := w) (base := base) F_law_pick T
  obtain ⟨f_law_shuffled, fd_law_shuffled, F_law_shuffled, b_law_shuffled, m_law_shuffled⟩ := T.d_law_shuffled
  have G_law_shuffled := ok_law_shuffled (P := P) (w := w) (base := base) F_law_shuffled T
  obtain ⟨f_law_thing, fd_law_thing, F_law_thing, b_law_thing, m_law_thing⟩ := T.d_law_thing
  have G_law_thing := ok_law_thing (P := P) (w := w) (base := base) F_law_thing T
  refine F.ok sc_law_formulas (fun vs H Q E h => ?_) (fun cdv A outer s H vs Q E hr h => ?_)
  · obtain ⟨f, c, most, rfl, _⟩ := h
    rfl
  obtain ⟨f, c, most, rfl, m5, hF, q⟩ := h
  let sg : Addr → Addr → Addr → Addr → Option V → Option V → Option V → Option V → Option V → Option V → L2.St := fun nl il ol el v6 v7 v8 v9 v10 v11 => [some (.ref f), some (nV most), some (.ref nl), some (.ref il), some (.ref ol), some (.ref el), v6, v7, v8, v9, v10, v11]
  let Base : Addr → Addr → List Str → List Str → Hp → Prop := fun il el ins own H' => H' il = some (.lst (ins.map V.str)) ∧ H' el = some (.lst ((ins ++ own).map V.str)) ∧ Dr most ins own ∧ Flow H' f c ∧ But f H H' ∧ H il = none ∧ H el = none
  let R1 : TS := fun D' σ' H' => D'.rt = Q ∧ ∃ (nl il ol el td : Addr) (ins own : List Str), σ' = sg nl il ol el (some (.ref td)) none none none none none ∧ Base il el ins own H' ∧ H' ol = some (.lst (own.map V.str)) ∧ H' td = some (.dK []) ∧ H td = none
  let R2 : TS := fun D' σ' H' => D'.rt = Q ∧ ∃ (nl il ol el td : Addr) (ins own : List Str) (v7 v8 : Option V) (tf : Str → V) (tt : Str → Tr), σ' = sg nl il ol el (some (.ref td)) v7 v8 none none none ∧ Base il el ins own H' ∧ H' ol = some (.lst (own.map V.str)) ∧ H' td = some (.dK (stV tf own)) ∧ ∀ (j : Nat) (z : Str), own[j]? = some z → TrAt H' (tf z) (tt z) ∧ TOk (ins ++ own.take j) (ins ++ own) (tt z) ∧ (tt z).parts.length ≤ 10
  let R3 : TS := fun D' σ' H' => D'.rt = Q ∧ ∃ (nl il ol el rl : Addr) (ins own : List Str) (v6 v7 v8 : Option V) (rv : List V) (rules : List (Str × Tr)), σ' = sg nl il ol el v6 v7 v8 (some (.ref rl)) none none ∧ Base il el ins own H' ∧ H' rl = some (.lst rv) ∧ All2 (RlAt H') rv rules ∧ (rules.map (·.1)).Perm own ∧ ∀ p ∈ rules, ∃ j : Nat, own[j]? = some p.1 ∧ TOk (ins ++ own.take j) (ins ++ own) p.2 ∧ p.2.parts.length ≤ 10
  let R4 : TS := fun D' σ' H' => D'.rt = Q ∧ ∃ (nl il ol el rl wl : Addr) (ins own : List Str) (v6 v7 v8 : Option V) (rv wv : List V) (rules : List (Str × Tr)) (was : List (Str × List Int)), σ' = sg nl il ol el v6 v7 v8 (some (.ref rl)) (some (.ref wl)) none ∧ Base il el ins own H' ∧ H' rl = some (.lst rv) ∧ All2 (RlAt H') rv rules ∧ (rules.map (·.1)).Perm own ∧ (∀ p ∈ rules, ∃ j : Nat, own[j]? = some p.1 ∧ TOk (ins ++ own.take j) (ins ++ own) p.2 ∧ p.2.parts.length ≤ 10) ∧
    H' wl = some (.lst wv) ∧ All2 (WaAt H') wv was ∧ (was.map (·.1)).Sublist (ins ++ own) ∧ (∀ p ∈ was, p.2.length ≤ 7 ∧ ∀ x ∈ p.2, Small x)
  refine ⟨_, (pss_cons (ps_set (i := 2) sc_law_formulas.nd rfl (Or.inl rfl) (pe_call G_law_names (hr.mono (by decide)) (by rfl) m_law_names F_law_names.kp b_law_names .nil pass0 (pa_cons (pv 0) (pa_cons pe_int pa_nil))))
      (pss_cons (ps_set (i := 3) sc_law_formulas.nd rfl (Or.inl rfl) (pe_slice (sl_listK K rfl) (pv 2) po_none (po_some (pe_call G_law_pick (hr.mono (by decide)) (by rfl) m_law_pick F_law_pick.kp b_law_pick .nil pass0 (pa_cons (pv 0) (pa_cons pe_int pa_nil))))))
      (pss_cons (ps_set (i := 4) sc_law_formulas.nd rfl (Or.inl rfl) (pe_slice (sl_listK K rfl) (pv 2) (po_some pe_int) (po_some (pe_op op_add pe_int (pe_call G_law_pick (hr.mono (by decide)) (by rfl) m_law_pick F_law_pick.kp b_law_pick .nil pass0 (pa_cons (pv 0) (pa_cons (pe_op op_add (pv 1) pe_int) pa_nil)))))))
      (pss_cons (ps_set (i := 5) sc_law_formulas.nd rfl (Or.inr rfl) (pe_op op_cat (pv 3) (pv 4)))
      (pss_cons (ps_set (i := 6) sc_law_formulas.nd rfl (Or.inr rfl) pe_dnewK)
      (PSs.to (pss_cons (ps_for PassesOwn.never rfl (pi_enumK K rfl (by rfl) T.m_enumerate (pa_cons (pv 4) pa_nil)) (pg_tupK K rfl rfl (pgs_cons (pg_name (i := 7) sc_law_formulas.nd rfl (Or.inl rfl)) (pgs_cons (pg_name (i := 8) sc_law_formulas.nd rfl (Or.inl rfl)) pgs_nil)))
        (pss_one (ps_dput (hu_of hr) (pv 6) (pv 8) (pe_call G_law_tree (hr.mono (by decide)) (by rfl) m_law_tree F_law_tree.kp b_law_tree .nil pass0 (pa_cons (pv 0) (pa_cons (pe_op op_add pe_int (pe_call G_law_pick (hr.mono (by decide)) (by rfl) m_law_pick F_law_pick.kp b_law_pick .nil pass0 (pa_cons (pv 0) (pa_cons pe_int pa_nil)))) (pa_cons (pe_op op_cat (pv 3) (pe_slice (sl_listK K rfl) (pv 4) po_none (po_some (pv 7)))) (pa_cons (pv 5) pa_nil))))) (by rfl))))
      (PSs.to (pss_cons (ps_setLc (i := 9) (own := [("_law_name", 8)]) (g := gName 8) (tt := tYes) (by rfl) sc_law_formulas.nd rfl rfl (sw_true rfl rfl rfl (by decide +kernel)) (pi_listK K rfl (pe_call G_law_shuffled (hr.mono (by decide)) (by rfl) m_law_shuffled F_law_shuffled.kp b_law_shuffled .nil pass0 (pa_cons (pv 0) (pa_cons (pv 4) pa_nil)))) (blkOk_by (own := [("_law_name", 8)]) (N := N_law_formulas) (sc := defScope s_law_formulas) (by decide +kernel)) (fun _ _ _ _ _ => (pg_name (i := 8) sc_law_formulas.nd rfl (Or.inl rfl))) (fun _ _ _ _ _ => pts_nil) (fun _ _ _ _ _ => (pe_tup (pa_cons (pv 8) (pa_cons (pe_dget (hu_of hr) (pv 6) (pv 8) (fun _ _ => rfl)) pa_nil)))))
      (PSs.to (pss_cons (ps_set (i := 10) sc_law_formulas.nd rfl (Or.inl rfl) (pe_lst pa_nil))
      (pss_cons (ps_for PassesOwn.never rfl (pi_listK K rfl (pv 5)) (pg_name (i := 8) sc_law_formulas.nd rfl (Or.inl rfl))
        (pss_one (ps_if (pt_cmpR op_eq (pe_call G_law_pick (hr.mono (by decide)) (by rfl) m_law_pick F_law_pick.kp b_law_pick .nil pass0 (pa_cons (pv 0) (pa_cons pe_int pa_nil))) pe_int (nomark _)) (pss_one (ps_expr (pe_bmK K rfl PySem.F.plainAttrs_list PySem.F.slot_list_append PySem.F.type_list_append mt_append (pv 10) (pa_cons (pe_tup (pa_cons (pv 8) (pa_cons (pe_callTy (call_tuple_ofK K rfl) (by rfl) T.m_tuple (by decide +kernel) (pa_cons (pe_lc (own := [("_law_k", 7)]) (g := gName 7) (tt := tYes) (by rfl) sc_law_formulas.nd (pi_range1 (by rfl) T.m_range (pa_cons (pe_call G_law_pick (hr.mono (by decide)) (by rfl) m_law_pick F_law_pick.kp b_law_pick .nil pass0 (pa_cons (pv 0) (pa_cons pe_int pa_nil))) pa_nil)) (blkOk_by (own := [("_law_k", 7)]) (N := N_law_formulas) (sc := defScope s_law_formulas) (by decide +kernel)) (fun _ _ _ _ _ => (pg_name (i := 7) sc_law_formulas.nd rfl (Or.inl rfl))) (fun _ _ _ _ _ => pts_nil) (fun _ _ _ _ _ => (pe_call G_law_thing (hr.mono (by decide)) (by rfl) m_law_thing F_law_thing.kp b_law_thing .nil pass0 (pa_cons (pv 0) pa_nil)))) pa_nil)) pa_nil))) pa_nil)))) pss_nil)))
      (PSs.to (pss_cons (ps_setLc (i := 11) (own := [("_law_k", 7)]) (g := gName 7) (by rfl) sc_law_formulas.nd rfl rfl (sw_true rfl rfl rfl (by decide +kernel)) (pi_range1 (by rfl) T.m_range (pa_cons (pe_call G_law_pick (hr.mono (by decide)) (by rfl) m_law_pick F_law_pick.kp b_law_pick .nil pass0 (pa_cons (pv 0) (pa_cons pe_int pa_nil))) pa_nil)) (blkOk_by (own := [("_law_k", 7)]) (N := N_law_formulas) (sc := defScope s_law_formulas) (by decide +kernel)) (fun _ _ _ _ _ => (pg_name (i := 7) sc_law_formulas.nd rfl (Or.inl rfl))) (fun _ _ _ _ _ => pts_one (pt_cmpR (op_neDK K rfl hr.units) (pv 5) (pe_lst pa_nil) (nomark _))) (fun _ _ _ _ _ => (pe_ix (ix_listK K rfl) (pv 5) (pe_call G_law_pick (hr.mono (by decide)) (by rfl) m_law_pick F_law_pick.kp b_law_pick .nil pass0 (pa_cons (pv 0) (pa_cons (pe_callB (call_len_seqK K rfl) (by rfl) T.m_len (by decide +kernel) (pa_cons (pv 5) pa_nil)) pa_nil))) (fun _ _ => rfl))))
      (pss_one (ps_ret (pe_tup (pa_cons (pe_callTy (call_tuple_ofK K rfl) (by rfl) T.m_tuple (by decide +kernel) (pa_cons (pv 3) pa_nil)) (pa_cons (pe_callTy (call_tuple_ofK K rfl) (by rfl) T.m_tuple (by decide +kernel) (pa_cons (pe_call G_law_shuffled (hr.mono (by decide)) (by rfl) m_law_shuffled F_law_shuffled.kp b_law_shuffled .nil pass0 (pa_cons (pv 0) (pa_cons (pv 10) pa_nil))) pa_nil)) (pa_cons (pe_callTy (call_tuple_ofK K rfl) (by rfl) T.m_tuple (by decide +kernel) (pa_cons (pv 9) pa_nil)) (pa_cons (pe_callTy (call_tuple_ofK K rfl) (by rfl) T.m_tuple (by decide +kernel) (pa_cons (pv 11) pa_nil)) pa_nil)))))))) R4 ?tail4))) R3 ?tail3)) R2 ?tail2)) R1 ?tail1)))))), ?_⟩
  case tail4 =>
    rintro D' σ' H1 ⟨eD, nl, il, ol, el, rl, wl, ins, own, v6, v7, v8, rv, wv, rules, was, rfl, ⟨hil, hel, dr, F1, B1, nil0, nel0⟩, hrl, alr, pmr, ru, hwl, alw, sub, wth⟩
    have elf := F1.neS hel
    have ilf := F1.neS hil
    have lins := dr.li
    have lown := dr.lo
    have lrules : rules.length = own.length := by
      have := pmr.length_eq
      rwa [List.length_map] at this
    have notf : ∀ {p : Addr} {xs : List V}, H1 p = some (.lst xs) → (∀ x ∈ xs, ∃ (a : Addr) (ys : List V), x = .ref a ∧ H1 a = some (.tup ys)) → p ≠ f := fun {p xs} e all z => by
      obtain ⟨ns, i, a, q, r, e1, e2, _⟩ := F1
      rw [z, e1] at e
      obtain rfl := HO.lst.inj (Option.some.inj e)
      obtain ⟨b, ys, eb, e3⟩ := all _ (List.mem_cons_self ..)
      cases eb
      rw [e2] at e3
      cases e3
    have rlf : rl ≠ f := notf hrl fun x hx => by
      obtain ⟨j, ej⟩ := List.getElem?_of_mem hx
      obtain ⟨p, _, t, y, rfl, e, _⟩ := alr.getL ej
      exact ⟨t, _, rfl, e⟩
    have wlf : wl ≠ f := notf hwl fun x hx => by
      obtain ⟨j, ej⟩ := List.getElem?_of_mem hx
      obtain ⟨p, _, t, y, rfl, e, _⟩ := alw.getL ej
      exact ⟨t, _, rfl, e⟩
    refine ⟨_, rfl, f, c, 5, rfl, by decide, by decide, F1, fun u H2 u0 u1 F2 B2 => ⟨_, rfl, by omega, by omega, fun D nD => ?_⟩⟩
    have Df : D ≠ f := F2.ne nD
    have Dc : D ≠ c := F2.nec nD
    have hel2 := B2 _ _ hel elf
    refine lc_range (lo := 0) (n := u.toNat) (fun k H9 => ∃ os : List Str, H9 D = some (.lst (os.map V.str)) ∧ os.length ≤ k ∧ (∀ x ∈ os, x ∈ ins ++ own) ∧ Flow H9 f c ∧ But f H2 H9) ⟨[], upd_same, Nat.le_refl _, (fun _ y => by cases y), F2.new nD, But.refl.new nD⟩ ?_ ?_
    · rintro k H9 hk ⟨os, hD, lo, oin, F9, B9⟩
      have hel9 := B9 _ _ hel2 elf
      refine ⟨rfl, ?_⟩
      refine ⟨_, rfl, (by show 0 ≤ sizeLine; decide), fun p1 np1 => ?_⟩
      have s10 : Same H9 (upd H9 p1 (.lst [])) := same_new np1
      have hp1 : (upd H9 p1 (.lst [])) p1 = some (.lst []) := upd_same
      have F10 := F9.new (o := .lst []) np1
      have hD10 := s10 _ _ hD
      have hel10 := s10 _ _ hel9
      generalize upd H9 p1 (.lst []) = H10 at s10 hp1 F10 hD10 hel10 ⊢
      have B10 := B9.same s10
      refine ⟨_, _, .lst (SqL.of hel10) (dp_strs _), .lst (SqL.of hp1) .nil, strs_shaped (m := 6) (fun z hz => (dr.wd z hz).1), rfl, _, rfl, ?_⟩
      have ee : PyData.eqv (.list ((ins ++ own).map PyData.str)) (.list []) = ((ins ++ own).map PyData.str).isEmpty := eqv_nil
      rw [ee]
      by_cases emp : ins ++ own = []
      · have en : (!((ins ++ own).map PyData.str).isEmpty) = false := by rw [emp]; rfl
        rw [en]
        refine if_bl (fun z => nomatch z) (fun _ => ?_)
        exact ⟨os, hD10, by omega, oin, F10, B10⟩
      · have pos : 0 < (ins ++ own).length := List.length_pos_iff.mpr emp
        have ne : (!((ins ++ own).map PyData.str).isEmpty) = true := by
          cases hl : ins ++ own with
          | nil => exact absurd hl emp
          | cons a b => rfl
        rw [ne]
        refine if_bl (fun _ => ?_) (fun z => nomatch z)
        refine ⟨_, rfl, _, rfl, _, rfl, el, _, rfl, .inl (SqL.of hel10), f, c, (((ins ++ own).length : Nat) : Int), ?_, by omega, log_small (by rw [List.length_append]; omega), F10, fun v2 H11 v20 v21 F11 B11 => ?_⟩
        · rw [List.length_map, List.append_nil]
        have hel11 := B11 _ _ hel10 elf
        obtain ⟨z, ez, mz⟩ := at_strs v20 v21
        refine ⟨el, _, v2, _, rfl, rfl, SqL.of hel11, ez, _, B11 _ _ hD10 Df, by rw [List.length_map]; exact small1000 (by omega), os ++ [z], by rw [upd_same, List.map_append]; rfl, by rw [List.length_append]; show _ + 1 ≤ _; omega, fun y hy => ?_, F11.lst Df Dc, (B10.trans B11).own nD⟩
        rcases List.mem_append.mp hy with h | h
        · exact oin y h
        · rw [List.mem_singleton.mp h]; exact mz
    · rintro H3 ⟨os, hD, lo, oin, F3, B3⟩
      have B13 := B2.trans B3
      have hil3 := B13 _ _ hil ilf
      refine ⟨_, rfl, il, _, rfl, .inl ⟨SqL.of hil3, fun a1 na1 => ?_⟩⟩
      have s4 : Same H3 (upd H3 a1 (.tup (ins.map V.str))) := same_new na1
      have ha1 : (upd H3 a1 (.tup (ins.map V.str))) a1 = some (.tup (ins.map V.str)) := upd_same
      have F4 := F3.new (o := .tup (ins.map V.str)) na1
      have B14 := B13.same s4
      have a1f : a1 ≠ f := F3.ne na1
      have hD4 := s4 _ _ hD
      generalize upd H3 a1 (.tup (ins.map V.str)) = H4 at s4 ha1 F4 B14 hD4 ⊢
      have lw := alw.length
      have lw2 := sub.length_le
      rw [List.length_map, List.length_append] at lw2
      refine ⟨_, rfl, _, rfl, f, c, wl, wv, rfl, SqL.of (B14 _ _ hwl wlf), wlf, by omega, F4, fun p ys H5 pm np hp F5 B5 => ?_⟩
      have alw5 : All2 (WaAt H5) wv was := alw.imp fun _ _ y => (y.keep (TK.but F1 B14)).keep (TK.but F4 B5)
      obtain ⟨was2, pw, alw6⟩ := All2.perm pm alw5
      have B15 := B14.trans B5
      refine ⟨p, ys, rfl, .inl ⟨SqL.of hp, fun a2 na2 => ?_⟩⟩
      have s6 : Same H5 (upd H5 a2 (.tup ys)) := same_new na2
      have ha2 : (upd H5 a2 (.tup ys)) a2 = some (.tup ys) := upd_same
      have F6 := F5.new (o := .tup ys) na2
      have B16 := B15.same s6
      have hrl6 := B16 _ _ hrl rlf
      have hD6 := s6 _ _ (B5 _ _ hD4 Df)
      have ha16 := s6 _ _ (B5 _ _ ha1 a1f)
      generalize upd H5 a2 (.tup ys) = H6 at s6 ha2 F6 B16 hrl6 hD6 ha16 ⊢
      refine ⟨_, rfl, rl, rv, rfl, .inl ⟨SqL.of hrl6, fun a3 na3 => ?_⟩⟩
      have s7 : Same H6 (upd H6 a3 (.tup rv)) := same_new na3
      have ha3 : (upd H6 a3 (.tup rv)) a3 = some (.tup rv) := upd_same
      have hD7 := s7 _ _ hD6
      generalize upd H6 a3 (.tup rv) = H7 at s7 ha3 hD7 ⊢
      refine ⟨_, rfl, D, _, rfl, .inl ⟨SqL.of hD7, fun a4 na4 => ⟨(by show 4 ≤ sizeLine; decide), fun r nr => ?_⟩⟩⟩
      have s8 : Same H7 (upd H7 a4 (.tup (os.map V.str))) := same_new na4
      have ha4 : (upd H7 a4 (.tup (os.map V.str))) a4 = some (.tup (os.map V.str)) := upd_same
      generalize upd H7 a4 (.tup (os.map V.str)) = H8 at s8 ha4 nr ⊢
      have s9 : Same H8 (upd H8 r (.tup [.ref a1, .ref a2, .ref a3, .ref a4])) := same_new nr
      have s69 := s7.trans (s8.trans s9)
      rw [eD]
      have ow : (ins ++ rules.map (·.1)).Perm (ins ++ own) := List.Perm.append_left ins pmr
      have mo : ∀ z, z ∈ ins ++ rules.map (·.1) ↔ z ∈ ins ++ own := fun z => ow.mem_iff
      refine q r ⟨ins, was2, rules, os⟩ _ ⟨a1, a2, a3, a4, ys, rv, upd_same, s69 _ _ ha16, s69 _ _ ha2, alw6.imp fun _ _ y => (y.keep (TK.same s6)).keep (TK.same s69), s9 _ _ (s8 _ _ ha3), alr.imp fun _ _ y => (y.keep (TK.but F1 B16)).keep (TK.same s69), s9 _ _ ha4⟩ ?_ (F6.same s69) ((B1.trans B16).same s69)
      have u5 : u.toNat ≤ 4 := by omega
      have m5' := m5
      have pk : (was2.map (·.1)).Perm (was.map (·.1)) := pw.map _
      refine ⟨dr.li, by show rules.length ≤ most; omega, by show was2.length ≤ 9; rw [pw.length_eq]; have := List.length_map (as := was) (·.1); omega, by show os.length ≤ 4; omega, ow.nodup_iff.mpr dr.nd, fun z hz => dr.wd z ((mo z).mp hz), pk.nodup_iff.mpr (List.Nodup.sublist sub dr.nd), fun z hz => (mo z).mpr (sub.subset (pk.mem_iff.mp hz)), fun p hp => wth p (pw.mem_iff.mp hp), fun z hz => (mo z).mpr (oin z hz), fun p hp => ?_, ?_⟩
      · obtain ⟨j, ej, tok, lp⟩ := ru p hp
        refine ⟨lp, tok.sm, fun q hq => ?_⟩
        rcases tok.ln q hq with ⟨e0, m⟩ | ⟨e0, e6, m⟩
        · refine ⟨(mo _).mpr ?_, by omega⟩
          rcases List.mem_append.mp m with m | m
          · exact List.mem_append.mpr (.inl m)
          · exact List.mem_append.mpr (.inr (List.mem_of_mem_take m))
        · exact ⟨(mo _).mpr m, e6⟩
      · have ndo : own.Nodup := (List.nodup_append.mp dr.nd).2.1
        have key : ∃ rk : Str → Nat, (∀ (j : Nat) (z : Str), own[j]? = some z → rk z = j + 1) ∧ ∀ z, z ∉ own → rk z = 0 := by
          classical
          refine ⟨fun z => if h : ∃ j, own[j]? = some z then Classical.choose h + 1 else 0, fun j z e => ?_, fun z hz => dif_neg fun ⟨j, e⟩ => hz (List.mem_of_getElem? e)⟩
          have h : ∃ j, own[j]? = some z := ⟨j, e⟩
          show (if h : ∃ j, own[j]? = some z then Classical.choose h + 1 else 0) = j + 1
          rw [dif_pos h, nodup_get ndo (Classical.choose_spec h) e]
        obtain ⟨rk, k1, k2⟩ := key
        refine ⟨rk, fun p hp q hq q0 => ?_⟩
        obtain ⟨j, ej, tok, lp⟩ := ru p hp
        rw [k1 j _ ej]
        rcases tok.ln q hq with ⟨_, m⟩ | ⟨e0, _, _⟩
        · rcases List.mem_append.mp m with m | m
          · have : q.1 ∉ own := fun y => (List.nodup_append.mp dr.nd).2.2 _ m _ y rfl
            rw [k2 _ this]
            omega
          · obtain ⟨i, hi, ei⟩ := List.mem_take_iff_getElem.mp m
            have := k1 i q.1 (List.getElem?_eq_some_iff.mpr ⟨by omega, ei⟩)
            omega
        · omega
  case tail3 =>
    rintro D' σ' H1 ⟨eD, nl, il, ol, el, rl, ins, own, v6, v7, v8, rv, rules, rfl, ⟨hil, hel, dr, F1, B1, nil0, nel0⟩, hrl, alr, pmr, ru⟩
    have elf := F1.neS hel
    have ilf := F1.neS hil
    have rlf : rl ≠ f := fun z => by
      obtain ⟨_, _, _, _, _, e1, _⟩ := F1
      rw [z, e1] at hrl
      obtain rfl := HO.lst.inj (Option.some.inj hrl)
      cases alr with
      | cons a b => cases b with
        | cons a2 b =>
          obtain ⟨_, _, e, _⟩ := a2
          cases e
    have lins := dr.li
    have lown := dr.lo
    refine ⟨(by show 0 ≤ sizeLine; decide), fun wl nwl => ?_⟩
    have wf : wl ≠ f := F1.ne nwl
    have wc : wl ≠ c := F1.nec nwl
    have nw0 : H wl = none := But.none B1 nwl wf
    have F2 := F1.new (o := .lst []) nwl
    have B2 := B1.new (o := .lst []) nwl
    have hwl2 : (upd H1 wl (.lst [])) wl = some (.lst []) := upd_same
    have hil2 := same_new (o := .lst []) nwl _ _ hil
    have hel2 := same_new (o := .lst []) nwl _ _ hel
    have hrl2 := same_new (o := .lst []) nwl _ _ hrl
    have nil2 : il ≠ wl := ne_of_none hil nwl
    have nel2 : el ≠ wl := ne_of_none hel nwl
    have nrl2 : rl ≠ wl := ne_of_none hrl nwl
    replace alr := alr.imp fun _ _ z => z.keep (TK.new (o := .lst []) nwl)
    generalize upd H1 wl (.lst []) = H2 at F2 B2 hwl2 hil2 hel2 hrl2 alr ⊢
    refine ⟨_, rfl, el, rfl, ⟨_, SqL.of hel2⟩, for_list (K := K) (a := el) (xs := (ins ++ own).map V.str) (fun i σ H5 => ∃ (v7 v8 : Option V) (wv : List V) (was : List (Str × List Int)), σ = sg nl il ol el v6 v7 v8 (some (.ref rl)) (some (.ref wl)) none ∧ Base il el ins own H5 ∧ H5 rl = some (.lst rv) ∧ All2 (RlAt H5) rv rules ∧ H5 wl = some (.lst wv) ∧ All2 (WaAt H5) wv was ∧ (was.map (·.1)).Sublist ((ins ++ own).take i) ∧ (∀ p ∈ was, p.2.length ≤ 7 ∧ ∀ x ∈ p.2, Small x)) ⟨v7, v8, [], [], rfl, ⟨hil2, hel2, dr, F2, B2, nil0, nel0⟩, hrl2, alr, hwl2, .nil, List.nil_sublist _, fun _ z => by cases z⟩ (fun i σ H5 _ ⟨_, _, _, _, _, b, _⟩ => SqL.of b.2.1) ?_ ?_⟩
    · rintro i v σ H5 hx ⟨v7, v8, wv, was, rfl, ⟨hil5, hel5, _, F5, B5, _, _⟩, hrl5, alr5, hwl5, alw5, sub, wth⟩
      rw [List.getElem?_map] at hx
      cases ez : (ins ++ own)[i]? with
      | none => rw [ez] at hx; cases hx
      | some z =>
      rw [ez] at hx
      obtain rfl : V.str z = v := Option.some.inj hx
      have tk : (ins ++ own).take (i + 1) = (ins ++ own).take i ++ [z] := by rw [List.take_add_one, ez]; rfl
      refine ⟨_, rfl, f, c, 2, rfl, by decide, by decide, F5, fun v H6 v0 v1 F6 B6 => ⟨rfl, _, rfl, if_bl (fun _ => ?_) (fun _ => ?_)⟩⟩
      · have hwl6 := B6 _ _ hwl5 wf
        refine ⟨_, rfl, .inl ⟨rfl, _, SqL.of hwl6⟩, _, rfl, _, rfl, f, c, 8, rfl, by decide, by decide, F6, fun u H7 u0 u1 F7 B7 => ⟨_, rfl, by omega, by omega, fun D nD => ?_⟩⟩
        have Df : D ≠ f := F7.ne nD
        have Dc : D ≠ c := F7.nec nD
        have hwl7 := B7 _ _ hwl6 wf
        have Dw : D ≠ wl := fun y => by rw [y, hwl7] at nD; cases nD
        refine lc_range (lo := 0) (n := u.toNat) (fun k H9 => ∃ ts : List Int, H9 D = some (.lst (ts.map V.int)) ∧ ts.length = k ∧ (∀ x ∈ ts, Small x) ∧ Flow H9 f c ∧ But f H7 H9) ⟨[], upd_same, rfl, (fun _ y => by cases y), F7.new nD, But.refl.new nD⟩ ?_ ?_
        · rintro k H9 hk ⟨ts, hD, lt, sm, F9, B9⟩
          refine ⟨rfl, yes_in ⟨_, rfl, f, c, rfl, F9, fun x H10 sx F10 B10 => ⟨ts.map V.int, B10 _ _ hD Df, by rw [List.length_map]; exact small1000 (by omega), ts ++ [x], by rw [upd_same, List.map_append]; rfl, by rw [List.length_append, lt]; rfl, fun y hy => ?_, F10.lst Df Dc, (B9.trans B10).own nD⟩⟩⟩
          rcases List.mem_append.mp hy with h | h
          · exact sm y h
          · rw [List.mem_singleton.mp h]; exact sx
        · rintro H9 ⟨ts, hD, lt, sm, F9, B9⟩
          refine ⟨D, _, rfl, .inl ⟨SqL.of hD, fun pt npt => ⟨(by show 2 ≤ sizeLine; decide), fun pu npu => ?_⟩⟩⟩
          have s10 : Same H9 (upd (upd H9 pt (.tup (ts.map V.int))) pu (.tup [V.str z, V.ref pt])) := (same_new npt).trans (same_new npu)
          have h1 : (upd (upd H9 pt (.tup (ts.map V.int))) pu (.tup [V.str z, V.ref pt])) pt = some (.tup (ts.map V.int)) := same_new npu _ _ upd_same
          have h2 : (upd (upd H9 pt (.tup (ts.map V.int))) pu (.tup [V.str z, V.ref pt])) pu = some (.tup [V.str z, V.ref pt]) := upd_same
          generalize upd (upd H9 pt (.tup (ts.map V.int))) pu (.tup [V.str z, V.ref pt]) = H10 at s10 h1 h2 ⊢
          have B510 : But f H5 H10 := ((B6.trans B7).trans B9).same s10
          have hwl10 := B510 _ _ hwl5 wf
          have k10 : TK H5 (upd H10 wl (.lst (wv ++ [.ref pu]))) := (TK.but F5 B510).trans (TK.lst hwl10)
          have lw := alw5.length
          have lw2 := sub.length_le
          rw [List.length_map, List.length_take, List.length_append] at lw2
          refine ⟨wl, _, _, rfl, rfl, hwl10, small1000 (by omega), _, _, wv ++ [.ref pu], was ++ [(z, ts)], rfl, ⟨by rw [upd_ne nil2]; exact B510 _ _ hil5 ilf, by rw [upd_ne nel2]; exact B510 _ _ hel5 elf, dr, (F9.same s10).lst wf wc, (B5.trans B510).own nw0, nil0, nel0⟩, by rw [upd_ne nrl2]; exact B510 _ _ hrl5 rlf, alr5.imp fun _ _ y => y.keep k10, upd_same, ?_, ?_, ?_⟩
          · refine (alw5.imp fun _ _ y => y.keep k10).snoc ⟨pu, pt, rfl, TK.lst hwl10 _ _ h2, TK.lst hwl10 _ _ h1⟩
          · rw [tk, List.map_append]
            exact sub.append (List.Sublist.refl _)
          · intro p hp
            rcases List.mem_append.mp hp with y | y
            · exact wth p y
            · rw [List.mem_singleton.mp y]
              exact ⟨by show ts.length ≤ 7; omega, sm⟩
      · refine ⟨_, _, wv, was, rfl, ⟨B6 _ _ hil5 ilf, B6 _ _ hel5 elf, dr, F6, B5.trans B6, nil0, nel0⟩, B6 _ _ hrl5 rlf, alr5.imp fun _ _ y => y.keep (TK.but F5 B6), B6 _ _ hwl5 wf, alw5.imp fun _ _ y => y.keep (TK.but F5 B6), ?_, wth⟩
        rw [tk]
        exact sub.trans (List.sublist_append_left _ _)
    · rintro σ H5 ⟨v7, v8, wv, was, rfl, b5, hrl5, alr5, hwl5, alw5, sub, wth⟩
      rw [List.length_map, List.take_of_length_le (Nat.le_refl _)] at sub
      exact ⟨eD, nl, il, ol, el, rl, wl, ins, own, v6, v7, v8, rv, wv, rules, was, rfl, b5, hrl5, alr5, pmr, ru, hwl5, alw5, sub, wth⟩
  case tail2 =>
    rintro D' σ' H1 ⟨eD, nl, il, ol, el, td, ins, own, v7, v8, tf, tt, rfl, ⟨hil, hel, dr, F1, B1, nil0, nel0⟩, hol, htd, hT⟩
    have olf := F1.neS hol
    have elf := F1.neS hel
    have ilf := F1.neS hil
    have tdf : td ≠ f := fun z => by
      obtain ⟨_, _, _, _, _, e1, _⟩ := F1
      rw [z, e1] at htd
      cases htd
    have ndo : own.Nodup := (List.nodup_append.mp dr.nd).2.1
    have lo5 : own.length ≤ 5 := Nat.le_trans dr.lo m5
    refine ⟨_, rfl, _, rfl, f, c, ol, _, rfl, SqL.of hol, olf, by rw [List.length_map]; omega, F1, fun p1 ys H2 pm np1 hp1 F2 B2 => ?_⟩
    obtain ⟨zs, rfl, pz⟩ := perm_strs pm
    refine ⟨p1, rfl, ⟨_, SqL.of hp1⟩, fun D nD => ?_⟩
    have Df : D ≠ f := F2.ne nD
    have Dc : D ≠ c := F2.nec nD
    have pf : p1 ≠ f := F2.neS hp1
    have htd2 := B2 _ _ htd tdf
    refine lc_list (K := K) (a := p1) (xs := zs.map V.str) (fun i H9 => ∃ (rv : List V) (rules : List (Str × Tr)), H9 D = some (.lst rv) ∧ All2 (RlAt H9) rv rules ∧ rules.map (·.1) = zs.take i ∧ (∀ p ∈ rules, ∃ j : Nat, own[j]? = some p.1 ∧ TOk (ins ++ own.take j) (ins ++ own) p.2 ∧ p.2.parts.length ≤ 10) ∧ Same H2 H9) ⟨[], [], upd_same, .nil, rfl, (fun _ z => by cases z), same_new nD⟩ (fun i H9 _ ⟨_, _, _, _, _, _, s9⟩ => SqL.of (s9 _ _ hp1)) ?_ ?_
    · rintro i v H9 hx ⟨rv, rules, hD, al, em, ru, s9⟩
      rw [List.getElem?_map] at hx
      cases ez : zs[i]? with
      | none => rw [ez] at hx; cases hx
      | some z =>
      rw [ez] at hx
      obtain rfl : V.str z = v := Option.some.inj hx
      obtain ⟨j, ej⟩ := List.getElem?_of_mem (pz.mem_iff.mp (List.mem_of_getElem? ez))
      obtain ⟨g1, g2, g3⟩ := hT j z ej
      have gt := DGet.k (k := Sum.inr z) (s9 _ _ htd2)
      rw [stV_val, if_pos (List.mem_of_getElem? ej)] at gt
      refine ⟨rfl, yes_in ⟨_, rfl, _, rfl, _, rfl, td, _, rfl, gt, (by show 2 ≤ sizeLine; decide), fun pt npt => ?_⟩⟩
      have s10 : Same H9 (upd H9 pt (.tup [V.str z, tf z])) := same_new npt
      have nDp : D ≠ pt := fun y => by rw [← y, hD] at npt; cases npt
      have hpt : (upd H9 pt (.tup [V.str z, tf z])) pt = some (.tup [V.str z, tf z]) := upd_same
      have hD10 := s10 _ _ hD
      generalize upd H9 pt (.tup [V.str z, tf z]) = H10 at s10 hpt hD10 ⊢
      have kd : TK H10 (upd H10 D (.lst (rv ++ [.ref pt]))) := TK.lst hD10
      have lr := al.length
      have lr2 : rules.length ≤ own.length := by
        have := congrArg List.length em
        rw [List.length_map, List.length_take] at this
        have := pz.length_eq
        omega
      refine ⟨rv, hD10, small1000 (by omega), rv ++ [.ref pt], rules ++ [(z, tt z)], upd_same, ?_, ?_, ?_, Same.own (s9.trans s10) nD⟩
      · refine ((al.imp fun _ _ y => y.keep ((TK.same s10).trans kd))).snoc ⟨pt, tf z, rfl, kd _ _ hpt, ?_⟩
        exact ((((g1.keep (TK.but F1 B2)).keep (TK.same s9)).keep (TK.same s10)).keep kd)
      · rw [List.map_append, em, List.take_add_one, ez]; rfl
      · intro p hp
        rcases List.mem_append.mp hp with y | y
        · exact ru p y
        · rw [List.mem_singleton.mp y]
          exact ⟨j, ej, g2, g3⟩
    · rintro H9 ⟨rv, rules, hD, al, em, ru, s9⟩
      rw [List.length_map, List.take_of_length_le (Nat.le_refl _)] at em
      refine ⟨eD, nl, il, ol, el, D, ins, own, _, v7, v8, rv, rules, rfl, ⟨s9 _ _ (B2 _ _ hil ilf), s9 _ _ (B2 _ _ hel elf), dr, F2.same s9, (B1.trans B2).same s9, nil0, nel0⟩, hD, al, by rw [em]; exact pz, ru⟩
  case tail1 =>
    rintro D' σ' H1 ⟨eD, nl, il, ol, el, td, ins, own, rfl, ⟨hil, hel, dr, F1, B1, nil0, nel0⟩, hol, htd, ntd⟩
    have olf := F1.neS hol
    have elf := F1.neS hel
    have ilf := F1.neS hil
    have tdf : td ≠ f := fun z => by
      obtain ⟨_, _, _, _, _, e1, _⟩ := F1
      rw [z, e1] at htd
      cases htd
    have ndo : own.Nodup := (List.nodup_append.mp dr.nd).2.1
    refine ⟨_, rfl, ol, _, rfl, SqL.of hol, for_it (n := own.length) (fun i σ H5 => ∃ (v7 v8 : Option V) (tf : Str → V) (tt : Str → Tr), σ = sg nl il ol el (some (.ref td)) v7 v8 none none none ∧ Base il el ins own H5 ∧ H5 ol = some (.lst (own.map V.str)) ∧ H5 td = some (.dK (stV tf (own.take i))) ∧ ∀ (j : Nat) (z : Str), j < i → own[j]? = some z → TrAt H5 (tf z) (tt z) ∧ TOk (ins ++ own.take j) (ins ++ own) (tt z) ∧ (tt z).parts.length ≤ 10) ⟨none, none, fun _ => .non, fun _ => .no 0, rfl, ⟨hil, hel, dr, F1, B1, nil0, nel0⟩, hol, htd, fun j z hj => absurd hj (Nat.not_lt_zero _)⟩ ?_ ?_ ?_ ?_⟩
    · rintro i σ H5 hi ⟨_, _, _, _, rfl, _, h, _⟩
      exact ⟨_, _, SqL.of h, by rw [List.getElem?_map, List.getElem?_eq_getElem hi]; rfl⟩
    · rintro σ H5 ⟨_, _, _, _, rfl, _, h, _⟩
      exact ⟨_, SqL.of h, by rw [List.length_map]; exact Nat.le_refl _⟩
    · rintro i x σ H5 H6 hi ⟨v7, v8, tf, tt, rfl, ⟨hil5, hel5, _, F5, B5, _, _⟩, hol5, htd5, hT⟩ ⟨t, y, rfl, nt, rfl, fy⟩
      have eri : own[i]? = some own[i] := List.getElem?_eq_getElem hi
      obtain ⟨nm, hnm⟩ : ∃ r, r = own[i] := ⟨_, rfl⟩
      rw [← hnm] at eri
      obtain rfl : y = V.str nm := by
        have := fy _ (SqL.of hol5)
        rw [List.getElem?_map, eri] at this
        exact (Option.some.inj this).symm
      have s6 : Same H5 (upd H5 t (.tup [V.int ((i : Nat) : Int), V.str nm])) := same_new nt
      have ht6 : (upd H5 t (.tup [V.int ((i : Nat) : Int), V.str nm])) t = some (.tup [V.int ((i : Nat) : Int), V.str nm]) := upd_same
      have F6 := F5.same s6
      have B6 := B5.same s6
      have hil6 := s6 _ _ hil5
      have hel6 := s6 _ _ hel5
      have hol6 := s6 _ _ hol5
      have htd6 := s6 _ _ htd5
      replace hT : ∀ (j : Nat) (z : Str), j < i → own[j]? = some z → TrAt (upd H5 t (.tup [V.int ((i : Nat) : Int), V.str nm])) (tf z) (tt z) ∧ TOk (ins ++ own.take j) (ins ++ own) (tt z) ∧ (tt z).parts.length ≤ 10 := fun j z hj ez => by
        obtain ⟨g1, g2⟩ := hT j z hj ez
        exact ⟨g1.keep (TK.same s6), g2⟩
      generalize upd H5 t (.tup [V.int ((i : Nat) : Int), V.str nm]) = H6 at ht6 F6 B6 hil6 hel6 hol6 htd6 hT ⊢
      refine ⟨t, _, rfl, SqT.of ht6, rfl, _, _, rfl, _, _, rfl, rfl, ?_⟩
      refine ⟨_, rfl, _, rfl, f, c, 10, rfl, by decide, by decide, F6, fun v H7 v0 v1 F7 B7 => ⟨_, _, rfl, rfl, _, rfl, _, rfl, ?_⟩⟩
      dsimp only [tNoPart]
      refine ⟨_, rfl, _, rfl, ol, _, rfl, SqL.of (B7 _ _ hol6 olf), fun sl nsl => ?_⟩
      have hil7 := B7 _ _ hil6 ilf
      have hel7 := B7 _ _ hel6 elf
      have hol7 := B7 _ _ hol6 olf
      have htd7 := B7 _ _ htd6 tdf
      generalize e8 : upd H7 sl _ = H8
      have s8 : Same H7 H8 := by rw [← e8]; exact same_new nsl
      have hsl : H8 sl = some (.lst ((own.take i).map V.str)) := by rw [← e8, upd_same, cut_take, List.map_take]
      clear e8
      have lo5 : own.length ≤ 5 := Nat.le_trans dr.lo m5
      refine ⟨il, sl, _, _, rfl, rfl, s8 _ _ hil7, hsl, by rw [List.length_map, List.length_map, List.length_take]; have := dr.li; exact little (by omega), fun nw nnw => ?_⟩
      generalize e9 : upd H8 nw _ = H9
      have s9 : Same H8 H9 := by rw [← e9]; exact same_new nnw
      have hnw : H9 nw = some (.lst ((ins ++ own.take i).map V.str)) := by rw [← e9, upd_same, List.map_append]
      clear e9
      have s79 := s8.trans s9
      obtain ⟨r, er, r1, r10⟩ : ∃ r : Nat, 1 + v = ((r : Nat) : Int) ∧ 1 ≤ r ∧ r ≤ 10 := ⟨(1 + v).toNat, by omega, by omega, by omega⟩
      have ea : [V.ref f, V.int (1 + v), V.ref nw, V.ref el] = [V.ref f, nV r, V.ref nw, V.ref el] := by rw [er]
      have subs : ∀ z ∈ ins ++ own.take i, z ∈ ins ++ own := fun z hz => (List.mem_append.mp hz).elim (fun y => List.mem_append.mpr (.inl y)) fun y => List.mem_append.mpr (.inr (List.mem_of_mem_take y))
      have lins := dr.li
      refine ⟨_, rfl, f, c, nw, el, ins ++ own.take i, ins ++ own, r, ea, r1, by omega, by omega, hnw, s79 _ _ hel7, by rw [List.length_append, List.length_take]; omega, by rw [List.length_append]; omega, fun z hz => (dr.wd z (subs z hz)).1, fun z hz => (dr.wd z hz).1, F7.same s79, fun tv tr H10 htr tok lp F10 B10 => ?_⟩
      have htd10 := B10 _ _ (s79 _ _ htd7) tdf
      have nin : nm ∉ own.take i := fun z => by
        obtain ⟨j, hj, ej⟩ := List.mem_take_iff_getElem.mp z
        have := nodup_get ndo eri (List.getElem?_eq_some_iff.mpr ⟨by omega, ej⟩)
        omega
      have tk : own.take (i + 1) = own.take i ++ [nm] := by rw [List.take_add_one, eri]; rfl
      refine ⟨_, rfl, _, rfl, td, _, rfl, DPut.k (k := Sum.inr nm) htd10 ?_, ?_⟩
      · unfold stV
        rw [List.length_map, List.length_take]
        exact small1000 (by omega)
      rw [stV_put tf nin]
      have kd : TK H10 (upd H10 td (.dK (stV (fun y => if y = nm then tv else tf y) (own.take i ++ [nm])))) := fun b xs e => by rw [upd_ne (ne_of e htd10 (fun z => nomatch z))]; exact e
      have ned : ∀ {b : Addr} {xs : List V}, H10 b = some (.lst xs) → (upd H10 td (.dK (stV (fun y => if y = nm then tv else tf y) (own.take i ++ [nm])))) b = some (.lst xs) := fun {b xs} e => by rw [upd_ne (ne_of e htd10 (fun z => nomatch z))]; exact e
      have F11 : Flow (upd H10 td (.dK (stV (fun y => if y = nm then tv else tf y) (own.take i ++ [nm])))) f c := by
        obtain ⟨ns, i, p, q, r, e1, e2, e3⟩ := F10
        exact ⟨ns, i, p, q, r, ned e1, ned e2, e3⟩
      have B11 : But f H (upd H10 td (.dK (stV (fun y => if y = nm then tv else tf y) (own.take i ++ [nm])))) := (((B6.trans B7).same s79).trans B10).own ntd
      refine ⟨_, _, _, fun y => if y = nm then tr else tt y, rfl, ⟨ned (B10 _ _ (s79 _ _ hil7) ilf), ned (B10 _ _ (s79 _ _ hel7) elf), dr, F11, B11, nil0, nel0⟩, ned (B10 _ _ (s79 _ _ hol7) olf), by rw [tk]; exact upd_same, fun j z hj ez => ?_⟩
      by_cases hji : j = i
      · subst hji
        rw [eri] at ez
        obtain rfl := Option.some.inj ez
        show TrAt _ (if nm = nm then tv else tf nm) (if nm = nm then tr else tt nm) ∧ TOk _ _ (if nm = nm then tr else tt nm) ∧ (if nm = nm then tr else tt nm).parts.length ≤ 10
        rw [if_pos rfl, if_pos rfl]
        exact ⟨htr.keep kd, tok, by omega⟩
      · have zn : z ≠ nm := fun e => hji (nodup_get ndo (by rw [← e]; exact ez) eri)
        show TrAt _ (if z = nm then tv else tf z) (if z = nm then tr else tt z) ∧ TOk _ _ (if z = nm then tr else tt z) ∧ (if z = nm then tr else tt z).parts.length ≤ 10
        rw [if_neg zn, if_neg zn]
        obtain ⟨g1, g2⟩ := hT j z (by omega) ez
        exact ⟨(((g1.keep (TK.but F6 B7)).keep (TK.same s79)).keep (TK.but (F7.same s79) B10)).keep kd, g2⟩
    · rintro σ H5 ⟨v7, v8, tf, tt, rfl, b5, hol5, htd5, hT⟩
      rw [List.take_of_length_le (Nat.le_refl _)] at htd5
      exact ⟨eD, nl, il, ol, el, td, ins, own, v7, v8, tf, tt, rfl, b5, hol5, htd5, fun j z e => hT j z (List.getElem?_eq_some_iff.mp e).1 e⟩
  refine ⟨_, rfl, f, c, 9, rfl, by decide, by decide, hF, fun nl ns H1 n1 h1 l9 nd wd F1 B1 => ?_⟩
  have nlf := F1.neS h1
  refine ⟨_, rfl, ?_⟩
  dsimp only [tNoPart]
  refine ⟨_, rfl, f, c, 5, rfl, by decide, by decide, F1, fun v H2 v0 v5 F2 B2 => ⟨v, rfl, nl, _, rfl, SqL.of (B2 _ _ h1 nlf), fun il nil2 => ?_⟩⟩
  obtain ⟨a, rfl⟩ : ∃ a : Nat, v = ((a : Nat) : Int) := ⟨v.toNat, by omega⟩
  generalize e3 : upd H2 il _ = H3
  have hil : H3 il = some (.lst ((ns.take a).map V.str)) := by rw [← e3, upd_same, cut_take, List.map_take]
  have F3 : Flow H3 f c := by rw [← e3]; exact F2.new nil2
  have B3 : But f H H3 := by rw [← e3]; exact (B1.trans B2).new nil2
  have hnl3 : H3 nl = some (.lst (ns.map V.str)) := by rw [← e3]; exact same_new nil2 _ _ (B2 _ _ h1 nlf)
  have ilf := F3.neS hil
  have nil0 : H il = none := But.none (B1.trans B2) nil2 ilf
  clear e3
  have em : [V.ref f, V.int (((most : Nat) : Int) + 1)] = [V.ref f, nV (most + 1)] := by
    rw [show nV (most + 1) = V.int (((most : Nat) : Int) + 1) from congrArg V.int (by omega)]
  refine ⟨_, rfl, _, rfl, _, rfl, _, rfl, _, _, rfl, rfl, f, c, ((most + 1 : Nat) : Int), em, by omega, log_small (by omega), F3, fun v2 H4 v20 v21 F4 B4 => ⟨_, _, rfl, rfl, _, rfl, nl, _, rfl, SqL.of (B4 _ _ hnl3 nlf), fun ol nol => ?_⟩⟩
  obtain ⟨b, eb⟩ : ∃ b : Nat, 4 + v2 = ((4 + b : Nat) : Int) := ⟨v2.toNat, by omega⟩
  generalize e5 : upd H4 ol _ = H5
  have hol : H5 ol = some (.lst (((ns.drop 4).take b).map V.str)) := by
    rw [← e5, upd_same, eb]
    congr 2
    unfold cutV
    rw [show (4 : Int) = ((4 : Nat) : Int) from rfl, HT.sIx_nat, HT.sIx_nat, List.length_map, l9, ← List.map_drop, ← List.map_take]
    congr 1
    rw [show min 4 9 = 4 from rfl]
    rcases Nat.le_total b 5 with h | h
    · rw [Nat.min_eq_left (by omega), show 4 + b - 4 = b by omega]
    · rw [Nat.min_eq_right (by omega), show 9 - 4 = 5 from rfl, List.take_of_length_le (by rw [List.length_drop]; omega), List.take_of_length_le (by rw [List.length_drop]; omega)]
  have F5 : Flow H5 f c := by rw [← e5]; exact F4.new nol
  have B5 : But f H H5 := by rw [← e5]; exact (B3.trans B4).new nol
  have hil5 : H5 il = some (.lst ((ns.take a).map V.str)) := by rw [← e5]; exact same_new nol _ _ (B4 _ _ hil ilf)
  have olf := F5.neS hol
  clear e5
  obtain ⟨ins, hins⟩ : ∃ l, l = ns.take a := ⟨_, rfl⟩
  obtain ⟨own, hown⟩ : ∃ l, l = (ns.drop 4).take b := ⟨_, rfl⟩
  rw [← hins] at hil5
  rw [← hown] at hol
  have li : ins.length ≤ 4 := by rw [hins, List.length_take]; omega
  have lo : own.length ≤ most := by rw [hown, List.length_take]; omega
  have dr : Dr most ins own := by
    have e : (ins ++ own).Sublist ns := by
      rw [hins, hown]
      have h1 : (ns.take a).Sublist (ns.take 4) := by
        rw [show ns.take a = (ns.take 4).take a by rw [List.take_take, Nat.min_eq_left (by omega)]]
        exact List.take_sublist ..
      have h2 : ((ns.drop 4).take b).Sublist (ns.drop 4) := List.take_sublist ..
      have h3 := h1.append h2
      rwa [List.take_append_drop] at h3
    exact ⟨li, lo, List.Nodup.sublist e nd, fun z hz => wd z (e.subset hz)⟩
  refine ⟨_, rfl, _, rfl, il, ol, _, _, rfl, rfl, hil5, hol, by rw [List.length_map, List.length_map]; exact little (by omega), fun el nel => ?_⟩
  generalize e6 : upd H5 el _ = H6
  have hel : H6 el = some (.lst ((ins ++ own).map V.str)) := by rw [← e6, upd_same, List.map_append]
  have s6 : Same H5 H6 := by rw [← e6]; exact same_new nel
  clear e6
  have F6 := F5.same s6
  have B6 := B5.same s6
  have elf := F6.neS hel
  have nel0 : H el = none := But.none B5 nel elf
  intro td ntd
  have tdf : td ≠ f := F6.ne ntd
  refine ⟨rfl, nl, il, ol, el, td, ins, own, rfl, ⟨same_new ntd _ _ (s6 _ _ hil5), same_new ntd _ _ hel, dr, F6.new ntd, B6.new ntd, nil0, nel0⟩, same_new ntd _ _ (s6 _ _ hol), upd_same, But.none B6 ntd tdf⟩
end
/-! ### trees written -/
theorem Rd.mono {l : Nat} {t : Tr} {u : List Str} {h : Nat} (r : Rd l t u h) : ∀ {h' : Nat}, h ≤ h' → Rd l t u h' := by
  induction r with
  | up g _ ih => intro h' e; obtain ⟨m, rfl⟩ : ∃ m, h' = m + 1 := ⟨h' - 1, by omega⟩; exact .up g (ih (by omega))
  | par _ ih => intro h' e; obtain ⟨m, rfl⟩ : ∃ m, h' = m + 2 := ⟨h' - 2, by omega⟩; exact .par (ih (by omega))
  | num g => intro _ _; exact .num g
  | nam g => intro _ _; exact .nam g
  | ago g y => intro _ _; exact .ago g y
  | two g _ _ i1 i2 => intro h' e; obtain ⟨m, rfl⟩ : ∃ m, h' = m + 2 := ⟨h' - 2, by omega⟩; exact .two g (i1 (by omega)) (i2 (by omega))
  | times g _ ih => intro h' e; obtain ⟨m, rfl⟩ : ∃ m, h' = m + 1 := ⟨h' - 1, by omega⟩; exact .times g (ih (by omega))
  | sum p _ _ i1 i2 => intro h' e; obtain ⟨m, rfl⟩ : ∃ m, h' = m + 1 := ⟨h' - 1, by omega⟩; exact .sum p (i1 (by omega)) (i2 (by omega))
  | less _ _ i1 i2 => intro h' e; obtain ⟨m, rfl⟩ : ∃ m, h' = m + 1 := ⟨h' - 1, by omega⟩; exact .less (i1 (by omega)) (i2 (by omega))
  | pick _ _ _ i1 i2 i3 => intro h' e; obtain ⟨m, rfl⟩ : ∃ m, h' = m + 2 := ⟨h' - 2, by omega⟩; exact .pick (i1 (by omega)) (i2 (by omega)) (i3 (by omega))
theorem Rd.lift {t : Tr} {u : List Str} {h : Nat} : ∀ (d l : Nat), l + d ≤ 3 → Rd (l + d) t u h → Rd l t u (h + d)
  | 0, _, _, r => r
  | d + 1, l, e, r => .up (by omega) (Rd.lift d (l + 1) (by omega) (by rw [show l + 1 + d = l + (d + 1) by omega]; exact r))
/-- the level at which a tree stands bare -/
def Tr.own : Tr → Nat
  | .o3 _ _ _ => 0
  | .o2 .below _ _ => 0
  | .o2 .sum _ _ => 1
  | .o2 .gap _ _ => 1
  | .tm _ _ => 2
  | _ => 3
theorem Tr.own_le (t : Tr) : t.own ≤ 3 := by
  cases t with
  | o2 w a b => cases w <;> simp [Tr.own]
  | _ => simp [Tr.own]
abbrev kvL : List (Key × V) := [(Sum.inr "pick", .int 0), (Sum.inr "below", .int 0), (Sum.inr "sum", .int 1), (Sum.inr "gap", .int 1), (Sum.inr "times", .int 2)]
theorem own_val (t : Tr) : (valV (mergeK [] kvL) (Sum.inr t.wd)).getD (.int 3) = nV t.own := by
  cases t with
  | o2 w a b => cases w <;> rfl
  | _ => rfl
structure OkT (t : Tr) : Prop where
  sm : t.small
  nm : ∀ q ∈ t.leans, namW q.1 ∧ q.2 ≤ 1000
structure WrOk (l : Nat) (t : Tr) (u : List Str) (h len : Nat) : Prop where
  rd : Rd l t u h
  ln : u.length ≤ len
  wk : ∀ z ∈ u, z.length ≤ 100
theorem cat_strs {H : Hp} {p1 p2 : Addr} {xs ys : List Str} {Q : VK} (h1 : H p1 = some (.lst (xs.map V.str))) (h2 : H p2 = some (.lst (ys.map V.str))) (l : xs.length + ys.length ≤ 1000) (q : ∀ (p : Addr) (H' : Hp), H p = none → H' p = some (.lst ((xs ++ ys).map V.str)) → Same H H' → Q (.ref p) H') :
    rCat (V.ref p1) (V.ref p2) H Q :=
  ⟨p1, p2, _, _, rfl, rfl, h1, h2, by rw [List.length_map, List.length_map]; exact little l, fun p np => q p _ np (by rw [upd_same, List.map_append]) (same_new np)⟩
section
variable {P : Program} {w : World} {K : PySem.W.Frag} {mg : Str → Option Value} {base : Heap}
def spWr (n : Nat) : Sp := fun vs H Q _ => ∃ (f c : Addr) (v : V) (t : Tr) (l : Nat), vs = [.ref f, v, nV l] ∧ l ≤ 3 ∧ TrAt H v t ∧ t.dep ≤ n ∧ OkT t ∧ t.parts.length ≤ 20 ∧ Flow H f c ∧
  ∀ (p : Addr) (u : List Str) (H' : Hp), H' p = some (.lst (u.map V.str)) → WrOk l t u (10 * n) (6 * t.parts.length) → Flow H' f c → But f H H' → Q (.ref p) H'
def spBa (n : Nat) : Sp := fun vs H Q _ => ∃ (f c : Addr) (v : V) (t : Tr), vs = [.ref f, v] ∧ TrAt H v t ∧ t.dep ≤ n ∧ OkT t ∧ t.parts.length ≤ 20 ∧ Flow H f c ∧
  ∀ (p : Addr) (u : List Str) (H' : Hp), H' p = some (.lst (u.map V.str)) → WrOk t.own t u (10 * n - 8) (6 * t.parts.length - 2) → Flow H' f c → But f H H' → Q (.ref p) H'
abbrev FnR2 (P : Program) (w : World) (K : PySem.W.Frag) (mg : Str → Option Value) (base : Heap) (x : Str) (st : Stmt) (j : Nat) (ps : List Str) (sp : Sp) : Prop := ∀ (f : Addr) (fd : FuncData), Fun K x x st f fd → FnOk P w K mg base CX0 j f fd ps sp
theorem Tr.dep_pos (t : Tr) : 1 ≤ t.dep := by cases t <;> simp [Tr.dep]
theorem written_step {C : Addr} {f : Addr} {fd : FuncData} (T : Top w K mg C) (n : Nat) (GB : FnR2 P w K mg base "_law_bare" s_law_bare (2 * n + 3) ["_law_flow_here", "_law_tree_here"] (spBa n)) (F : Fun K "_law_written" "_law_written" s_law_written f fd) :
    FnOk P w K mg base CX0 (2 * n + 4) f fd ["_law_flow_here", "_law_tree_here", "_law_level"] (spWr n) := by
  obtain ⟨f_law_bare, fd_law_bare, F_law_bare, b_law_bare, m_law_bare⟩ := T.d_law_bare
  have G_law_bare := GB f_law_bare fd_law_bare F_law_bare
  obtain ⟨f_law_pick, fd_law_pick, F_law_pick, b_law_pick, m_law_pick⟩ := T.d_law_pick
  have G_law_pick := ok_law_pick (P := P) (w := w) (base := base) F_law_pick T
  refine F.ok sc_law_written (fun vs H Q E h => ?_) (fun cdv A outer s H vs Q E hr h => ?_)
  · obtain ⟨f, c, v, t, l, rfl, _⟩ := h
    rfl
  obtain ⟨f, c, v, t, l, rfl, l3, ht, hd, ok, lp, F0, q⟩ := h
  have dp := t.dep_pos
  have o3 := t.own_le
  obtain ⟨a, ks, rfl, ha, ak⟩ := ht.op
  obtain ⟨r, er, sort⟩ := t.hd_wd
  have ha0 := ha
  rw [er, List.cons_append] at ha
  refine ⟨_, (pss_cons (ps_set (i := 3) sc_law_written.nd rfl (Or.inl rfl) (pe_dget2 (hu_of hr) (pe_disp (pps_cons pe_str pe_int (pps_cons pe_str pe_int (pps_cons pe_str pe_int (pps_cons pe_str pe_int (pps_cons pe_str pe_int pps_nil))))) (by rfl) (by rfl) (fun z => by cases z) (by decide)) (pe_ix (ix_tupK K rfl) (pv 1) pe_int (fun _ _ => rfl)) pe_int ⟨by rfl, by rfl, by rfl, by rfl⟩))
      (pss_cons (ps_if (PW.pt (pw_or (pt_cmpR op_lt (pv 3) (pv 2) (nomark _)) (pw_or1 (pt_cmpR op_eq (pe_call G_law_pick (hr.mono (by omega)) (by rfl) m_law_pick F_law_pick.kp b_law_pick .nil pass0 (pa_cons (pv 0) (pa_cons pe_int pa_nil))) pe_int (nomark _))))) (pss_one (ps_ret (pe_op op_cat (pe_op op_cat (pe_lst (pa_cons pe_str pa_nil)) (pe_call G_law_bare (hr.mono (by omega)) (by rfl) m_law_bare F_law_bare.kp b_law_bare .nil pass0 (pa_cons (pv 0) (pa_cons (pv 1) pa_nil)))) (pe_lst (pa_cons pe_str pa_nil))))) pss_nil)
      (pss_one (ps_ret (pe_call G_law_bare (hr.mono (by omega)) (by rfl) m_law_bare F_law_bare.kp b_law_bare .nil pass0 (pa_cons (pv 0) (pa_cons (pv 1) pa_nil))))))), ?_⟩
  refine fun d nd => ⟨upd_same, kvL, rfl, (by show 5 ≤ 15; decide), ?_⟩
  have s1 : Same H (upd (upd H d (.dK [])) d (.dK (mergeK [] kvL))) := by rw [upd_upd]; exact same_new nd
  have hd1 : (upd (upd H d (.dK [])) d (.dK (mergeK [] kvL))) d = some (.dK (mergeK [] kvL)) := upd_same
  generalize upd (upd H d (.dK [])) d (.dK (mergeK [] kvL)) = H1 at s1 hd1 ⊢
  have F1 := F0.same s1
  have B1 : But f H H1 := But.of s1
  have pp : 1 ≤ t.parts.length := Nat.le_trans dp t.dep_parts
  refine ⟨d, rfl, .inl ⟨_, .inl hd1⟩, _, rfl, a, _, _, _, rfl, rfl, SqT.of (s1 _ _ ha), atI_nat (j := 0) rfl, _, DGet.k (k := Sum.inr t.wd) hd1, ?_⟩
  rw [own_val]
  have brk : ∀ (D : Ends) (Hx : Hp), D.rt = Q → Flow Hx f c → But f H Hx → tRet (tOp rCat (tOp rCat (tLst (tCons (tC (V.str "(")) tNil)) (tCall (spBa n) [] E0 (tCons (tVar 0) (tCons (tVar 1) tNil)))) (tLst (tCons (tC (V.str ")")) tNil))) D [some (.ref f), some (.ref a), some (nV l), some (nV t.own)] Hx := fun D Hx eD Fx Bx => by
    refine ⟨(by show 1 ≤ sizeLine; decide), fun p1 np1 => ?_⟩
    have s2 : Same Hx (upd Hx p1 (.lst [V.str "("])) := same_new np1
    have hp1 : (upd Hx p1 (.lst [V.str "("])) p1 = some (.lst (([("(" : Str)] : List Str).map V.str)) := upd_same
    generalize upd Hx p1 (.lst [V.str "("]) = H2 at s2 hp1 ⊢
    have F2 := Fx.same s2
    have B2 := Bx.same s2
    refine ⟨_, rfl, _, rfl, f, c, .ref a, t, rfl, ht.keep (TK.but F0 B2), hd, ok, lp, F2, fun p2 u H3 hp2 wo F3 B3 => ?_⟩
    have hp13 := B3 _ _ hp1 (F2.neS hp1)
    have lu := wo.ln
    refine cat_strs hp13 hp2 (by show 1 + u.length ≤ 1000; omega) fun p3 H4 np3 hp3 s4 => ?_
    refine ⟨(by show 1 ≤ sizeLine; decide), fun p4 np4 => ?_⟩
    have s5 : Same H4 (upd H4 p4 (.lst [V.str ")"])) := same_new np4
    have hp4 : (upd H4 p4 (.lst [V.str ")"])) p4 = some (.lst (([(")" : Str)] : List Str).map V.str)) := upd_same
    generalize upd H4 p4 (.lst [V.str ")"]) = H5 at s5 hp4 ⊢
    refine cat_strs (s5 _ _ hp3) hp4 (by simp only [List.length_append, List.length_cons, List.length_nil]; omega) fun p5 H6 np5 hp5 s6 => ?_
    rw [eD]
    have s36 := s4.trans (s5.trans s6)
    refine q p5 _ H6 hp5 ⟨?_, ?_, fun z hz => ?_⟩ (F3.same s36) ((B2.trans B3).same s36)
    · have r0 := Rd.lift t.own 0 (by omega) (by rw [Nat.zero_add]; exact wo.rd)
      have r3 := Rd.par r0
      have rl := Rd.lift (3 - l) l (by omega) (by rw [show l + (3 - l) = 3 by omega]; exact r3)
      exact rl.mono (by omega)
    · simp only [List.length_append, List.length_cons, List.length_nil]
      omega
    · simp only [List.mem_append, List.mem_cons, List.not_mem_nil, or_false] at hz
      rcases hz with (rfl | hz) | rfl
      · decide
      · exact wo.wk z hz
      · decide
  refine ⟨_, rfl, _, rfl, _, _, rfl, rfl, _, rfl, if_bl (fun _ => brk _ H1 rfl F1 B1) (fun c1 => ?_)⟩
  have c1 : ¬ t.own < l := fun z => of_decide_eq_false c1 (by omega)
  refine ⟨_, rfl, f, c, 9, rfl, by decide, by decide, F1, fun x H2 x0 x1 F2 B2 => ⟨rfl, _, rfl, if_bl (fun _ => brk _ H2 rfl F2 (B1.trans B2)) (fun _ => ?_)⟩⟩
  refine ⟨_, rfl, _, rfl, f, c, .ref a, t, rfl, (ht.keep (TK.same s1)).keep (TK.but F1 B2), hd, ok, lp, F2, fun p2 u H3 hp2 wo F3 B3 => ?_⟩
  refine q p2 u H3 hp2 ⟨?_, Nat.le_trans wo.ln (by omega), wo.wk⟩ F3 ((B1.trans B2).trans B3)
  exact (Rd.lift (t.own - l) l (by omega) (by rw [show l + (t.own - l) = t.own by omega]; exact wo.rd)).mono (by omega)
theorem numW_str {i : Int} (h : i.natAbs ≤ 1000000) : numW (toString i : String) i := by
  have dl : ∀ m : Nat, m ≤ 1000000 → (digN m).length ≤ 9 := fun m hm => by unfold digN; rw [List.length_map]; exact toDig_len 8 m (by omega)
  rcases Int.eq_nat_or_neg i with ⟨m, rfl | rfl⟩
  · have hm : m ≤ 1000000 := by omega
    refine ⟨?_, ?_⟩
    · rw [str_pos]; exact num_pos (by omega)
    · rw [strlen, str_pos]; have := dl m hm; omega
  · have hm : m ≤ 1000000 := by omega
    by_cases z : m = 0
    · subst z
      refine ⟨?_, ?_⟩
      · show numO (Str.ofString (toString ((0 : Nat) : Int))).cps.toList = _
        rw [str_pos]; exact num_pos (by omega)
      · show (Str.ofString (toString ((0 : Nat) : Int))).length ≤ 100
        rw [strlen, str_pos]; have := dl 0 (by omega); omega
    · refine ⟨?_, ?_⟩
      · rw [str_neg (by omega)]; exact num_neg (by omega) (by omega)
      · rw [strlen, str_neg (by omega), List.length_cons]; have := dl m hm; omega
theorem log_str {i : Int} (h : i.natAbs ≤ 1000000) : i.natAbs.log2 < 1920 := by
  by_cases z : i.natAbs = 0
  · rw [z]; decide
  · exact (Nat.log2_lt z).mpr (Nat.lt_of_lt_of_le (show i.natAbs < 2 ^ 60 by omega) (Nat.pow_le_pow_right (by decide) (by decide)))
end
/-! ### trees written bare -/
section
variable {P : Program} {w : World} {K : PySem.W.Frag} {mg : Str → Option Value} {base : Heap}
theorem bare_step {C : Addr} {f : Addr} {fd : FuncData} (T : Top w K mg C) (n : Nat) (GW : FnR2 P w K mg base "_law_written" s_law_written (2 * n + 4) ["_law_flow_here", "_law_tree_here", "_law_level"] (spWr n)) (F : Fun K "_law_bare" "_law_bare" s_law_bare f fd) :
    FnOk P w K mg base CX0 (2 * n + 5) f fd ["_law_flow_here", "_law_tree_here"] (spBa (n + 1)) := by
  obtain ⟨f_law_written, fd_law_written, F_law_written, b_law_written, m_law_written⟩ := T.d_law_written
  have G_law_written := GW f_law_written fd_law_written F_law_written
  refine F.ok sc_law_bare (fun vs H Q E h => ?_) (fun cdv A outer s H vs Q E hr h => ?_)
  · obtain ⟨f, c, v, t, rfl, _⟩ := h
    rfl
  obtain ⟨f, c, v, t, rfl, ht, hd, ok, lp, F0, q⟩ := h
  refine ⟨_, (pss_cons (ps_if (pt_cmpR op_eq (pe_ix (ix_tupK K rfl) (pv 1) pe_int (fun _ _ => rfl)) pe_str (nomark _)) (pss_one (ps_ret (pe_lst (pa_cons (pe_callTy call_str_int (by rfl) T.m_str (by decide +kernel) (pa_cons (pe_ix (ix_tupK K rfl) (pv 1) pe_int (fun _ _ => rfl)) pa_nil)) pa_nil)))) pss_nil)
      (pss_cons (ps_if (pt_cmpR op_eq (pe_ix (ix_tupK K rfl) (pv 1) pe_int (fun _ _ => rfl)) pe_str (nomark _)) (pss_one (ps_ret (pe_slice (sl_listK K rfl) (pe_lst (pa_cons (pe_ix (ix_tupK K rfl) (pv 1) pe_int (fun _ _ => rfl)) (pa_cons pe_str (pa_cons (pe_callTy call_str_int (by rfl) T.m_str (by decide +kernel) (pa_cons (pe_ix (ix_tupK K rfl) (pv 1) pe_int (fun _ _ => rfl)) pa_nil)) pa_nil)))) po_none (po_some (pe_op op_add pe_int (pe_op op_mul pe_int (pe_callTy call_int1 (by rfl) T.m_int (by decide +kernel) (pa_cons (pe_cmpR op_gt (pe_ix (ix_tupK K rfl) (pv 1) pe_int (fun _ _ => rfl)) pe_int (nomark _)) pa_nil)))))))) pss_nil)
      (pss_cons (ps_if (pt_cmpR op_eq (pe_ix (ix_tupK K rfl) (pv 1) pe_int (fun _ _ => rfl)) pe_str (nomark _)) (pss_one (ps_ret (pe_op op_cat (pe_lst (pa_cons (pe_callTy call_str_int (by rfl) T.m_str (by decide +kernel) (pa_cons (pe_ix (ix_tupK K rfl) (pv 1) pe_int (fun _ _ => rfl)) pa_nil)) (pa_cons pe_str pa_nil))) (pe_call G_law_written (hr.mono (by omega)) (by rfl) m_law_written F_law_written.kp b_law_written .nil pass0 (pa_cons (pv 0) (pa_cons (pe_ix (ix_tupK K rfl) (pv 1) pe_int (fun _ _ => rfl)) (pa_cons pe_int pa_nil))))))) pss_nil)
      (pss_cons (ps_if (pt_cmpR (op_in_seqK K rfl) (pe_ix (ix_tupK K rfl) (pv 1) pe_int (fun _ _ => rfl)) (pe_tup (pa_cons pe_str (pa_cons pe_str pa_nil))) (by with_unfolding_all rfl)) (pss_cons (ps_set (i := 2) sc_law_bare.nd rfl (Or.inl rfl) (pe_op op_cat (pe_op op_cat (pe_lst (pa_cons (pe_ix (ix_tupK K rfl) (pv 1) pe_int (fun _ _ => rfl)) (pa_cons pe_str pa_nil))) (pe_call G_law_written (hr.mono (by omega)) (by rfl) m_law_written F_law_written.kp b_law_written .nil pass0 (pa_cons (pv 0) (pa_cons (pe_ix (ix_tupK K rfl) (pv 1) pe_int (fun _ _ => rfl)) (pa_cons pe_int pa_nil))))) (pe_lst (pa_cons pe_str pa_nil))))
      (pss_one (ps_ret (pe_op op_cat (pe_op op_cat (pv 2) (pe_call G_law_written (hr.mono (by omega)) (by rfl) m_law_written F_law_written.kp b_law_written .nil pass0 (pa_cons (pv 0) (pa_cons (pe_ix (ix_tupK K rfl) (pv 1) pe_int (fun _ _ => rfl)) (pa_cons pe_int pa_nil))))) (pe_lst (pa_cons pe_str pa_nil)))))) pss_nil)
      (pss_cons (ps_if (pt_cmpR op_eq (pe_ix (ix_tupK K rfl) (pv 1) pe_int (fun _ _ => rfl)) pe_str (nomark _)) (pss_cons (ps_set (i := 2) sc_law_bare.nd rfl (Or.inl rfl) (pe_op op_cat (pe_op op_cat (pe_op op_cat (pe_lst (pa_cons pe_str pa_nil)) (pe_call G_law_written (hr.mono (by omega)) (by rfl) m_law_written F_law_written.kp b_law_written .nil pass0 (pa_cons (pv 0) (pa_cons (pe_ix (ix_tupK K rfl) (pv 1) pe_int (fun _ _ => rfl)) (pa_cons pe_int pa_nil))))) (pe_lst (pa_cons pe_str pa_nil))) (pe_call G_law_written (hr.mono (by omega)) (by rfl) m_law_written F_law_written.kp b_law_written .nil pass0 (pa_cons (pv 0) (pa_cons (pe_ix (ix_tupK K rfl) (pv 1) pe_int (fun _ _ => rfl)) (pa_cons pe_int pa_nil))))))
      (pss_one (ps_ret (pe_op op_cat (pe_op op_cat (pv 2) (pe_lst (pa_cons pe_str pa_nil))) (pe_call G_law_written (hr.mono (by omega)) (by rfl) m_law_written F_law_written.kp b_law_written .nil pass0 (pa_cons (pv 0) (pa_cons (pe_ix (ix_tupK K rfl) (pv 1) pe_int (fun _ _ => rfl)) (pa_cons pe_int pa_nil)))))))) pss_nil)
      (pss_cons (ps_if (pt_cmpR op_eq (pe_ix (ix_tupK K rfl) (pv 1) pe_int (fun _ _ => rfl)) pe_str (nomark _)) (pss_one (ps_ret (pe_op op_cat (pe_op op_cat (pe_call G_law_written (hr.mono (by omega)) (by rfl) m_law_written F_law_written.kp b_law_written .nil pass0 (pa_cons (pv 0) (pa_cons (pe_ix (ix_tupK K rfl) (pv 1) pe_int (fun _ _ => rfl)) (pa_cons pe_int pa_nil)))) (pe_lst (pa_cons pe_str pa_nil))) (pe_call G_law_written (hr.mono (by omega)) (by rfl) m_law_written F_law_written.kp b_law_written .nil pass0 (pa_cons (pv 0) (pa_cons (pe_ix (ix_tupK K rfl) (pv 1) pe_int (fun _ _ => rfl)) (pa_cons pe_int pa_nil))))))) pss_nil)
      (pss_cons (ps_set (i := 3) sc_law_bare.nd rfl (Or.inl rfl) (pe_ix (ix_listK K rfl) (pe_lst (pa_cons pe_str (pa_cons pe_str pa_nil))) (pe_callTy call_int1 (by rfl) T.m_int (by decide +kernel) (pa_cons (pe_cmpR op_eq (pe_ix (ix_tupK K rfl) (pv 1) pe_int (fun _ _ => rfl)) pe_str (nomark _)) pa_nil)) (fun _ _ => rfl)))
      (pss_one (ps_ret (pe_op op_cat (pe_op op_cat (pe_call G_law_written (hr.mono (by omega)) (by rfl) m_law_written F_law_written.kp b_law_written .nil pass0 (pa_cons (pv 0) (pa_cons (pe_ix (ix_tupK K rfl) (pv 1) pe_int (fun _ _ => rfl)) (pa_cons pe_int pa_nil)))) (pe_lst (pa_cons (pv 3) pa_nil))) (pe_call G_law_written (hr.mono (by omega)) (by rfl) m_law_written F_law_written.kp b_law_written .nil pass0 (pa_cons (pv 0) (pa_cons (pe_ix (ix_tupK K rfl) (pv 1) pe_int (fun _ _ => rfl)) (pa_cons pe_int pa_nil)))))))))))))), ?_⟩
  cases t with
  | no i =>
    obtain ⟨a, rfl, ha⟩ := ht
    have sm : i.natAbs ≤ 1000000 := by have := ok.sm; unfold Tr.small Small at this; omega
    refine ⟨_, rfl, a, _, _, _, rfl, rfl, SqT.of ha, atI_nat (j := 0) rfl, rfl, _, rfl, if_strE (fun _ => ?_) (fun e => absurd rfl e)⟩
    refine ⟨_, rfl, a, _, _, _, rfl, rfl, SqT.of ha, atI_nat (j := 1) rfl, i, rfl, log_str sm, (by show 1 ≤ sizeLine; decide), fun p np => ?_⟩
    have g := numW_str sm
    exact q p [_] _ upd_same ⟨.num g, (by show 1 ≤ 6 * 1 - 2; decide), fun z hz => by rw [List.mem_singleton.mp hz]; exact g.2⟩ (F0.new np) (But.refl.new np)
  | nm nn k =>
    obtain ⟨a, rfl, ha⟩ := ht
    obtain ⟨hn, hk⟩ := ok.nm (nn, k) (List.mem_singleton.mpr rfl)
    have hk : k ≤ 1000 := hk
    have sm : ((k : Nat) : Int).natAbs ≤ 1000000 := by omega
    have g := numW_str sm
    refine ⟨_, rfl, a, _, _, _, rfl, rfl, SqT.of ha, atI_nat (j := 0) rfl, rfl, _, rfl, if_strE (fun e => absurd e (by decide +kernel)) (fun _ => ?_)⟩
    refine ⟨_, rfl, a, _, _, _, rfl, rfl, SqT.of ha, atI_nat (j := 0) rfl, rfl, _, rfl, if_strE (fun _ => ?_) (fun e => absurd rfl e)⟩
    refine ⟨_, rfl, a, _, _, _, rfl, rfl, SqT.of ha, atI_nat (j := 1) rfl, _, rfl, a, _, _, _, rfl, rfl, SqT.of ha, atI_nat (j := 2) rfl, _, rfl, log_str sm, (by show 3 ≤ sizeLine; decide), fun p np => ?_⟩
    have s1 : Same H (upd H p (.lst [V.str nn, V.str "@", V.str (toString ((k : Nat) : Int) : String)])) := same_new np
    have hp : (upd H p (.lst [V.str nn, V.str "@", V.str (toString ((k : Nat) : Int) : String)])) p = some (.lst ([nn, "@", (toString ((k : Nat) : Int) : String)].map V.str)) := upd_same
    generalize upd H p (.lst [V.str nn, V.str "@", V.str (toString ((k : Nat) : Int) : String)]) = H1 at s1 hp ⊢
    dsimp only [tNoPart]
    refine ⟨_, rfl, a, _, _, _, rfl, rfl, SqT.of (s1 _ _ ha), atI_nat (j := 2) rfl, _, _, rfl, rfl, .inr ⟨_, rfl, _, _, rfl, rfl, .inl ⟨by decide, by decide⟩, _, _, rfl, rfl, _, rfl, p, _, rfl, SqL.of hp, fun p2 np2 => ?_⟩⟩
    have F2 := (F0.same s1)
    cases k with
    | zero =>
      refine q p2 [nn] _ ?_ ⟨.nam hn, (by show 1 ≤ 6 * 1 - 2; decide), fun z hz => by rw [List.mem_singleton.mp hz]; exact hn.2⟩ (F2.new np2) ((But.of s1).new np2)
      rw [upd_same]
      rfl
    | succ k =>
      refine q p2 [nn, "@", _] _ ?_ ⟨.ago hn g, (by show 3 ≤ 6 * 1 - 2; decide), fun z hz => ?_⟩ (F2.new np2) ((But.of s1).new np2)
      · have e : decide ((0 : Int) < ((k + 1 : Nat) : Int)) = true := decide_eq_true (by omega)
        rw [upd_same, e]
        rfl
      · simp only [List.mem_cons, List.not_mem_nil, or_false] at hz
        rcases hz with rfl | rfl | rfl
        · exact hn.2
        · decide
        · exact g.2
  | tm k t1 =>
    obtain ⟨a, x, rfl, ha, ht1⟩ := ht
    have sk : k.natAbs ≤ 1000000 := by have := ok.sm; unfold Tr.small at this; omega
    have g := numW_str sk
    have ok1 : OkT t1 := ⟨ok.sm.2, fun q hq => ok.nm q hq⟩
    have hd : t1.dep + 1 ≤ n + 1 := hd
    have lp1 : t1.parts.length + 1 ≤ 20 := by have := lp; simpa [Tr.parts] using this
    refine ⟨_, rfl, a, _, _, _, rfl, rfl, SqT.of ha, atI_nat (j := 0) rfl, rfl, _, rfl, if_strE (fun e => absurd e (by decide +kernel)) (fun _ => ?_)⟩
    refine ⟨_, rfl, a, _, _, _, rfl, rfl, SqT.of ha, atI_nat (j := 0) rfl, rfl, _, rfl, if_strE (fun e => absurd e (by decide +kernel)) (fun _ => ?_)⟩
    refine ⟨_, rfl, a, _, _, _, rfl, rfl, SqT.of ha, atI_nat (j := 0) rfl, rfl, _, rfl, if_strE (fun _ => ?_) (fun e => absurd rfl e)⟩
    refine ⟨_, rfl, a, _, _, _, rfl, rfl, SqT.of ha, atI_nat (j := 1) rfl, k, rfl, log_str sk, (by show 2 ≤ sizeLine; decide), fun p np => ?_⟩
    have s1 : Same H (upd H p (.lst [V.str (toString k : String), V.str "*"])) := same_new np
    have hp : (upd H p (.lst [V.str (toString k : String), V.str "*"])) p = some (.lst (([(toString k : String), "*"] : List Str).map V.str)) := upd_same
    generalize upd H p (.lst [V.str (toString k : String), V.str "*"]) = H1 at s1 hp ⊢
    have F1 := F0.same s1
    refine ⟨_, rfl, _, rfl, a, _, _, _, rfl, rfl, SqT.of (s1 _ _ ha), atI_nat (j := 2) rfl, f, c, x, t1, 3, rfl, by decide, ht1.keep (TK.same s1), by omega, ok1, by omega, F1, fun p2 u H2 hp2 wo F2 B2 => ?_⟩
    have lu := wo.ln
    refine cat_strs (B2 _ _ hp (F1.neS hp)) hp2 (by show 2 + u.length ≤ 1000; omega) fun p3 H3 np3 hp3 s3 => ?_
    refine q p3 _ H3 hp3 ⟨(Rd.times g wo.rd).mono (by omega), ?_, fun z hz => ?_⟩ (F2.same s3) (((But.of s1).trans B2).same s3)
    · rw [List.length_append]
      show 2 + u.length ≤ 6 * (Tr.tm k t1).parts.length - 2
      have : (Tr.tm k t1).parts.length = t1.parts.length + 1 := by simp [Tr.parts]
      omega
    · simp only [List.cons_append, List.nil_append, List.mem_cons] at hz
      rcases hz with rfl | rfl | hz
      · exact g.2
      · decide
      · exact wo.wk z hz
  | o2 wd t1 t2 =>
    obtain ⟨a, x, y, rfl, ha, ht1, ht2⟩ := ht
    have okt1 : OkT t1 := ⟨ok.sm.1, fun q hq => ok.nm q (List.mem_append.mpr (.inl hq))⟩
    have okt2 : OkT t2 := ⟨ok.sm.2, fun q hq => ok.nm q (List.mem_append.mpr (.inr hq))⟩
    have hd : max t1.dep t2.dep + 1 ≤ n + 1 := hd
    have ep : ∀ wd, (Tr.o2 wd t1 t2).parts.length = t1.parts.length + t2.parts.length + 1 := fun wd => by simp [Tr.parts]; omega
    rw [ep] at lp
    cases wd with
    | sum =>
      refine ⟨_, rfl, a, _, _, _, rfl, rfl, SqT.of ha, atI_nat (j := 0) rfl, rfl, _, rfl, if_strE (fun e => absurd e (by decide +kernel)) (fun _ => ?_)⟩
      refine ⟨_, rfl, a, _, _, _, rfl, rfl, SqT.of ha, atI_nat (j := 0) rfl, rfl, _, rfl, if_strE (fun e => absurd e (by decide +kernel)) (fun _ => ?_)⟩
      refine ⟨_, rfl, a, _, _, _, rfl, rfl, SqT.of ha, atI_nat (j := 0) rfl, rfl, _, rfl, if_strE (fun e => absurd e (by decide +kernel)) (fun _ => ?_)⟩
      refine ⟨_, rfl, a, _, _, _, rfl, rfl, SqT.of ha, atI_nat (j := 0) rfl, (by show 2 ≤ sizeLine; decide), fun tp ntp => ⟨tp, _, rfl, .inr (SqT.of upd_same), rfl, rfl, _, rfl, ?_⟩⟩
      have s0 : Same H (upd H tp (.tup [.str "most", .str "least"])) := same_new ntp
      generalize upd H tp (.tup [.str "most", .str "least"]) = H0 at s0 ⊢
      have F00 := F0.same s0
      have B0 : But f H H0 := But.of s0
      refine if_in (zs := ["most", "least"]) (fun c => absurd c (by decide +kernel)) (fun _ => ?_)
      refine ⟨_, rfl, a, _, _, _, rfl, rfl, SqT.of (s0 _ _ ha), atI_nat (j := 0) rfl, rfl, _, rfl, if_strE (fun e => absurd e (by decide +kernel)) (fun _ => ?_)⟩
      refine ⟨_, rfl, a, _, _, _, rfl, rfl, SqT.of (s0 _ _ ha), atI_nat (j := 0) rfl, rfl, _, rfl, if_strE (fun e => absurd e (by decide +kernel)) (fun _ => ?_)⟩
      refine ⟨(by show 2 ≤ sizeLine; decide), fun ps nps => ?_⟩
      have sS : Same H0 (upd H0 ps (.lst [V.str "+", V.str "-"])) := same_new nps
      have hps : (upd H0 ps (.lst [V.str "+", V.str "-"])) ps = some (.lst [V.str "+", V.str "-"]) := upd_same
      generalize upd H0 ps (.lst [V.str "+", V.str "-"]) = H00 at sS hps ⊢
      refine ⟨_, rfl, a, _, _, _, rfl, rfl, SqT.of (sS _ _ (s0 _ _ ha)), atI_nat (j := 0) rfl, rfl, .inr ⟨_, rfl, ps, _, _, V.str "+", rfl, rfl, SqL.of hps, by decide +kernel, ?_⟩⟩
      have F00 := F00.same sS
      have B0 := B0.same sS
      refine ⟨_, rfl, _, rfl, a, _, _, _, rfl, rfl, SqT.of (TK.but F0 B0 _ _ ha), atI_nat (j := 1) rfl, f, c, x, t1, 1, rfl, by decide, ht1.keep (TK.but F0 B0), by omega, okt1, by omega, F00, fun p2 u H2 hp2 w1 F2 bH2 => ?_⟩
      have B2 := B0.trans bH2
      have lu := w1.ln
      refine ⟨_, rfl, (by show 1 ≤ sizeLine; decide), fun p3 np3 => ?_⟩
      have sH3 : Same H2 (upd H2 p3 (.lst [V.str "+"])) := same_new np3
      have hp3 : (upd H2 p3 (.lst [V.str "+"])) p3 = some (.lst (([("+" : Str)] : List Str).map V.str)) := upd_same
      generalize upd H2 p3 (.lst [V.str "+"]) = H3 at sH3 hp3 ⊢
      have F3 := F2.same sH3
      have B3 := B2.same sH3
      refine cat_strs (sH3 _ _ hp2) hp3 (by simp only [List.length_append, List.length_cons, List.length_nil]; omega) fun p4 H4 np4 hp4 sH4 => ?_
      have F4 := F3.same sH4
      have B4 := B3.same sH4
      refine ⟨_, rfl, _, rfl, a, _, _, _, rfl, rfl, SqT.of (TK.but F0 B4 _ _ ha), atI_nat (j := 2) rfl, f, c, y, t2, 2, rfl, by decide, ht2.keep (TK.but F0 B4), by omega, okt2, by omega, F4, fun p5 v H5 hp5 w2 F5 bH5 => ?_⟩
      have B5 := B4.trans bH5
      have lv := w2.ln
      refine cat_strs (bH5 _ _ hp4 (F4.neS hp4)) hp5 (by simp only [List.length_append, List.length_cons, List.length_nil]; omega) fun p6 H6 np6 hp6 sH6 => ?_
      have F6 := F5.same sH6
      have B6 := B5.same sH6
      refine q p6 _ H6 hp6 ⟨?_, ?_, fun zz hz => ?_⟩ F6 B6
      · have g := Rd.sum (w := .sum) (s := "+") rfl (w1.rd.mono (Nat.le_succ _)) w2.rd
        have e : (u ++ [("+" : Str)]) ++ v = u ++ ("+" : Str) :: v := by simp
        rw [e]
        exact g.mono (by omega)
      · rw [ep]
        simp only [List.length_append, List.length_cons, List.length_nil]
        omega
      · simp only [List.mem_append, List.mem_cons, List.not_mem_nil, or_false] at hz
        rcases hz with (hz | rfl) | hz
        · exact w1.wk _ hz
        · decide
        · exact w2.wk _ hz
    | gap =>
      refine ⟨_, rfl, a, _, _, _, rfl, rfl, SqT.of ha, atI_nat (j := 0) rfl, rfl, _, rfl, if_strE (fun e => absurd e (by decide +kernel)) (fun _ => ?_)⟩
      refine ⟨_, rfl, a, _, _, _, rfl, rfl, SqT.of ha, atI_nat (j := 0) rfl, rfl, _, rfl, if_strE (fun e => absurd e (by decide +kernel)) (fun _ => ?_)⟩
      refine ⟨_, rfl, a, _, _, _, rfl, rfl, SqT.of ha, atI_nat (j := 0) rfl, rfl, _, rfl, if_strE (fun e => absurd e (by decide +kernel)) (fun _ => ?_)⟩
      refine ⟨_, rfl, a, _, _, _, rfl, rfl, SqT.of ha, atI_nat (j := 0) rfl, (by show 2 ≤ sizeLine; decide), fun tp ntp => ⟨tp, _, rfl, .inr (SqT.of upd_same), rfl, rfl, _, rfl, ?_⟩⟩
      have s0 : Same H (upd H tp (.tup [.str "most", .str "least"])) := same_new ntp
      generalize upd H tp (.tup [.str "most", .str "least"]) = H0 at s0 ⊢
      have F00 := F0.same s0
      have B0 : But f H H0 := But.of s0
      refine if_in (zs := ["most", "least"]) (fun c => absurd c (by decide +kernel)) (fun _ => ?_)
      refine ⟨_, rfl, a, _, _, _, rfl, rfl, SqT.of (s0 _ _ ha), atI_nat (j := 0) rfl, rfl, _, rfl, if_strE (fun e => absurd e (by decide +kernel)) (fun _ => ?_)⟩
      refine ⟨_, rfl, a, _, _, _, rfl, rfl, SqT.of (s0 _ _ ha), atI_nat (j := 0) rfl, rfl, _, rfl, if_strE (fun e => absurd e (by decide +kernel)) (fun _ => ?_)⟩
      refine ⟨(by show 2 ≤ sizeLine; decide), fun ps nps => ?_⟩
      have sS : Same H0 (upd H0 ps (.lst [V.str "+", V.str "-"])) := same_new nps
      have hps : (upd H0 ps (.lst [V.str "+", V.str "-"])) ps = some (.lst [V.str "+", V.str "-"]) := upd_same
      generalize upd H0 ps (.lst [V.str "+", V.str "-"]) = H00 at sS hps ⊢
      refine ⟨_, rfl, a, _, _, _, rfl, rfl, SqT.of (sS _ _ (s0 _ _ ha)), atI_nat (j := 0) rfl, rfl, .inr ⟨_, rfl, ps, _, _, V.str "-", rfl, rfl, SqL.of hps, by decide +kernel, ?_⟩⟩
      have F00 := F00.same sS
      have B0 := B0.same sS
      refine ⟨_, rfl, _, rfl, a, _, _, _, rfl, rfl, SqT.of (TK.but F0 B0 _ _ ha), atI_nat (j := 1) rfl, f, c, x, t1, 1, rfl, by decide, ht1.keep (TK.but F0 B0), by omega, okt1, by omega, F00, fun p2 u H2 hp2 w1 F2 bH2 => ?_⟩
      have B2 := B0.trans bH2
      have lu := w1.ln
      refine ⟨_, rfl, (by show 1 ≤ sizeLine; decide), fun p3 np3 => ?_⟩
      have sH3 : Same H2 (upd H2 p3 (.lst [V.str "-"])) := same_new np3
      have hp3 : (upd H2 p3 (.lst [V.str "-"])) p3 = some (.lst (([("-" : Str)] : List Str).map V.str)) := upd_same
      generalize upd H2 p3 (.lst [V.str "-"]) = H3 at sH3 hp3 ⊢
      have F3 := F2.same sH3
      have B3 := B2.same sH3
      refine cat_strs (sH3 _ _ hp2) hp3 (by simp only [List.length_append, List.length_cons, List.length_nil]; omega) fun p4 H4 np4 hp4 sH4 => ?_
      have F4 := F3.same sH4
      have B4 := B3.same sH4
      refine ⟨_, rfl, _, rfl, a, _, _, _, rfl, rfl, SqT.of (TK.but F0 B4 _ _ ha), atI_nat (j := 2) rfl, f, c, y, t2, 2, rfl, by decide, ht2.keep (TK.but F0 B4), by omega, okt2, by omega, F4, fun p5 v H5 hp5 w2 F5 bH5 => ?_⟩
      have B5 := B4.trans bH5
      have lv := w2.ln
      refine cat_strs (bH5 _ _ hp4 (F4.neS hp4)) hp5 (by simp only [List.length_append, List.length_cons, List.length_nil]; omega) fun p6 H6 np6 hp6 sH6 => ?_
      have F6 := F5.same sH6
      have B6 := B5.same sH6
      refine q p6 _ H6 hp6 ⟨?_, ?_, fun zz hz => ?_⟩ F6 B6
      · have g := Rd.sum (w := .gap) (s := "-") rfl (w1.rd.mono (Nat.le_succ _)) w2.rd
        have e : (u ++ [("-" : Str)]) ++ v = u ++ ("-" : Str) :: v := by simp
        rw [e]
        exact g.mono (by omega)
      · rw [ep]
        simp only [List.length_append, List.length_cons, List.length_nil]
        omega
      · simp only [List.mem_append, List.mem_cons, List.not_mem_nil, or_false] at hz
        rcases hz with (hz | rfl) | hz
        · exact w1.wk _ hz
        · decide
        · exact w2.wk _ hz
    | below =>
      refine ⟨_, rfl, a, _, _, _, rfl, rfl, SqT.of ha, atI_nat (j := 0) rfl, rfl, _, rfl, if_strE (fun e => absurd e (by decide +kernel)) (fun _ => ?_)⟩
      refine ⟨_, rfl, a, _, _, _, rfl, rfl, SqT.of ha, atI_nat (j := 0) rfl, rfl, _, rfl, if_strE (fun e => absurd e (by decide +kernel)) (fun _ => ?_)⟩
      refine ⟨_, rfl, a, _, _, _, rfl, rfl, SqT.of ha, atI_nat (j := 0) rfl, rfl, _, rfl, if_strE (fun e => absurd e (by decide +kernel)) (fun _ => ?_)⟩
      refine ⟨_, rfl, a, _, _, _, rfl, rfl, SqT.of ha, atI_nat (j := 0) rfl, (by show 2 ≤ sizeLine; decide), fun tp ntp => ⟨tp, _, rfl, .inr (SqT.of upd_same), rfl, rfl, _, rfl, ?_⟩⟩
      have s0 : Same H (upd H tp (.tup [.str "most", .str "least"])) := same_new ntp
      generalize upd H tp (.tup [.str "most", .str "least"]) = H0 at s0 ⊢
      have F00 := F0.same s0
      have B0 : But f H H0 := But.of s0
      refine if_in (zs := ["most", "least"]) (fun c => absurd c (by decide +kernel)) (fun _ => ?_)
      refine ⟨_, rfl, a, _, _, _, rfl, rfl, SqT.of (s0 _ _ ha), atI_nat (j := 0) rfl, rfl, _, rfl, if_strE (fun e => absurd e (by decide +kernel)) (fun _ => ?_)⟩
      refine ⟨_, rfl, a, _, _, _, rfl, rfl, SqT.of (s0 _ _ ha), atI_nat (j := 0) rfl, rfl, _, rfl, if_strE (fun _ => ?_) (fun e => absurd rfl e)⟩
      refine ⟨_, rfl, _, rfl, a, _, _, _, rfl, rfl, SqT.of (TK.but F0 B0 _ _ ha), atI_nat (j := 1) rfl, f, c, x, t1, 1, rfl, by decide, ht1.keep (TK.but F0 B0), by omega, okt1, by omega, F00, fun p2 u H2 hp2 w1 F2 bH2 => ?_⟩
      have B2 := B0.trans bH2
      have lu := w1.ln
      refine ⟨(by show 1 ≤ sizeLine; decide), fun p3 np3 => ?_⟩
      have sH3 : Same H2 (upd H2 p3 (.lst [V.str "<"])) := same_new np3
      have hp3 : (upd H2 p3 (.lst [V.str "<"])) p3 = some (.lst (([("<" : Str)] : List Str).map V.str)) := upd_same
      generalize upd H2 p3 (.lst [V.str "<"]) = H3 at sH3 hp3 ⊢
      have F3 := F2.same sH3
      have B3 := B2.same sH3
      refine cat_strs (sH3 _ _ hp2) hp3 (by simp only [List.length_append, List.length_cons, List.length_nil]; omega) fun p4 H4 np4 hp4 sH4 => ?_
      have F4 := F3.same sH4
      have B4 := B3.same sH4
      refine ⟨_, rfl, _, rfl, a, _, _, _, rfl, rfl, SqT.of (TK.but F0 B4 _ _ ha), atI_nat (j := 2) rfl, f, c, y, t2, 1, rfl, by decide, ht2.keep (TK.but F0 B4), by omega, okt2, by omega, F4, fun p5 v H5 hp5 w2 F5 bH5 => ?_⟩
      have B5 := B4.trans bH5
      have lv := w2.ln
      refine cat_strs (bH5 _ _ hp4 (F4.neS hp4)) hp5 (by simp only [List.length_append, List.length_cons, List.length_nil]; omega) fun p6 H6 np6 hp6 sH6 => ?_
      have F6 := F5.same sH6
      have B6 := B5.same sH6
      refine q p6 _ H6 hp6 ⟨?_, ?_, fun zz hz => ?_⟩ F6 B6
      · have g := Rd.less w1.rd w2.rd
        have e : (u ++ [("<" : Str)]) ++ v = u ++ ("<" : Str) :: v := by simp
        rw [e]
        exact g.mono (by omega)
      · rw [ep]
        simp only [List.length_append, List.length_cons, List.length_nil]
        omega
      · simp only [List.mem_append, List.mem_cons, List.not_mem_nil, or_false] at hz
        rcases hz with (hz | rfl) | hz
        · exact w1.wk _ hz
        · decide
        · exact w2.wk _ hz
    | most =>
      refine ⟨_, rfl, a, _, _, _, rfl, rfl, SqT.of ha, atI_nat (j := 0) rfl, rfl, _, rfl, if_strE (fun e => absurd e (by decide +kernel)) (fun _ => ?_)⟩
      refine ⟨_, rfl, a, _, _, _, rfl, rfl, SqT.of ha, atI_nat (j := 0) rfl, rfl, _, rfl, if_strE (fun e => absurd e (by decide +kernel)) (fun _ => ?_)⟩
      refine ⟨_, rfl, a, _, _, _, rfl, rfl, SqT.of ha, atI_nat (j := 0) rfl, rfl, _, rfl, if_strE (fun e => absurd e (by decide +kernel)) (fun _ => ?_)⟩
      refine ⟨_, rfl, a, _, _, _, rfl, rfl, SqT.of ha, atI_nat (j := 0) rfl, (by show 2 ≤ sizeLine; decide), fun tp ntp => ⟨tp, _, rfl, .inr (SqT.of upd_same), rfl, rfl, _, rfl, ?_⟩⟩
      have s0 : Same H (upd H tp (.tup [.str "most", .str "least"])) := same_new ntp
      generalize upd H tp (.tup [.str "most", .str "least"]) = H0 at s0 ⊢
      have F00 := F0.same s0
      have B0 : But f H H0 := But.of s0
      refine if_in (zs := ["most", "least"]) (fun _ => ?_) (fun c => absurd (by decide +kernel) c)
      refine ⟨_, rfl, a, _, _, _, rfl, rfl, SqT.of (s0 _ _ ha), atI_nat (j := 0) rfl, (by show 2 ≤ sizeLine; decide), fun p1 np1 => ?_⟩
      have sH1 : Same H0 (upd H0 p1 (.lst [V.str (W2.most).s, V.str "("])) := same_new np1
      have hp1 : (upd H0 p1 (.lst [V.str (W2.most).s, V.str "("])) p1 = some (.lst (([(W2.most).s, "("] : List Str).map V.str)) := upd_same
      generalize upd H0 p1 (.lst [V.str (W2.most).s, V.str "("]) = H1 at sH1 hp1 ⊢
      have F1 := F00.same sH1
      have B1 := B0.same sH1
      refine ⟨_, rfl, _, rfl, a, _, _, _, rfl, rfl, SqT.of (TK.but F0 B1 _ _ ha), atI_nat (j := 1) rfl, f, c, x, t1, 0, rfl, by decide, ht1.keep (TK.but F0 B1), by omega, okt1, by omega, F1, fun p2 u H2 hp2 w1 F2 bH2 => ?_⟩
      have B2 := B1.trans bH2
      have lu := w1.ln
      refine cat_strs (bH2 _ _ hp1 (F1.neS hp1)) hp2 (by simp only [List.length_append, List.length_cons, List.length_nil]; omega) fun p3 H3 np3 hp3 sH3 => ?_
      have F3 := F2.same sH3
      have B3 := B2.same sH3
      refine ⟨(by show 1 ≤ sizeLine; decide), fun p4 np4 => ?_⟩
      have sH4 : Same H3 (upd H3 p4 (.lst [V.str ","])) := same_new np4
      have hp4 : (upd H3 p4 (.lst [V.str ","])) p4 = some (.lst (([("," : Str)] : List Str).map V.str)) := upd_same
      generalize upd H3 p4 (.lst [V.str ","]) = H4 at sH4 hp4 ⊢
      have F4 := F3.same sH4
      have B4 := B3.same sH4
      refine cat_strs (sH4 _ _ hp3) hp4 (by simp only [List.length_append, List.length_cons, List.length_nil]; omega) fun p5 H5 np5 hp5 sH5 => ?_
      have F5 := F4.same sH5
      have B5 := B4.same sH5
      refine ⟨_, rfl, ?_⟩
      refine ⟨_, rfl, _, rfl, a, _, _, _, rfl, rfl, SqT.of (TK.but F0 B5 _ _ ha), atI_nat (j := 2) rfl, f, c, y, t2, 0, rfl, by decide, ht2.keep (TK.but F0 B5), by omega, okt2, by omega, F5, fun p6 v H6 hp6 w2 F6 bH6 => ?_⟩
      have B6 := B5.trans bH6
      have lv := w2.ln
      refine cat_strs (bH6 _ _ hp5 (F5.neS hp5)) hp6 (by simp only [List.length_append, List.length_cons, List.length_nil]; omega) fun p7 H7 np7 hp7 sH7 => ?_
      have F7 := F6.same sH7
      have B7 := B6.same sH7
      refine ⟨(by show 1 ≤ sizeLine; decide), fun p8 np8 => ?_⟩
      have sH8 : Same H7 (upd H7 p8 (.lst [V.str ")"])) := same_new np8
      have hp8 : (upd H7 p8 (.lst [V.str ")"])) p8 = some (.lst (([(")" : Str)] : List Str).map V.str)) := upd_same
      generalize upd H7 p8 (.lst [V.str ")"]) = H8 at sH8 hp8 ⊢
      have F8 := F7.same sH8
      have B8 := B7.same sH8
      refine cat_strs (sH8 _ _ hp7) hp8 (by simp only [List.length_append, List.length_cons, List.length_nil]; omega) fun p9 H9 np9 hp9 sH9 => ?_
      have F9 := F8.same sH9
      have B9 := B8.same sH9
      refine q p9 _ H9 hp9 ⟨?_, ?_, fun zz hz => ?_⟩ F9 B9
      · have g := Rd.two (w := .most) rfl w1.rd w2.rd
        have e : ((([(W2.most).s, "("] ++ u) ++ [("," : Str)]) ++ v) ++ [(")" : Str)] = (W2.most).s :: ("(" : Str) :: (u ++ ("," : Str) :: (v ++ [(")" : Str)])) := by simp [W2.s]
        rw [e]
        exact g.mono (by omega)
      · rw [ep]
        simp only [List.length_append, List.length_cons, List.length_nil]
        omega
      · simp only [List.mem_append, List.mem_cons, List.not_mem_nil, or_false] at hz
        rcases hz with ((((rfl | rfl) | hz) | rfl) | hz) | rfl
        · decide
        · decide
        · exact w1.wk _ hz
        · decide
        · exact w2.wk _ hz
        · decide
    | least =>
      refine ⟨_, rfl, a, _, _, _, rfl, rfl, SqT.of ha, atI_nat (j := 0) rfl, rfl, _, rfl, if_strE (fun e => absurd e (by decide +kernel)) (fun _ => ?_)⟩
      refine ⟨_, rfl, a, _, _, _, rfl, rfl, SqT.of ha, atI_nat (j := 0) rfl, rfl, _, rfl, if_strE (fun e => absurd e (by decide +kernel)) (fun _ => ?_)⟩
      refine ⟨_, rfl, a, _, _, _, rfl, rfl, SqT.of ha, atI_nat (j := 0) rfl, rfl, _, rfl, if_strE (fun e => absurd e (by decide +kernel)) (fun _ => ?_)⟩
      refine ⟨_, rfl, a, _, _, _, rfl, rfl, SqT.of ha, atI_nat (j := 0) rfl, (by show 2 ≤ sizeLine; decide), fun tp ntp => ⟨tp, _, rfl, .inr (SqT.of upd_same), rfl, rfl, _, rfl, ?_⟩⟩
      have s0 : Same H (upd H tp (.tup [.str "most", .str "least"])) := same_new ntp
      generalize upd H tp (.tup [.str "most", .str "least"]) = H0 at s0 ⊢
      have F00 := F0.same s0
      have B0 : But f H H0 := But.of s0
      refine if_in (zs := ["most", "least"]) (fun _ => ?_) (fun c => absurd (by decide +kernel) c)
      refine ⟨_, rfl, a, _, _, _, rfl, rfl, SqT.of (s0 _ _ ha), atI_nat (j := 0) rfl, (by show 2 ≤ sizeLine; decide), fun p1 np1 => ?_⟩
      have sH1 : Same H0 (upd H0 p1 (.lst [V.str (W2.least).s, V.str "("])) := same_new np1
      have hp1 : (upd H0 p1 (.lst [V.str (W2.least).s, V.str "("])) p1 = some (.lst (([(W2.least).s, "("] : List Str).map V.str)) := upd_same
      generalize upd H0 p1 (.lst [V.str (W2.least).s, V.str "("]) = H1 at sH1 hp1 ⊢
      have F1 := F00.same sH1
      have B1 := B0.same sH1
      refine ⟨_, rfl, _, rfl, a, _, _, _, rfl, rfl, SqT.of (TK.but F0 B1 _ _ ha), atI_nat (j := 1) rfl, f, c, x, t1, 0, rfl, by decide, ht1.keep (TK.but F0 B1), by omega, okt1, by omega, F1, fun p2 u H2 hp2 w1 F2 bH2 => ?_⟩
      have B2 := B1.trans bH2
      have lu := w1.ln
      refine cat_strs (bH2 _ _ hp1 (F1.neS hp1)) hp2 (by simp only [List.length_append, List.length_cons, List.length_nil]; omega) fun p3 H3 np3 hp3 sH3 => ?_
      have F3 := F2.same sH3
      have B3 := B2.same sH3
      refine ⟨(by show 1 ≤ sizeLine; decide), fun p4 np4 => ?_⟩
      have sH4 : Same H3 (upd H3 p4 (.lst [V.str ","])) := same_new np4
      have hp4 : (upd H3 p4 (.lst [V.str ","])) p4 = some (.lst (([("," : Str)] : List Str).map V.str)) := upd_same
      generalize upd H3 p4 (.lst [V.str ","]) = H4 at sH4 hp4 ⊢
      have F4 := F3.same sH4
      have B4 := B3.same sH4
      refine cat_strs (sH4 _ _ hp3) hp4 (by simp only [List.length_append, List.length_cons, List.length_nil]; omega) fun p5 H5 np5 hp5 sH5 => ?_
      have F5 := F4.same sH5
      have B5 := B4.same sH5
      refine ⟨_, rfl, ?_⟩
      refine ⟨_, rfl, _, rfl, a, _, _, _, rfl, rfl, SqT.of (TK.but F0 B5 _ _ ha), atI_nat (j := 2) rfl, f, c, y, t2, 0, rfl, by decide, ht2.keep (TK.but F0 B5), by omega, okt2, by omega, F5, fun p6 v H6 hp6 w2 F6 bH6 => ?_⟩
      have B6 := B5.trans bH6
      have lv := w2.ln
      refine cat_strs (bH6 _ _ hp5 (F5.neS hp5)) hp6 (by simp only [List.length_append, List.length_cons, List.length_nil]; omega) fun p7 H7 np7 hp7 sH7 => ?_
      have F7 := F6.same sH7
      have B7 := B6.same sH7
      refine ⟨(by show 1 ≤ sizeLine; decide), fun p8 np8 => ?_⟩
      have sH8 : Same H7 (upd H7 p8 (.lst [V.str ")"])) := same_new np8
      have hp8 : (upd H7 p8 (.lst [V.str ")"])) p8 = some (.lst (([(")" : Str)] : List Str).map V.str)) := upd_same
      generalize upd H7 p8 (.lst [V.str ")"]) = H8 at sH8 hp8 ⊢
      have F8 := F7.same sH8
      have B8 := B7.same sH8
      refine cat_strs (sH8 _ _ hp7) hp8 (by simp only [List.length_append, List.length_cons, List.length_nil]; omega) fun p9 H9 np9 hp9 sH9 => ?_
      have F9 := F8.same sH9
      have B9 := B8.same sH9
      refine q p9 _ H9 hp9 ⟨?_, ?_, fun zz hz => ?_⟩ F9 B9
      · have g := Rd.two (w := .least) rfl w1.rd w2.rd
        have e : ((([(W2.least).s, "("] ++ u) ++ [("," : Str)]) ++ v) ++ [(")" : Str)] = (W2.least).s :: ("(" : Str) :: (u ++ ("," : Str) :: (v ++ [(")" : Str)])) := by simp [W2.s]
        rw [e]
        exact g.mono (by omega)
      · rw [ep]
        simp only [List.length_append, List.length_cons, List.length_nil]
        omega
      · simp only [List.mem_append, List.mem_cons, List.not_mem_nil, or_false] at hz
        rcases hz with ((((rfl | rfl) | hz) | rfl) | hz) | rfl
        · decide
        · decide
        · exact w1.wk _ hz
        · decide
        · exact w2.wk _ hz
        · decide
  | o3 t1 t2 t3 =>
    obtain ⟨a, x, y, z, rfl, ha, ht1, ht2, ht3⟩ := ht
    have okt1 : OkT t1 := ⟨ok.sm.1, fun q hq => ok.nm q (List.mem_append.mpr (.inl (List.mem_append.mpr (.inl hq))))⟩
    have okt2 : OkT t2 := ⟨ok.sm.2.1, fun q hq => ok.nm q (List.mem_append.mpr (.inl (List.mem_append.mpr (.inr hq))))⟩
    have okt3 : OkT t3 := ⟨ok.sm.2.2, fun q hq => ok.nm q (List.mem_append.mpr (.inr hq))⟩
    have hd : max t1.dep (max t2.dep t3.dep) + 1 ≤ n + 1 := hd
    have ep : (Tr.o3 t1 t2 t3).parts.length = t1.parts.length + t2.parts.length + t3.parts.length + 1 := by simp [Tr.parts]; omega
    rw [ep] at lp
    refine ⟨_, rfl, a, _, _, _, rfl, rfl, SqT.of ha, atI_nat (j := 0) rfl, rfl, _, rfl, if_strE (fun e => absurd e (by decide +kernel)) (fun _ => ?_)⟩
    refine ⟨_, rfl, a, _, _, _, rfl, rfl, SqT.of ha, atI_nat (j := 0) rfl, rfl, _, rfl, if_strE (fun e => absurd e (by decide +kernel)) (fun _ => ?_)⟩
    refine ⟨_, rfl, a, _, _, _, rfl, rfl, SqT.of ha, atI_nat (j := 0) rfl, rfl, _, rfl, if_strE (fun e => absurd e (by decide +kernel)) (fun _ => ?_)⟩
    refine ⟨_, rfl, a, _, _, _, rfl, rfl, SqT.of ha, atI_nat (j := 0) rfl, (by show 2 ≤ sizeLine; decide), fun tp ntp => ⟨tp, _, rfl, .inr (SqT.of upd_same), rfl, rfl, _, rfl, ?_⟩⟩
    have s0 : Same H (upd H tp (.tup [.str "most", .str "least"])) := same_new ntp
    generalize upd H tp (.tup [.str "most", .str "least"]) = H0 at s0 ⊢
    have F00 := F0.same s0
    have B0 : But f H H0 := But.of s0
    refine if_in (zs := ["most", "least"]) (fun c => absurd c (by decide +kernel)) (fun _ => ?_)
    refine ⟨_, rfl, a, _, _, _, rfl, rfl, SqT.of (s0 _ _ ha), atI_nat (j := 0) rfl, rfl, _, rfl, if_strE (fun _ => ?_) (fun e => absurd rfl e)⟩
    refine ⟨(by show 1 ≤ sizeLine; decide), fun p1 np1 => ?_⟩
    have sH1 : Same H0 (upd H0 p1 (.lst [V.str "if"])) := same_new np1
    have hp1 : (upd H0 p1 (.lst [V.str "if"])) p1 = some (.lst (([("if" : Str)] : List Str).map V.str)) := upd_same
    generalize upd H0 p1 (.lst [V.str "if"]) = H1 at sH1 hp1 ⊢
    have F1 := F00.same sH1
    have B1 := B0.same sH1
    refine ⟨_, rfl, _, rfl, a, _, _, _, rfl, rfl, SqT.of (TK.but F0 B1 _ _ ha), atI_nat (j := 1) rfl, f, c, x, t1, 0, rfl, by decide, ht1.keep (TK.but F0 B1), by omega, okt1, by omega, F1, fun p2 u H2 hp2 w1 F2 bH2 => ?_⟩
    have B2 := B1.trans bH2
    have lu := w1.ln
    refine cat_strs (bH2 _ _ hp1 (F1.neS hp1)) hp2 (by simp only [List.length_append, List.length_cons, List.length_nil]; omega) fun p3 H3 np3 hp3 sH3 => ?_
    have F3 := F2.same sH3
    have B3 := B2.same sH3
    refine ⟨(by show 1 ≤ sizeLine; decide), fun p4 np4 => ?_⟩
    have sH4 : Same H3 (upd H3 p4 (.lst [V.str "then"])) := same_new np4
    have hp4 : (upd H3 p4 (.lst [V.str "then"])) p4 = some (.lst (([("then" : Str)] : List Str).map V.str)) := upd_same
    generalize upd H3 p4 (.lst [V.str "then"]) = H4 at sH4 hp4 ⊢
    have F4 := F3.same sH4
    have B4 := B3.same sH4
    refine cat_strs (sH4 _ _ hp3) hp4 (by simp only [List.length_append, List.length_cons, List.length_nil]; omega) fun p5 H5 np5 hp5 sH5 => ?_
    have F5 := F4.same sH5
    have B5 := B4.same sH5
    refine ⟨_, rfl, _, rfl, a, _, _, _, rfl, rfl, SqT.of (TK.but F0 B5 _ _ ha), atI_nat (j := 2) rfl, f, c, y, t2, 0, rfl, by decide, ht2.keep (TK.but F0 B5), by omega, okt2, by omega, F5, fun p6 v H6 hp6 w2 F6 bH6 => ?_⟩
    have B6 := B5.trans bH6
    have lv := w2.ln
    refine cat_strs (bH6 _ _ hp5 (F5.neS hp5)) hp6 (by simp only [List.length_append, List.length_cons, List.length_nil]; omega) fun p7 H7 np7 hp7 sH7 => ?_
    have F7 := F6.same sH7
    have B7 := B6.same sH7
    refine ⟨_, rfl, ?_⟩
    refine ⟨(by show 1 ≤ sizeLine; decide), fun p8 np8 => ?_⟩
    have sH8 : Same H7 (upd H7 p8 (.lst [V.str "else"])) := same_new np8
    have hp8 : (upd H7 p8 (.lst [V.str "else"])) p8 = some (.lst (([("else" : Str)] : List Str).map V.str)) := upd_same
    generalize upd H7 p8 (.lst [V.str "else"]) = H8 at sH8 hp8 ⊢
    have F8 := F7.same sH8
    have B8 := B7.same sH8
    refine cat_strs (sH8 _ _ hp7) hp8 (by simp only [List.length_append, List.length_cons, List.length_nil]; omega) fun p9 H9 np9 hp9 sH9 => ?_
    have F9 := F8.same sH9
    have B9 := B8.same sH9
    refine ⟨_, rfl, _, rfl, a, _, _, _, rfl, rfl, SqT.of (TK.but F0 B9 _ _ ha), atI_nat (j := 3) rfl, f, c, z, t3, 0, rfl, by decide, ht3.keep (TK.but F0 B9), by omega, okt3, by omega, F9, fun p10 x3 H10 hp10 w3 F10 bH10 => ?_⟩
    have B10 := B9.trans bH10
    have lx3 := w3.ln
    refine cat_strs (bH10 _ _ hp9 (F9.neS hp9)) hp10 (by simp only [List.length_append, List.length_cons, List.length_nil]; omega) fun p11 H11 np11 hp11 sH11 => ?_
    have F11 := F10.same sH11
    have B11 := B10.same sH11
    refine q p11 _ H11 hp11 ⟨?_, ?_, fun zz hz => ?_⟩ F11 B11
    · have g := Rd.pick w1.rd w2.rd w3.rd
      have e : ((([("if" : Str)] ++ u) ++ [("then" : Str)] ++ v) ++ [("else" : Str)]) ++ x3 = ("if" : Str) :: (u ++ ("then" : Str) :: (v ++ ("else" : Str) :: x3)) := by simp
      rw [e]
      exact g.mono (by omega)
    · rw [ep]
      simp only [List.length_append, List.length_cons, List.length_nil]
      omega
    · simp only [List.mem_append, List.mem_cons, List.not_mem_nil, or_false] at hz
      rcases hz with ((((rfl | hz) | rfl) | hz) | rfl) | hz
      · decide
      · exact w1.wk _ hz
      · decide
      · exact w2.wk _ hz
      · decide
      · exact w3.wk _ hz
theorem written_both {C : Addr} (T : Top w K mg C) : ∀ n, FnR2 P w K mg base "_law_bare" s_law_bare (2 * n + 3) ["_law_flow_here", "_law_tree_here"] (spBa n) ∧ FnR2 P w K mg base "_law_written" s_law_written (2 * n + 4) ["_law_flow_here", "_law_tree_here", "_law_level"] (spWr n)
  | 0 => by
    have b : FnR2 P w K mg base "_law_bare" s_law_bare (2 * 0 + 3) ["_law_flow_here", "_law_tree_here"] (spBa 0) := fun f fd F => fn_no fun vs H Q E ⟨_, _, _, t, _, _, d, _⟩ => by
      have := t.dep_pos
      omega
    exact ⟨b, fun f fd F => written_step T 0 b F⟩
  | n + 1 => by
    have ih := written_both T n
    have b : FnR2 P w K mg base "_law_bare" s_law_bare (2 * (n + 1) + 3) ["_law_flow_here", "_law_tree_here"] (spBa (n + 1)) := fun f fd F => bare_step T n ih.2 F
    exact ⟨b, fun f fd F => written_step T (n + 1) b F⟩
abbrev sp_law_written (_ : PySem.W.Frag) : Sp := spWr 11
theorem ok_law_written {C : Addr} {f : Addr} {fd : FuncData} (F : Fun K "_law_written" "_law_written" s_law_written f fd) (T : Top w K mg C) : FnOk P w K mg base CX0 26 f fd ["_law_flow_here", "_law_tree_here", "_law_level"] (sp_law_written K) := (written_both T 11).2 f fd F
end
/-! ### texts put together are split again -/
theorem cps_inj : ∀ {L M : List Str}, L.map (fun z => z.cps.toList) = M.map (fun z => z.cps.toList) → L = M
  | [], [], _ => rfl
  | [], _ :: _, h => nomatch h
  | _ :: _, [], h => nomatch h
  | a :: L, b :: M, h => by
    rw [List.map_cons, List.map_cons] at h
    obtain ⟨h1, h2⟩ := List.cons.inj h
    rw [str_inj h1, cps_inj h2]
theorem split_join {c : Nat} (hc : c < 256) {L : List Str} (ne : L ≠ []) (no : ∀ z ∈ L, c ∉ z.cps.toList) : Txt.split (Txt.join ⟨#[c]⟩ L) ⟨#[c]⟩ = L := by
  refine cps_inj ?_
  rw [split_one _ hc, join_one, splitL_join (by intro z; exact ne (List.map_eq_nil_iff.mp z)) fun p hp => ?_]
  obtain ⟨z, hz, rfl⟩ := List.mem_map.mp hp
  exact no z hz
/-- what a word of a row must not hold -/
def NoSp (z : Str) : Prop := 32 ∉ z.cps.toList ∧ 10 ∉ z.cps.toList
theorem joinL_no {c d : Nat} (ne : c ≠ d) : ∀ {ps : List (List Nat)}, (∀ p ∈ ps, d ∉ p) → d ∉ joinL c ps
  | [], _ => by simp [joinL]
  | [p], h => by simpa [joinL] using h p (List.mem_singleton.mpr rfl)
  | p :: q :: r, h => by
    have ih := joinL_no ne (ps := q :: r) fun x hx => h x (List.mem_cons_of_mem _ hx)
    rw [joinL_flat]
    intro m
    rcases List.mem_append.mp m with m | m
    · exact h p (List.mem_cons_self ..) m
    · obtain ⟨l, hl, hm⟩ := List.mem_flatten.mp m
      obtain ⟨x, hx, rfl⟩ := List.mem_map.mp hl
      rcases List.mem_cons.mp hm with e | e
      · exact ne e.symm
      · exact h x (List.mem_cons_of_mem _ hx) e
/-- rows of words, put together with blanks and new lines, come apart again -/
theorem rows_split {rws : List (List Str)} (ne : rws ≠ []) (nn : ∀ u ∈ rws, u ≠ []) (no : ∀ u ∈ rws, ∀ z ∈ u, NoSp z) :
    Txt.split (Txt.join ⟨#[10]⟩ (rws.map (Txt.join ⟨#[32]⟩))) ⟨#[10]⟩ = rws.map (Txt.join ⟨#[32]⟩) ∧ ∀ u ∈ rws, Txt.split (Txt.join ⟨#[32]⟩ u) ⟨#[32]⟩ = u := by
  refine ⟨split_join (by decide) (by intro z; exact ne (List.map_eq_nil_iff.mp z)) fun z hz => ?_, fun u hu => split_join (by decide) (nn u hu) fun z hz => (no u hu z hz).1⟩
  obtain ⟨u, hu, rfl⟩ := List.mem_map.mp hz
  rw [join_one]
  refine joinL_no (by decide) fun p hp => ?_
  obtain ⟨y, hy, rfl⟩ := List.mem_map.mp hp
  exact (no u hu y hy).2
theorem name_nosp {z : Str} (h : nameB z = true) : NoSp z := by
  unfold nameB at h
  split at h
  · cases h
  · rw [Bool.and_eq_true, List.all_eq_true] at h
    have al : ∀ d ∈ z.cps.toList, 97 ≤ d := fun d hd => (letters_ok d (of_decide_eq_true (h.2 d hd))).1
    exact ⟨fun m => absurd (al _ m) (by decide), fun m => absurd (al _ m) (by decide)⟩
theorem num_nosp {z : Str} {i : Int} (h : numW z i) : NoSp z := by
  obtain ⟨_, _, ad, _⟩ := numO_some h.1
  have al : ∀ d ∈ z.cps.toList, d = 45 ∨ 48 ≤ d := fun d hd => by
    unfold figL at ad
    split at ad
    · rename_i e
      cases hl : z.cps.toList with
      | nil => rw [hl] at hd; cases hd
      | cons x r =>
        rw [hl] at hd e ad
        rcases List.mem_cons.mp hd with y | y
        · rw [y]; exact .inl (Option.some.inj e)
        · exact .inr (ad d y).1
    · exact .inr (ad d hd).1
  refine ⟨fun m => ?_, fun m => ?_⟩
  · rcases al _ m with y | y <;> omega
  · rcases al _ m with y | y <;> omega
theorem sp_lit : ∀ z ∈ ([("(" : Str), ")", "@", ",", "*", "<", "if", "then", "else", "+", "-", "most", "least", "was", ":", "=", "in", "out", "sum", "gap", "below"] : List Str), NoSp z := by
  unfold NoSp
  decide +kernel
theorem Rd.nosp {l : Nat} {t : Tr} {u : List Str} {h : Nat} (r : Rd l t u h) : ∀ z ∈ u, NoSp z := by
  induction r with
  | up _ _ ih => exact ih
  | par _ ih =>
    intro z hz
    simp only [List.mem_cons, List.mem_append, List.not_mem_nil, or_false] at hz
    rcases hz with rfl | hz | rfl
    · exact sp_lit _ (by simp)
    · exact ih z hz
    · exact sp_lit _ (by simp)
  | num g => intro z hz; rw [List.mem_singleton.mp hz]; exact num_nosp g
  | nam g => intro z hz; rw [List.mem_singleton.mp hz]; exact name_nosp g.1
  | ago g y =>
    intro z hz
    simp only [List.mem_cons, List.not_mem_nil, or_false] at hz
    rcases hz with rfl | rfl | rfl
    · exact name_nosp g.1
    · exact sp_lit _ (by simp)
    · exact num_nosp y
  | @two w a b u v h g _ _ i1 i2 =>
    intro z hz
    simp only [List.mem_cons, List.mem_append, List.not_mem_nil, or_false] at hz
    rcases hz with rfl | rfl | hz | rfl | hz | rfl
    · cases w <;> exact sp_lit _ (by simp [W2.s])
    · exact sp_lit _ (by simp)
    · exact i1 z hz
    · exact sp_lit _ (by simp)
    · exact i2 z hz
    · exact sp_lit _ (by simp)
  | times g _ ih =>
    intro z hz
    simp only [List.mem_cons] at hz
    rcases hz with rfl | rfl | hz
    · exact num_nosp g
    · exact sp_lit _ (by simp)
    · exact ih z hz
  | @sum w s a b u v h p _ _ i1 i2 =>
    intro z hz
    simp only [List.mem_cons, List.mem_append] at hz
    rcases hz with hz | rfl | hz
    · exact i1 z hz
    · cases w <;> cases p <;> exact sp_lit _ (by simp)
    · exact i2 z hz
  | less _ _ i1 i2 =>
    intro z hz
    simp only [List.mem_cons, List.mem_append] at hz
    rcases hz with hz | rfl | hz
    · exact i1 z hz
    · exact sp_lit _ (by simp)
    · exact i2 z hz
  | pick _ _ _ i1 i2 i3 =>
    intro z hz
    simp only [List.mem_cons, List.mem_append] at hz
    rcases hz with rfl | hz | rfl | hz | rfl | hz
    · exact sp_lit _ (by simp)
    · exact i1 z hz
    · exact sp_lit _ (by simp)
    · exact i2 z hz
    · exact sp_lit _ (by simp)
    · exact i3 z hz
/-- a drawn name is a name -/
theorem wd_name {z : Str} (h : Wd 6 z) (n : z ∉ takL) : namW z := by
  refine ⟨?_, Nat.le_trans h.hi (by decide)⟩
  have lo := h.lo
  have hi := h.hi
  unfold nameB
  rw [if_neg (by omega), Bool.and_eq_true]
  refine ⟨?_, List.all_eq_true.mpr fun c hc => decide_eq_true ?_⟩
  · rw [show takV = takL.map V.str from rfl]
    cases e : inV (.str z) (takL.map V.str) with
    | true => exact absurd (inV_strs.mp e) n
    | false => rfl
  · have al : ∀ c, 97 ≤ c → c ≤ 122 → c ∈ letS.cps.toList := by
      intro c c1 c2
      have : ∀ d, d < 26 → 97 + d ∈ letS.cps.toList := by decide +kernel
      have := this (c - 97) (by omega)
      rwa [show 97 + (c - 97) = c by omega] at this
    obtain ⟨g1, g2⟩ := h.ltr c hc
    exact al c g1 g2
theorem OkT.of {t : Tr} {own : List Str} (sm : t.small) (wd : ∀ z ∈ own, Wd 6 z ∧ z ∉ takL) (ln : ∀ q ∈ t.leans, q.1 ∈ own ∧ q.2 ≤ 6) : OkT t := ⟨sm, fun q hq => by
  obtain ⟨h1, h2⟩ := ln q hq
  obtain ⟨g1, g2⟩ := wd _ h1
  exact ⟨wd_name g1 g2, by omega⟩⟩
/-! ### one text over a figure -/
theorem app_cps (a b : Str) : (a ++ b).cps.toList = a.cps.toList ++ b.cps.toList := by
  show (a.cps ++ b.cps).toList = _
  rw [Array.toList_append]
def greatR (F : Str) : List (List Str) := [["in"], ["was", "q", ":", F, "-" ++ F], ["q", "=", "-" ++ F, "*", "q", "@", F, "+", F], ["out", "q", "q"]]
theorem great_join (F : Str) : (((((((((((("in\nwas q : " : Str) ++ F) ++ " -") ++ F) ++ "\nq = -") ++ F) ++ " * q @ ") ++ F) ++ " + ") ++ F) ++ "\nout q q") : Str) = Txt.join ⟨#[10]⟩ ((greatR F).map (Txt.join ⟨#[32]⟩)) := by
  refine str_inj ?_
  have c1 : ("in\nwas q : " : Str).cps.toList = [105, 110, 10, 119, 97, 115, 32, 113, 32, 58, 32] := by decide +kernel
  have c2 : (" -" : Str).cps.toList = [32, 45] := by decide +kernel
  have c3 : ("\nq = -" : Str).cps.toList = [10, 113, 32, 61, 32, 45] := by decide +kernel
  have c4 : (" * q @ " : Str).cps.toList = [32, 42, 32, 113, 32, 64, 32] := by decide +kernel
  have c5 : (" + " : Str).cps.toList = [32, 43, 32] := by decide +kernel
  have c6 : ("\nout q q" : Str).cps.toList = [10, 111, 117, 116, 32, 113, 32, 113] := by decide +kernel
  have d1 : ("in" : Str).cps.toList = [105, 110] := by decide +kernel
  have d2 : ("was" : Str).cps.toList = [119, 97, 115] := by decide +kernel
  have d3 : ("q" : Str).cps.toList = [113] := by decide +kernel
  have d4 : (":" : Str).cps.toList = [58] := by decide +kernel
  have d5 : ("-" : Str).cps.toList = [45] := by decide +kernel
  have d6 : ("=" : Str).cps.toList = [61] := by decide +kernel
  have d7 : ("*" : Str).cps.toList = [42] := by decide +kernel
  have d8 : ("@" : Str).cps.toList = [64] := by decide +kernel
  have d9 : ("+" : Str).cps.toList = [43] := by decide +kernel
  have d0 : ("out" : Str).cps.toList = [111, 117, 116] := by decide +kernel
  rw [join_one]
  simp only [greatR, List.map_cons, List.map_nil, join_one, app_cps, c1, c2, c3, c4, c5, c6, d0, d1, d2, d3, d4, d5, d6, d7, d8, d9, joinL, List.append_assoc, List.cons_append, List.nil_append]
theorem All2.take {α β : Type} {R : α → β → Prop} : ∀ {as : List α} {bs : List β}, All2 R as bs → ∀ n, All2 R (as.take n) (bs.take n)
  | _, _, .nil, n => by rw [List.take_nil, List.take_nil]; exact .nil
  | _, _, .cons h t, 0 => .nil
  | _, _, .cons h t, n + 1 => .cons h (t.take n)
theorem All2.drop {α β : Type} {R : α → β → Prop} : ∀ {as : List α} {bs : List β}, All2 R as bs → ∀ n, All2 R (as.drop n) (bs.drop n)
  | _, _, .nil, n => by rw [List.drop_nil, List.drop_nil]; exact .nil
  | _, _, .cons h t, 0 => .cons h t
  | _, _, .cons h t, n + 1 => t.drop n
/-! ### formulas written as a text -/
theorem joinL_len21 (c : Nat) : ∀ {ps : List (List Nat)} {B : Nat}, (∀ p ∈ ps, p.length ≤ B) → (joinL c ps).length ≤ ps.length * (B + 1)
  | [], _, _ => Nat.zero_le _
  | [p], B, h => by
    have := h p (List.mem_cons_self ..)
    show p.length ≤ 1 * (B + 1)
    omega
  | p :: q :: r, B, h => by
    have := h p (List.mem_cons_self ..)
    have ih := joinL_len21 c (ps := q :: r) fun z hz => h z (List.mem_cons_of_mem _ hz)
    show (p ++ c :: joinL c (q :: r)).length ≤ (q :: r).length.succ * (B + 1)
    rw [List.length_append, List.length_cons, Nat.succ_mul]
    omega
theorem join_len21 {c : Nat} {ps : List Str} {B : Nat} (h : ∀ p ∈ ps, p.length ≤ B) : (Txt.join ⟨#[c]⟩ ps).length ≤ ps.length * (B + 1) := by
  rw [strlen, join_one]
  have := joinL_len21 c (ps := ps.map fun z => z.cps.toList) (B := B) fun p hp => by
    obtain ⟨z, hz, rfl⟩ := List.mem_map.mp hp
    rw [← strlen]; exact h z hz
  rwa [List.length_map] at this
theorem join_ok21 {B n : Nat} (a : Str) {ys : List Str} (h : ∀ z ∈ ys, z.length ≤ B) (l : ys.length ≤ n) (k : n * (B + a.length) ≤ 16777216) : (ys.map (·.length)).sum + ys.length * a.length ≤ 16777216 := by
  have e : ∀ xs : List Str, (∀ z ∈ xs, z.length ≤ B) → (xs.map (·.length)).sum ≤ xs.length * B := by
    intro xs
    induction xs with
    | nil => intro _; exact Nat.zero_le _
    | cons x r ih =>
      intro g
      have := ih fun z hz => g z (List.mem_cons_of_mem _ hz)
      have := g x (List.mem_cons_self ..)
      rw [List.map_cons, List.sum_cons, List.length_cons, Nat.succ_mul]
      omega
  have h1 := e ys h
  have h2 := Nat.mul_le_mul_right (B + a.length) l
  rw [Nat.mul_add] at h2
  omega
theorem sp32 : (" " : Str) = ⟨#[32]⟩ := str_inj (by decide +kernel)
theorem nl10 : ("\n" : Str) = ⟨#[10]⟩ := str_inj (by decide +kernel)
theorem RwOk.nosp {u : List Str} {m : Mid} (h : RwOk u m) : u ≠ [] ∧ ∀ z ∈ u, NoSp z := by
  cases m with
  | inl p =>
    obtain ⟨ys, rfl, nz, an⟩ := h
    refine ⟨(fun z => nomatch z), fun z hz => ?_⟩
    simp only [List.mem_cons] at hz
    rcases hz with rfl | rfl | rfl | hz
    · exact sp_lit _ (by simp)
    · exact name_nosp nz.1
    · exact sp_lit _ (by simp)
    · obtain ⟨j, ej⟩ := List.getElem?_of_mem hz
      obtain ⟨i, _, g⟩ := an.getL ej
      exact num_nosp g
  | inr p =>
    obtain ⟨v, rfl, nz, rd⟩ := h
    refine ⟨(fun z => nomatch z), fun z hz => ?_⟩
    simp only [List.mem_cons] at hz
    rcases hz with rfl | rfl | hz
    · exact name_nosp nz.1
    · exact sp_lit _ (by simp)
    · exact rd.nosp z hz
abbrev rowsT (ins outs : List Str) (mid : List (List Str)) : List (List Str) := (("in" : Str) :: ins) :: (mid ++ [("out" : Str) :: outs])
theorem All2.mapL {α β γ : Type} {R : γ → β → Prop} (g : α → γ) : ∀ {as : List α} {bs : List β}, All2 (fun a b => R (g a) b) as bs → All2 R (as.map g) bs
  | _, _, .nil => .nil
  | _, _, .cons h t => .cons h (All2.mapL g t)
theorem all2_self {α β : Type} {R : β → α → Prop} (g : α → β) : ∀ {l : List α}, (∀ x ∈ l, R (g x) x) → All2 R (l.map g) l
  | [], _ => .nil
  | x :: r, h => .cons (h x (List.mem_cons_self ..)) (all2_self g fun y hy => h y (List.mem_cons_of_mem _ hy))
theorem TxOk.of {ins outs : List Str} {mid : List (List Str)} {ms : List Mid} (mi : All2 RwOk mid ms) (mw : ∀ u ∈ mid, u.length ≤ 40 ∧ WOk u) (hi : ∀ z ∈ ins, namW z) (ho : ∀ z ∈ outs, namW z) (li : ins.length ≤ 39) (lo : outs.length ≤ 39) (lm : mid.length ≤ 100) :
    TxOk (Txt.join ⟨#[10]⟩ ((rowsT ins outs mid).map (Txt.join ⟨#[32]⟩))) ((rowsT ins outs mid).map (Txt.join ⟨#[32]⟩)) ins outs mid ms := by
  have rw' : ∀ u ∈ rowsT ins outs mid, (u ≠ [] ∧ ∀ z ∈ u, NoSp z) ∧ u.length ≤ 40 ∧ ∀ z ∈ u, z.length ≤ 100 := fun u hu => by
    simp only [rowsT, List.mem_cons, List.mem_append, List.not_mem_nil, or_false] at hu
    rcases hu with rfl | hu | rfl
    · refine ⟨⟨(fun z => nomatch z), fun z hz => ?_⟩, by rw [List.length_cons]; omega, fun z hz => ?_⟩
      · rcases List.mem_cons.mp hz with rfl | hz
        · exact sp_lit _ (by simp)
        · exact name_nosp (hi z hz).1
      · rcases List.mem_cons.mp hz with rfl | hz
        · decide
        · exact (hi z hz).2
    · obtain ⟨j, ej⟩ := List.getElem?_of_mem hu
      obtain ⟨m, _, g⟩ := mi.getL ej
      exact ⟨g.nosp, mw u hu⟩
    · refine ⟨⟨(fun z => nomatch z), fun z hz => ?_⟩, by rw [List.length_cons]; omega, fun z hz => ?_⟩
      · rcases List.mem_cons.mp hz with rfl | hz
        · exact sp_lit _ (by simp)
        · exact name_nosp (ho z hz).1
      · rcases List.mem_cons.mp hz with rfl | hz
        · decide
        · exact (ho z hz).2
  obtain ⟨s1, s2⟩ := rows_split (rws := rowsT ins outs mid) (fun z => nomatch z) (fun u hu => (rw' u hu).1.1) fun u hu => (rw' u hu).1.2
  have rl : ∀ u ∈ rowsT ins outs mid, (Txt.join ⟨#[32]⟩ u).length ≤ 4040 := fun u hu => by
    obtain ⟨_, h1, h2⟩ := rw' u hu
    have := join_len21 (c := 32) h2
    omega
  have lr : (rowsT ins outs mid).length ≤ 102 := by
    simp only [rowsT, List.length_cons, List.length_append, List.length_nil]
    omega
  refine ⟨?_, by rw [nl10]; exact s1, all2_self _ fun u hu => ⟨by rw [sp32]; exact s2 u hu, by have := rl u hu; omega⟩, mi, mw, hi, ho, li, lo, lm⟩
  have := join_len21 (c := 10) (ps := (rowsT ins outs mid).map (Txt.join ⟨#[32]⟩)) (B := 4040) fun p hp => by
    obtain ⟨u, hu, rfl⟩ := List.mem_map.mp hp
    exact rl u hu
  rw [List.length_map] at this
  have := Nat.mul_le_mul_right 4041 lr
  omega
abbrev txI (i : Int) : Str := ((toString i : String) : Str)
abbrev waW (p : Str × List Int) : List Str := ("was" : Str) :: p.1 :: (":" : Str) :: p.2.map txI
theorem small_nat {i : Int} (h : Small i) : i.natAbs ≤ 1000000 := by unfold Small at h; omega
theorem GFm.names {most : Nat} {F : Fm} (g : GFm most F) : (∀ z ∈ F.own, namW z) ∧ (∀ z ∈ F.ins, namW z) ∧ (∀ z ∈ F.outs, namW z) ∧ (∀ p ∈ F.was, namW p.1) ∧ ∀ p ∈ F.rules, namW p.1 := by
  have ow : ∀ z ∈ F.own, namW z := fun z hz => wd_name (g.wd z hz).1 (g.wd z hz).2
  exact ⟨ow, fun z hz => ow z (List.mem_append.mpr (.inl hz)), fun z hz => ow z (g.oo z hz), fun p hp => ow _ (g.ko _ (List.mem_map.mpr ⟨p, hp, rfl⟩)), fun p hp => ow _ (List.mem_append.mpr (.inr (List.mem_map.mpr ⟨p, hp, rfl⟩)))⟩
theorem was_rows {most : Nat} {F : Fm} (g : GFm most F) : All2 RwOk (F.was.map waW) (F.was.map Sum.inl) ∧ ∀ u ∈ F.was.map waW, u.length ≤ 40 ∧ WOk u := by
  obtain ⟨_, _, _, nw, _⟩ := g.names
  have ns : ∀ p ∈ F.was, All2 numW (p.2.map txI) p.2 := fun p hp => all2_self txI fun x hx => numW_str (small_nat ((g.th p hp).2 x hx))
  constructor
  · have : All2 (fun a b => RwOk (waW a) b) F.was (F.was.map Sum.inl) := by
      have h : ∀ l : List (Str × List Int), (∀ p ∈ l, p ∈ F.was) → All2 (fun a b => RwOk (waW a) b) l (l.map Sum.inl) := by
        intro l
        induction l with
        | nil => intro _; exact .nil
        | cons p r ih => intro h; exact .cons ⟨_, rfl, nw p (h p (List.mem_cons_self ..)), ns p (h p (List.mem_cons_self ..))⟩ (ih fun q hq => h q (List.mem_cons_of_mem _ hq))
      exact h F.was fun _ h => h
    exact All2.mapL waW this
  · intro u hu
    obtain ⟨p, hp, rfl⟩ := List.mem_map.mp hu
    have l7 := (g.th p hp).1
    refine ⟨by simp only [List.length_cons, List.length_map]; omega, fun z hz => ?_⟩
    simp only [List.mem_cons] at hz
    rcases hz with rfl | rfl | rfl | hz
    · decide
    · exact (nw p hp).2
    · decide
    · obtain ⟨j, ej⟩ := List.getElem?_of_mem hz
      obtain ⟨i, _, y⟩ := (ns p hp).getL ej
      exact y.2
theorem wa_was (l : List (Str × List Int)) : (l.map (Sum.inl : _ → Mid)).filterMap Mid.wa = l ∧ (l.map (Sum.inl : _ → Mid)).filterMap Mid.rl = [] := by
  induction l with
  | nil => exact ⟨rfl, rfl⟩
  | cons p r ih => exact ⟨by rw [List.map_cons, List.filterMap_cons]; show p :: _ = _; rw [ih.1], by rw [List.map_cons, List.filterMap_cons]; exact ih.2⟩
/-- formulas with the rules that are kept, in the place of the drawn ones -/
theorem GFm.keptG {most : Nat} {F : Fm} (g : GFm most F) {ks : List (Str × Tr)} (h : All2 (fun p q => p.1 = q.1 ∧ (p.2 = q.2 ∨ ∃ n : Nat, n ≤ 100 ∧ p.2 = .no ((n : Nat) : Int))) ks F.rules) : GFm most ⟨F.ins, F.was, ks, F.outs⟩ := by
  have en : ks.map (·.1) = F.rules.map (·.1) := by
    generalize F.rules = R at h
    induction h with
    | nil => rfl
    | cons r _ ih => rw [List.map_cons, List.map_cons, ih, r.1]
  have eo : (Fm.mk F.ins F.was ks F.outs).own = F.own := by show F.ins ++ ks.map (·.1) = _; rw [en]; rfl
  have at_ : ∀ p ∈ ks, ∃ q ∈ F.rules, p.1 = q.1 ∧ (p.2 = q.2 ∨ ∃ n : Nat, n ≤ 100 ∧ p.2 = .no ((n : Nat) : Int)) := fun p hp => by
    obtain ⟨j, ej⟩ := List.getElem?_of_mem hp
    obtain ⟨q, eq, r⟩ := h.getL ej
    exact ⟨q, List.mem_of_getElem? eq, r⟩
  refine ⟨g.li, by rw [show ks.length = F.rules.length from h.length]; exact g.lr, g.lw, g.lo, by rw [eo]; exact g.nd, by rw [eo]; exact g.wd, g.kn, by rw [eo]; exact g.ko, g.th, by rw [eo]; exact g.oo, fun p hp => ?_, ?_⟩
  · rw [eo]
    obtain ⟨q, hq, _, e | ⟨n, hn, e⟩⟩ := at_ p hp
    · rw [e]; exact g.tr q hq
    · rw [e]
      refine ⟨by show 1 ≤ 10; decide, ?_, fun q hq => nomatch hq⟩
      show Small ((n : Nat) : Int)
      unfold Small
      omega
  · obtain ⟨rk, hr⟩ := g.rk
    refine ⟨rk, fun p hp x hx ex => ?_⟩
    obtain ⟨q, hq, en, e | ⟨n, hn, e⟩⟩ := at_ p hp
    · rw [e] at hx
      rw [en]
      exact hr q hq x hx ex
    · rw [e] at hx
      cases hx
theorem ins_wa {ms : List Mid} {k : Nat} {p : Str × Tr} : (ms.take k ++ [Sum.inr p] ++ ms.drop k).filterMap Mid.wa = ms.filterMap Mid.wa := by
  rw [List.filterMap_append, List.filterMap_append]
  show ((ms.take k).filterMap Mid.wa ++ []) ++ (ms.drop k).filterMap Mid.wa = _
  rw [List.append_nil, ← List.filterMap_append, List.take_append_drop]
theorem ins_rl {ms : List Mid} {i k : Nat} {p : Str × Tr} (h : (ms.drop i).filterMap Mid.rl = []) (ik : i ≤ k) (km : k ≤ ms.length) : (ms.take k ++ [Sum.inr p] ++ ms.drop k).filterMap Mid.rl = ms.filterMap Mid.rl ++ [p] ∧ ((ms.take k ++ [Sum.inr p] ++ ms.drop k).drop (k + 1)).filterMap Mid.rl = [] := by
  have e : (ms.drop k).filterMap Mid.rl = [] := by
    have : ms.drop k = (ms.drop i).drop (k - i) := by rw [List.drop_drop]; congr 1; omega
    rw [this]
    rw [List.filterMap_eq_nil_iff] at h ⊢
    exact fun a ha => h a (List.mem_of_mem_drop ha)
  have t : (ms.take k).filterMap Mid.rl = ms.filterMap Mid.rl := by
    have : ms.filterMap Mid.rl = (ms.take k).filterMap Mid.rl ++ (ms.drop k).filterMap Mid.rl := by rw [← List.filterMap_append, List.take_append_drop]
    rw [this, e, List.append_nil]
  constructor
  · rw [List.filterMap_append, List.filterMap_append, t, e]
    show _ ++ [p] ++ [] = _
    rw [List.append_nil]
  · rw [List.drop_left' (by rw [List.length_append, List.length_take]; show min k ms.length + 1 = k + 1; omega)]
    exact e
theorem pe_joinK {X : Cx} {o e : Expr} {apos pos : Pos} {to te : TE} (K : PySem.W.Frag) (h : X.K = K) (po : PE X o to) (p : PE X e te) (hs : starEach [e] X.env = [(false, eval e X.env)] := by rfl) (hbase : attributeBase o "join" X.env (eval o X.env) = eval o X.env := by rfl) (hline : (apos.endLine == pos.line) = true := by rfl) : PE X (.Call (.Attribute o "join" apos) [e] [] pos) (tM1 (fun x xs H Q => ∃ a p, ∃ ys : List Str, x = .str a ∧ xs = [.ref p] ∧ (SqL K H p (ys.map V.str) ∨ SqT K H p (ys.map V.str)) ∧ (ys.map (·.length)).sum + ys.length * a.length ≤ 16777216 ∧ Q (.str (Txt.join a ys)) H) to te) := by
  subst h; exact pe_join po p hs hbase hline
section
variable {P : Program} {w : World} {K : PySem.W.Frag} {mg : Str → Option Value} {base : Heap}
theorem LsAt.keepS {D : Addr} {H H' : Hp} {v : V} {ws : List Str} (h : LsAt D H v ws) (s : Same H H') : LsAt D H' v ws := by
  obtain ⟨L, rfl, n, e⟩ := h
  exact ⟨L, rfl, n, s _ _ e⟩
theorem LsAt.keepB {D f c : Addr} {H H' : Hp} {v : V} {ws : List Str} (h : LsAt D H v ws) (F : Flow H f c) (b : But f H H') : LsAt D H' v ws := by
  obtain ⟨L, rfl, n, e⟩ := h
  exact ⟨L, rfl, n, b _ _ e (F.neS e)⟩
theorem LsAt.keepD {D : Addr} {H : Hp} {o : HO} {v : V} {ws : List Str} (h : LsAt D H v ws) : LsAt D (upd H D o) v ws := by
  obtain ⟨L, rfl, n, e⟩ := h
  exact ⟨L, rfl, n, by rw [upd_ne n]; exact e⟩
/-- a list of words, other than two of them -/
def Ls2 (D kl : Addr) (H : Hp) (v : V) (ws : List Str) : Prop := ∃ L : Addr, v = .ref L ∧ L ≠ D ∧ L ≠ kl ∧ H L = some (.lst (ws.map V.str))
theorem Ls2.keepS {D kl : Addr} {H H' : Hp} {v : V} {ws : List Str} (h : Ls2 D kl H v ws) (s : Same H H') : Ls2 D kl H' v ws := by
  obtain ⟨L, rfl, n, m, e⟩ := h
  exact ⟨L, rfl, n, m, s _ _ e⟩
theorem Ls2.keepB {D kl f c : Addr} {H H' : Hp} {v : V} {ws : List Str} (h : Ls2 D kl H v ws) (F : Flow H f c) (b : But f H H') : Ls2 D kl H' v ws := by
  obtain ⟨L, rfl, n, m, e⟩ := h
  exact ⟨L, rfl, n, m, b _ _ e (F.neS e)⟩
theorem Ls2.keepD {D kl : Addr} {H : Hp} {o : HO} {v : V} {ws : List Str} (h : Ls2 D kl H v ws) : Ls2 D kl (upd H D o) v ws := by
  obtain ⟨L, rfl, n, m, e⟩ := h
  exact ⟨L, rfl, n, m, by rw [upd_ne n]; exact e⟩
theorem Ls2.keepK {D kl : Addr} {H : Hp} {o : HO} {v : V} {ws : List Str} (h : Ls2 D kl H v ws) : Ls2 D kl (upd H kl o) v ws := by
  obtain ⟨L, rfl, n, m, e⟩ := h
  exact ⟨L, rfl, n, m, by rw [upd_ne m]; exact e⟩
def sp_law_text (K : PySem.W.Frag) : Sp := fun vs H Q _ => ∃ (f c r : Addr) (F : Fm) (most : Nat), vs = [.ref f, .ref r] ∧ FmAt H r F ∧ GFm most F ∧ most ≤ 5 ∧ Flow H f c ∧
  ∀ (p x : Addr) (a : Str) (G : Fm) (rs : List Str) (mid : List (List Str)) (ms : List Mid) (H' : Hp), H' p = some (.tup [.str a, .ref x]) → FmAt H' x G → GFm most G → TxOk a rs G.ins G.outs mid ms → ms.filterMap Mid.wa = G.was → ms.filterMap Mid.rl = G.rules → Flow H' f c → But f H H' → Q (.ref p) H'
set_option maxHeartbeats 0 in
theorem ok_law_text {f : Addr} {fd : FuncData} (F : Fun K "_law_text" "_law_text" s_law_text f fd) {C : Addr} (T : Top w K mg C) : FnOk P w K mg base CX0 27 f fd ["_law_flow_here", "_law_formulas_here"] (sp_law_text K) := by
  obtain ⟨f_law_written, fd_law_written, F_law_written, b_law_written, m_law_written⟩ := T.d_law_written
  have G_law_written := ok_law_written (P := P) (w := w) (base := base) F_law_written T
  obtain ⟨f_law_pick, fd_law_pick, F_law_pick, b_law_pick, m_law_pick⟩ := T.d_law_pick
  have G_law_pick := ok_law_pick (P := P) (w := w) (base := base) F_law_pick T
  refine F.ok sc_law_text (fun vs H Q E h => ?_) (fun cdv A outer s H vs Q E hr h => ?_)
  · obtain ⟨f, c, r, F, most, rfl, _⟩ := h
    rfl
  obtain ⟨f, c, r, F, most, rfl, hF, g, m5, F0, q⟩ := h
  obtain ⟨a1, a2, a3, a4, wv, rv, e0, e1, e2, alw, e4, alr, e6⟩ := id hF
  have lwv := alw.length
  have lrv := alr.length
  have glw := g.lw
  have glr := g.lr
  have gli := g.li
  have glo := g.lo
  obtain ⟨nown, nins, nouts, nwas, nrules⟩ := g.names
  obtain ⟨wr, wl⟩ := was_rows g
  refine ⟨_, (pss_cons (ps_asg (pv 1) (pg_tupK K rfl rfl (pgs_cons (pg_name (i := 2) sc_law_text.nd rfl (Or.inl rfl)) (pgs_cons (pg_name (i := 3) sc_law_text.nd rfl (Or.inl rfl)) (pgs_cons (pg_name (i := 4) sc_law_text.nd rfl (Or.inl rfl)) (pgs_cons (pg_name (i := 5) sc_law_text.nd rfl (Or.inl rfl)) pgs_nil))))))
      (pss_cons (ps_setLc (i := 6) (own := [("_law_name", 8), ("_law_things", 9)]) (g := gTup K 2 (gCons (gName 8) (gCons (gName 9) gNil))) (tt := tYes) (by rfl) sc_law_text.nd rfl rfl (sw_true rfl rfl rfl (by decide +kernel)) (pi_tupK K rfl (pv 3)) (blkOk_by (own := [("_law_name", 8), ("_law_things", 9)]) (N := N_law_text) (sc := defScope s_law_text) (by decide +kernel)) (fun _ _ _ _ _ => (pg_tupK K rfl rfl (pgs_cons (pg_name (i := 8) sc_law_text.nd rfl (Or.inl rfl)) (pgs_cons (pg_name (i := 9) sc_law_text.nd rfl (Or.inl rfl)) pgs_nil)))) (fun _ _ _ _ _ => pts_nil) (fun _ _ _ _ _ => (pe_op op_cat (pe_lst (pa_cons pe_str (pa_cons (pv 8) (pa_cons pe_str pa_nil)))) (pe_lc (own := [("_law_thing_here", 7)]) (g := gName 7) (tt := tYes) (by rfl) sc_law_text.nd (pi_tupK K rfl (pv 9)) (blkOk_by (own := [("_law_thing_here", 7)]) (N := N_law_text) (sc := { kind := .function, names := [(".0", .local), ("_law_name", .local), ("_law_things", .local)], isGenerator := false, isCoroutine := false }) (by decide +kernel)) (fun _ _ _ _ _ => (pg_name (i := 7) sc_law_text.nd rfl (Or.inl rfl))) (fun _ _ _ _ _ => pts_nil) (fun _ _ _ _ _ => (pe_callTy call_str_int (by rfl) T.m_str (by decide +kernel) (pa_cons (pv 7) pa_nil)))))))
      (pss_cons (ps_set (i := 10) sc_law_text.nd rfl (Or.inl rfl) (pe_lst pa_nil))
      (pss_cons (ps_set (i := 11) sc_law_text.nd rfl (Or.inl rfl) pe_int)
      (pss_cons (ps_for PassesOwn.never rfl (pi_tupK K rfl (pv 4)) (pg_tupK K rfl rfl (pgs_cons (pg_name (i := 8) sc_law_text.nd rfl (Or.inl rfl)) (pgs_cons (pg_name (i := 12) sc_law_text.nd rfl (Or.inl rfl)) pgs_nil)))
        (pss_cons (ps_set (i := 13) sc_law_text.nd rfl (Or.inl rfl) (pe_op op_cat (pe_lst (pa_cons (pv 8) (pa_cons pe_str pa_nil))) (pe_call G_law_written (hr.mono (by decide)) (by rfl) m_law_written F_law_written.kp b_law_written .nil pass0 (pa_cons (pv 0) (pa_cons (pv 12) (pa_cons pe_int pa_nil))))))
      (pss_cons (ps_if (pt_cmpR op_gt (pe_callB (call_len_seqK K rfl) (by rfl) T.m_len (by decide +kernel) (pa_cons (pv 13) pa_nil)) pe_int (nomark _)) (pss_cons (ps_set (i := 12) sc_law_text.nd rfl (Or.inl rfl) (pe_tup (pa_cons pe_str (pa_cons (pe_callB (call_len_seqK K rfl) (by rfl) T.m_len (by decide +kernel) (pa_cons (pv 13) pa_nil)) pa_nil))))
      (pss_one (ps_set (i := 13) sc_law_text.nd rfl (Or.inl rfl) (pe_lst (pa_cons (pv 8) (pa_cons pe_str (pa_cons (pe_callTy call_str_int (by rfl) T.m_str (by decide +kernel) (pa_cons (pe_callB (call_len_seqK K rfl) (by rfl) T.m_len (by decide +kernel) (pa_cons (pv 13) pa_nil)) pa_nil)) pa_nil))))))) pss_nil)
      (pss_cons (ps_expr (pe_bmK K rfl PySem.F.plainAttrs_list PySem.F.slot_list_append PySem.F.type_list_append mt_append (pv 10) (pa_cons (pe_tup (pa_cons (pv 8) (pa_cons (pv 12) pa_nil))) pa_nil)))
      (pss_cons (ps_set (i := 11) sc_law_text.nd rfl (Or.inl rfl) (pe_op op_add (pv 11) (pe_call G_law_pick (hr.mono (by decide)) (by rfl) m_law_pick F_law_pick.kp b_law_pick .nil pass0 (pa_cons (pv 0) (pa_cons (pe_op op_sub (pe_op op_add (pe_callB (call_len_seqK K rfl) (by rfl) T.m_len (by decide +kernel) (pa_cons (pv 6) pa_nil)) pe_int) (pv 11)) pa_nil)))))
      (pss_cons (ps_expr (pe_bmK K rfl PySem.F.plainAttrs_list PySem.F.slot_list_insert PySem.F.type_list_insert mt_insert (pv 6) (pa_cons (pv 11) (pa_cons (pv 13) pa_nil))))
      (pss_one (ps_set (i := 11) sc_law_text.nd rfl (Or.inl rfl) (pe_op op_add (pv 11) pe_int)))))))))
      (pss_cons (ps_set (i := 6) sc_law_text.nd rfl (Or.inl rfl) (pe_op op_cat (pe_op op_cat (pe_lst (pa_cons (pe_op op_cat (pe_lst (pa_cons pe_str pa_nil)) (pe_callTy (call_list_ofK K rfl) (by rfl) T.m_list (by decide +kernel) (pa_cons (pv 2) pa_nil))) pa_nil)) (pv 6)) (pe_lst (pa_cons (pe_op op_cat (pe_lst (pa_cons pe_str pa_nil)) (pe_callTy (call_list_ofK K rfl) (by rfl) T.m_list (by decide +kernel) (pa_cons (pv 5) pa_nil))) pa_nil))))
      (pss_one (ps_ret (pe_tup (pa_cons (pe_join pe_str (pe_lc (own := [("_law_words", 13)]) (g := gName 13) (tt := tYes) (by rfl) sc_law_text.nd (pi_listK K rfl (pv 6)) (blkOk_by (own := [("_law_words", 13)]) (N := N_law_text) (sc := defScope s_law_text) (by decide +kernel)) (fun _ _ _ _ _ => (pg_name (i := 13) sc_law_text.nd rfl (Or.inl rfl))) (fun _ _ _ _ _ => pts_nil) (fun _ _ _ _ _ => (pe_joinK K rfl pe_str (pv 13))))) (pa_cons (pe_tup (pa_cons (pv 2) (pa_cons (pv 3) (pa_cons (pe_callTy (call_tuple_ofK K rfl) (by rfl) T.m_tuple (by decide +kernel) (pa_cons (pv 10) pa_nil)) (pa_cons (pv 5) pa_nil))))) pa_nil))))))))))), ?_⟩
  refine ⟨_, rfl, r, _, rfl, SqT.of e0, rfl, _, _, rfl, _, _, rfl, _, _, rfl, _, _, rfl, rfl, ?_⟩
  refine ⟨_, rfl, a2, rfl, ⟨_, SqT.of e2⟩, fun D nD => ?_⟩
  have Df : D ≠ f := F0.ne nD
  have Dc : D ≠ c := F0.nec nD
  refine lc_tup (K := K) (a := a2) (xs := wv) (fun i H5 => ∃ lv, H5 D = some (.lst lv) ∧ All2 (LsAt D H5) lv ((F.was.map waW).take i) ∧ Same H H5) ⟨[], upd_same, by rw [List.take_zero]; exact .nil, same_new nD⟩ (fun i H5 _ ⟨_, _, _, s5⟩ => SqT.of (s5 _ _ e2)) ?_ ?_
  · rintro i x H5 hx ⟨lv, hD, al, s5⟩
    obtain ⟨p, ep, t, b, rfl, et, eb⟩ := alw.getL hx
    have il := (List.getElem?_eq_some_iff.mp ep).1
    have hp := List.mem_of_getElem? ep
    have l7 := (g.th p hp).1
    have lal := al.length
    rw [List.length_take] at lal
    refine ⟨t, _, rfl, SqT.of (s5 _ _ et), rfl, _, _, rfl, _, _, rfl, rfl, ?_⟩
    refine ⟨rfl, yes_in ⟨_, rfl, (by show 3 ≤ sizeLine; decide), fun p1 np1 => ?_⟩⟩
    have s6 := s5.trans (same_new (o := .lst [V.str "was", V.str p.1, V.str ":"]) np1)
    have hp1 : (upd H5 p1 (.lst [V.str "was", V.str p.1, V.str ":"])) p1 = some (.lst (([("was" : Str), p.1, ":"] : List Str).map V.str)) := upd_same
    have hD6 : (upd H5 p1 (.lst [V.str "was", V.str p.1, V.str ":"])) D = some (.lst lv) := same_new np1 _ _ hD
    have s56 : Same H5 (upd H5 p1 (.lst [V.str "was", V.str p.1, V.str ":"])) := same_new np1
    generalize upd H5 p1 (.lst [V.str "was", V.str p.1, V.str ":"]) = H6 at s6 hp1 hD6 s56 ⊢
    refine ⟨_, rfl, b, rfl, ⟨_, SqT.of (s6 _ _ eb)⟩, fun E nE => ?_⟩
    refine lc_tup (K := K) (a := b) (xs := p.2.map V.int) (fun j H7 => H7 E = some (.lst (((p.2.map txI).take j).map V.str)) ∧ Same H6 H7) ⟨upd_same, same_new nE⟩ (fun j H7 _ ⟨_, s7⟩ => SqT.of (s7 _ _ (s6 _ _ eb))) ?_ ?_
    · rintro j y H7 hy ⟨hE, s7⟩
      rw [List.getElem?_map] at hy
      cases en : p.2[j]? with
      | none => rw [en] at hy; cases hy
      | some n =>
      rw [en] at hy
      obtain rfl : V.int n = y := Option.some.inj hy
      have jl := (List.getElem?_eq_some_iff.mp en).1
      have ns := (g.th p hp).2 n (List.mem_of_getElem? en)
      refine ⟨rfl, yes_in ⟨_, rfl, _, rfl, log_str (small_nat ns), _, hE, by rw [List.length_map, List.length_take]; exact small1000 (by omega), ?_, Same.own s7 nE⟩⟩
      rw [upd_same, List.take_add_one, List.getElem?_map, en, List.map_append]; rfl
    rintro H7 ⟨hE, s7⟩
    rw [List.take_of_length_le (by rw [List.length_map, List.length_map]; exact Nat.le_refl _)] at hE
    refine cat_strs (s7 _ _ hp1) hE (by rw [List.length_map]; show 3 + _ ≤ 1000; omega) fun p2 H8 np2 hp2 s8 => ?_
    have s58 := s56.trans (s7.trans s8)
    have p2D : p2 ≠ D := fun z => by rw [z, (s7 _ _ hD6)] at np2; cases np2
    refine ⟨lv, s58 _ _ hD, small1000 (by omega), lv ++ [.ref p2], upd_same, ?_, Same.own (s5.trans s58) nD⟩
    rw [List.take_add_one, List.getElem?_map, ep]
    refine (al.imp fun x y z => (z.keepS s58).keepD).snoc ⟨p2, rfl, p2D, by rw [upd_ne p2D]; exact hp2⟩
  rintro H1 ⟨lv, hD, al, s1⟩
  rw [List.take_of_length_le (by rw [List.length_map]; omega)] at al
  have llv := al.length
  rw [List.length_map] at llv
  have F1 := F0.same s1
  have B1 : But f H H1 := But.of s1
  refine ⟨(by show 0 ≤ sizeLine; decide), fun kl nkl => ?_⟩
  have s2 : Same H1 (upd H1 kl (.lst [])) := same_new nkl
  have hkl : (upd H1 kl (.lst [])) kl = some (.lst []) := upd_same
  have klD : kl ≠ D := fun z => by rw [z, hD] at nkl; cases nkl
  have klf : kl ≠ f := F1.ne nkl
  have klc0 : kl ≠ c := F1.nec nkl
  have al1 : All2 (Ls2 D kl H1) lv (F.was.map waW) := al.imp fun _ _ z => by
    obtain ⟨L, rfl, n, e⟩ := z
    exact ⟨L, rfl, n, (fun q => by rw [q, nkl] at e; cases e), e⟩
  generalize upd H1 kl (.lst []) = H2 at s2 hkl ⊢
  have F2 := F1.same s2
  have B2 := B1.same s2
  have nkl0 : H kl = none := same_none s1 nkl
  have k02 : TK H H2 := TK.same (s1.trans s2)
  let INV : Nat → L2.St → Hp → Prop := fun i σ H5 => ∃ (v8 v12 v13 : Option V) (place : Nat) (lv kv : List V) (mid : List (List Str)) (ms : List Mid) (ks : List (Str × Tr)), σ = [some (.ref f), some (.ref r), some (.ref a1), some (.ref a2), some (.ref a3), some (.ref a4), some (.ref D), none, v8, none, some (.ref kl), some (nV place), v12, v13] ∧
    H5 D = some (.lst lv) ∧ All2 (Ls2 D kl H5) lv mid ∧ All2 RwOk mid ms ∧ (∀ u ∈ mid, u.length ≤ 40 ∧ WOk u) ∧ ms.filterMap Mid.wa = F.was ∧ ms.filterMap Mid.rl = ks ∧ (ms.drop place).filterMap Mid.rl = [] ∧ place ≤ mid.length ∧ mid.length = F.was.length + i ∧
    H5 kl = some (.lst kv) ∧ All2 (RlAt H5) kv ks ∧ All2 (fun p q => p.1 = q.1 ∧ (p.2 = q.2 ∨ ∃ n : Nat, n ≤ 100 ∧ p.2 = .no ((n : Nat) : Int))) ks (F.rules.take i) ∧ Flow H5 f c ∧ But f H H5
  refine ⟨_, rfl, a3, rfl, ⟨_, SqT.of (k02 _ _ e4)⟩, for_tup (K := K) (a := a3) (xs := rv) INV ⟨none, none, none, 0, lv, [], F.was.map waW, F.was.map Sum.inl, [], rfl, s2 _ _ hD, al1.imp fun _ _ z => z.keepS s2, wr, wl, (wa_was F.was).1, (wa_was F.was).2, by rw [List.drop_zero]; exact (wa_was F.was).2, Nat.zero_le _, by rw [List.length_map]; rfl, hkl, .nil, by rw [List.take_zero]; exact .nil, F2, B2⟩ (fun i σ H5 _ ⟨_, _, _, _, _, _, _, _, _, _, _, _, _, _, _, _, _, _, _, _, _, _, F5, B5⟩ => SqT.of (TK.but F0 B5 _ _ e4)) ?_ ?_⟩
  · rintro i x σ H5 hx ⟨v8, v12, v13, place, lv, kv, mid, ms, ks, rfl, hD, al, mi, mw, ewa, erl, edr, pm, lmid, hkl, akl, aks, F5, B5⟩
    obtain ⟨p, ep, t, xv, rfl, et, ht⟩ := alr.getL hx
    have il := (List.getElem?_eq_some_iff.mp ep).1
    have hp := List.mem_of_getElem? ep
    obtain ⟨tp, tsm, tln⟩ := g.tr p hp
    have okt := OkT.of tsm g.wd tln
    have tdp := p.2.dep_parts
    have nmp := nrules p hp
    have lal := al.length
    have lkv := akl.length
    have lks := aks.length
    rw [List.length_take] at lks
    have lmi := mi.length
    have k5 := TK.but F0 B5
    refine ⟨t, _, rfl, SqT.of (k5 _ _ et), rfl, _, _, rfl, _, _, rfl, rfl, ?_⟩
    refine ⟨_, rfl, (by show 2 ≤ sizeLine; decide), fun p1 np1 => ?_⟩
    have s6 : Same H5 (upd H5 p1 (.lst [V.str p.1, V.str "="])) := same_new np1
    have hp1 : (upd H5 p1 (.lst [V.str p.1, V.str "="])) p1 = some (.lst (([p.1, ("=" : Str)] : List Str).map V.str)) := upd_same
    generalize upd H5 p1 (.lst [V.str p.1, V.str "="]) = H6 at s6 hp1 ⊢
    have F6 := F5.same s6
    have B6 : But f H5 H6 := But.of s6
    refine ⟨_, rfl, _, rfl, f, c, xv, p.2, 0, rfl, by decide, ht.keep (k5.trans (TK.same s6)), by omega, okt, by omega, F6, fun p2 u H7 hp2 wo F7 B7 => ?_⟩
    have hp17 := B7 _ _ hp1 (F6.neS hp1)
    have lu := wo.ln
    refine cat_strs hp17 hp2 (by show 2 + u.length ≤ 1000; omega) fun p3 H8 np3 hp3 s8 => ?_
    have hD8 := s8 _ _ (B7 _ _ (s6 _ _ hD) Df)
    refine ⟨_, rfl, p3, _, rfl, .inl (SqL.of hp3), ?_⟩
    have F8 := F7.same s8
    have B8 : But f H H8 := ((B5.trans B6).trans B7).same s8
    have k58 : TK H5 H8 := (TK.same s6).trans ((TK.but F6 B7).trans (TK.same s8))
    have hkl8 := s8 _ _ (B7 _ _ (s6 _ _ hkl) klf)
    have al8 : All2 (Ls2 D kl H8) lv mid := al.imp fun _ _ z => ((z.keepS s6).keepB F6 B7).keepS s8
    have akl8 : All2 (RlAt H8) kv ks := akl.imp fun _ _ z => z.keep k58
    have p3D : p3 ≠ D := fun z => by rw [z, B7 _ _ (s6 _ _ hD) Df] at np3; cases np3
    have p3k : p3 ≠ kl := fun z => by rw [z, B7 _ _ (s6 _ _ hkl) klf] at np3; cases np3
    obtain ⟨n, en⟩ : ∃ n : Nat, n = (([p.1, ("=" : Str)] : List Str) ++ u).length := ⟨_, rfl⟩
    have en2 : n = u.length + 2 := by rw [en]; simp only [List.length_append, List.length_cons, List.length_nil]; omega
    have lnm : ((([p.1, ("=" : Str)] : List Str) ++ u).map V.str).length = n := by rw [List.length_map, en]
    rw [lnm]
    refine ⟨_, _, rfl, rfl, _, rfl, if_bl (fun cc => ?_) (fun cc => ?_)⟩
    · refine ⟨_, rfl, p3, _, rfl, .inl (SqL.of hp3), (by show 2 ≤ sizeLine; decide), fun p4 np4 => ?_⟩
      rw [lnm]
      have u1 : Same H8 (upd H8 p4 (.tup [V.str "number", .int ((n : Nat) : Int)])) := same_new np4
      have hp4 : (upd H8 p4 (.tup [V.str "number", .int ((n : Nat) : Int)])) p4 = some (.tup [V.str "number", .int ((n : Nat) : Int)]) := upd_same
      refine ⟨_, rfl, _, rfl, p3, _, rfl, .inl (SqL.of (u1 _ _ hp3)), ?_⟩
      rw [lnm]
      have sn : Small ((n : Nat) : Int) := by unfold Small; omega
      refine ⟨_, rfl, log_str (small_nat sn), (by show 3 ≤ sizeLine; decide), fun p5 np5 => ?_⟩
      generalize upd H8 p4 (.tup [V.str "number", .int ((n : Nat) : Int)]) = H81 at u1 hp4 np5 ⊢
      have u2 : Same H81 (upd H81 p5 (.lst [V.str p.1, V.str "=", V.str (txI ((n : Nat) : Int))])) := same_new np5
      let xw : V := .ref p4
      let tw : Tr := .no ((n : Nat) : Int)
      let pw : Addr := p5
      let uw : List Str := [p.1, "=", txI ((n : Nat) : Int)]
      have s9 := u1.trans u2
      have hw : (upd H81 p5 (.lst [V.str p.1, V.str "=", V.str (txI ((n : Nat) : Int))])) pw = some (.lst (uw.map V.str)) := upd_same
      have pwD : pw ≠ D := fun z => by rw [show p5 = D from z, u1 _ _ hD8] at np5; cases np5
      have pwk : pw ≠ kl := fun z => by rw [show p5 = kl from z, u1 _ _ hkl8] at np5; cases np5
      have hT : TrAt (upd H81 p5 (.lst [V.str p.1, V.str "=", V.str (txI ((n : Nat) : Int))])) xw tw := ⟨p4, rfl, u2 _ _ hp4⟩
      have nw := numW_str (small_nat sn)
      have rok : RwOk uw (.inr (p.1, tw)) := ⟨_, rfl, nmp, (Rd.lift 3 0 (by decide) (Rd.num (h := 117) nw)).mono (by decide)⟩
      have l40 : uw.length ≤ 40 := by show 3 ≤ 40; decide
      have wk : WOk uw := fun z hz => by
        simp only [uw, List.mem_cons, List.not_mem_nil, or_false] at hz
        rcases hz with rfl | rfl | rfl
        · exact nmp.2
        · decide
        · exact nw.2
      have kq : tw = p.2 ∨ ∃ n : Nat, n ≤ 100 ∧ tw = .no ((n : Nat) : Int) := .inr ⟨n, by omega, rfl⟩
      generalize upd H81 p5 (.lst [V.str p.1, V.str "=", V.str (txI ((n : Nat) : Int))]) = H9 at s9 hw hT ⊢
      refine ⟨_, rfl, .inl ⟨rfl, _, SqL.of (s9 _ _ hkl8)⟩, _, rfl, _, rfl, (by show 2 ≤ sizeLine; decide), fun p6 np6 => ?_⟩
      have s10 : Same H9 (upd H9 p6 (.tup [.str p.1, xw])) := same_new np6
      have hp6 : (upd H9 p6 (.tup [.str p.1, xw])) p6 = some (.tup [.str p.1, xw]) := upd_same
      have hkl10 : (upd H9 p6 (.tup [.str p.1, xw])) kl = some (.lst kv) := s10 _ _ (s9 _ _ hkl8)
      have hrl : RlAt (upd H9 p6 (.tup [.str p.1, xw])) (.ref p6) (p.1, tw) := ⟨p6, xw, rfl, upd_same, hT.keep (TK.same s10)⟩
      generalize upd H9 p6 (.tup [.str p.1, xw]) = H10 at s10 hp6 hkl10 hrl ⊢
      refine ⟨kl, _, _, rfl, rfl, hkl10, small1000 (by omega), ?_⟩
      have k11 : TK H10 (upd H10 kl (.lst (kv ++ [.ref p6]))) := TK.lst hkl10
      have hkl11 : (upd H10 kl (.lst (kv ++ [.ref p6]))) kl = some (.lst (kv ++ [.ref p6])) := upd_same
      have hD11 : (upd H10 kl (.lst (kv ++ [.ref p6]))) D = some (.lst lv) := by rw [upd_ne klD.symm]; exact s10 _ _ (s9 _ _ hD8)
      have hw11 : (upd H10 kl (.lst (kv ++ [.ref p6]))) pw = some (.lst (uw.map V.str)) := by rw [upd_ne pwk]; exact s10 _ _ hw
      have klc : kl ≠ c := klc0
      have F11 : Flow (upd H10 kl (.lst (kv ++ [.ref p6]))) f c := ((F8.same s9).same s10).lst klf klc
      have al11 : All2 (Ls2 D kl (upd H10 kl (.lst (kv ++ [.ref p6])))) lv mid := al8.imp fun _ _ z => ((z.keepS s9).keepS s10).keepK
      have akl11 : All2 (RlAt (upd H10 kl (.lst (kv ++ [.ref p6])))) (kv ++ [.ref p6]) (ks ++ [(p.1, tw)]) := ((akl8.imp fun _ _ z => ((z.keep (TK.same s9)).keep (TK.same s10)).keep k11)).snoc (hrl.keep k11)
      have B11 : But f H (upd H10 kl (.lst (kv ++ [.ref p6]))) := ((B8.same s9).same s10).own nkl0
      generalize upd H10 kl (.lst (kv ++ [.ref p6])) = H11 at k11 hkl11 hD11 hw11 F11 al11 akl11 B11 ⊢
      have em : ((lv.length : Nat) : Int) + 1 - ((place : Nat) : Int) = ((lv.length + 1 - place : Nat) : Int) := by omega
      refine ⟨_, rfl, _, rfl, _, rfl, D, _, rfl, .inl (SqL.of hD11), _, _, rfl, rfl, _, rfl, _, _, rfl, rfl, f, c, ((lv.length + 1 - place : Nat) : Int), by rw [← em]; rfl, by omega, log_small (by omega), F11, fun z H12 z0 z1 F12 B12 => ⟨_, _, rfl, rfl, ?_⟩⟩
      obtain ⟨zn, rfl⟩ : ∃ zn : Nat, z = (zn : Int) := ⟨z.toNat, by omega⟩
      have hD12 := B12 _ _ hD11 Df
      have hkl12 := B12 _ _ hkl11 klf
      refine ⟨_, rfl, .inl ⟨rfl, _, SqL.of hD12⟩, _, rfl, _, rfl, D, lv, _, _, rfl, rfl, hD12, small1000 (by omega), by omega, by omega, ?_⟩
      have etn : (((place : Nat) : Int) + ((zn : Nat) : Int)).toNat = place + zn := by omega
      rw [etn]
      have al13 : All2 (Ls2 D kl (upd H12 D (.lst (lv.take (place + zn) ++ [.ref pw] ++ lv.drop (place + zn))))) (lv.take (place + zn) ++ [.ref pw] ++ lv.drop (place + zn)) (mid.take (place + zn) ++ [uw] ++ mid.drop (place + zn)) := by
        have a12 : All2 (Ls2 D kl (upd H12 D (.lst (lv.take (place + zn) ++ [.ref pw] ++ lv.drop (place + zn))))) lv mid := al11.imp fun _ _ z => (z.keepB F11 B12).keepD
        exact ((a12.take _).app (.cons ⟨pw, rfl, pwD, pwk, by rw [upd_ne pwD]; exact B12 _ _ hw11 (F11.neS hw11)⟩ .nil)).app (a12.drop _)
      have mi13 : All2 RwOk (mid.take (place + zn) ++ [uw] ++ mid.drop (place + zn)) (ms.take (place + zn) ++ [Sum.inr (p.1, tw)] ++ ms.drop (place + zn)) := ((mi.take _).app (.cons rok .nil)).app (mi.drop _)
      obtain ⟨r1, r2⟩ := ins_rl (k := place + zn) (p := (p.1, tw)) edr (by omega) (by omega)
      have lmid2 : (mid.take (place + zn) ++ [uw] ++ mid.drop (place + zn)).length = mid.length + 1 := by
        simp only [List.length_append, List.length_take, List.length_drop, List.length_cons, List.length_nil]
        omega
      have kd12 : TK H11 (upd H12 D (.lst (lv.take (place + zn) ++ [.ref pw] ++ lv.drop (place + zn)))) := (TK.but F11 B12).trans (TK.lst hD12)
      have F13 : Flow (upd H12 D (.lst (lv.take (place + zn) ++ [.ref pw] ++ lv.drop (place + zn)))) f c := F12.lst Df Dc
      refine ⟨_, rfl, _, _, rfl, rfl, _, _, _, place + zn + 1, _, _, _, _, _, rfl, upd_same, al13, mi13, fun x hx => ?_, by rw [ins_wa]; exact ewa, by rw [r1, erl], r2, by rw [lmid2]; omega, by rw [lmid2]; omega, by rw [upd_ne klD]; exact hkl12, akl11.imp fun _ _ z => z.keep kd12, ?_, F13, (B11.trans B12).own nD⟩
      · rcases List.mem_append.mp hx with hx | hx
        · rcases List.mem_append.mp hx with hx | hx
          · exact mw x (List.mem_of_mem_take hx)
          · rw [List.mem_singleton.mp hx]; exact ⟨l40, wk⟩
        · exact mw x (List.mem_of_mem_drop hx)
      · rw [List.take_add_one, ep]
        exact aks.snoc ⟨rfl, kq⟩
    · let xw : V := xv
      let tw : Tr := p.2
      let pw : Addr := p3
      let uw : List Str := ([p.1, ("=" : Str)] : List Str) ++ u
      have cc := of_decide_eq_false cc
      obtain ⟨H9, e9⟩ : ∃ H9, H9 = H8 := ⟨_, rfl⟩
      have s9 : Same H8 H9 := by rw [e9]; exact fun _ _ e => e
      have hw : H9 pw = some (.lst (uw.map V.str)) := by rw [e9]; exact hp3
      have pwD : pw ≠ D := p3D
      have pwk : pw ≠ kl := p3k
      have hT : TrAt H9 xw tw := by rw [e9]; exact ht.keep (k5.trans k58)
      have rok : RwOk uw (.inr (p.1, tw)) := ⟨_, rfl, nmp, wo.rd.mono (by decide)⟩
      have l40 : uw.length ≤ 40 := by rw [← en]; omega
      have wk : WOk uw := fun z hz => by
        simp only [uw, List.mem_append, List.mem_cons, List.not_mem_nil, or_false] at hz
        rcases hz with (rfl | rfl) | hz
        · exact nmp.2
        · decide
        · exact wo.wk z hz
      have kq : tw = p.2 ∨ ∃ n : Nat, n ≤ 100 ∧ tw = .no ((n : Nat) : Int) := .inl rfl
      rw [← e9]
      refine ⟨_, rfl, .inl ⟨rfl, _, SqL.of (s9 _ _ hkl8)⟩, _, rfl, _, rfl, (by show 2 ≤ sizeLine; decide), fun p6 np6 => ?_⟩
      have s10 : Same H9 (upd H9 p6 (.tup [.str p.1, xw])) := same_new np6
      have hp6 : (upd H9 p6 (.tup [.str p.1, xw])) p6 = some (.tup [.str p.1, xw]) := upd_same
      have hkl10 : (upd H9 p6 (.tup [.str p.1, xw])) kl = some (.lst kv) := s10 _ _ (s9 _ _ hkl8)
      have hrl : RlAt (upd H9 p6 (.tup [.str p.1, xw])) (.ref p6) (p.1, tw) := ⟨p6, xw, rfl, upd_same, hT.keep (TK.same s10)⟩
      generalize upd H9 p6 (.tup [.str p.1, xw]) = H10 at s10 hp6 hkl10 hrl ⊢
      refine ⟨kl, _, _, rfl, rfl, hkl10, small1000 (by omega), ?_⟩
      have k11 : TK H10 (upd H10 kl (.lst (kv ++ [.ref p6]))) := TK.lst hkl10
      have hkl11 : (upd H10 kl (.lst (kv ++ [.ref p6]))) kl = some (.lst (kv ++ [.ref p6])) := upd_same
      have hD11 : (upd H10 kl (.lst (kv ++ [.ref p6]))) D = some (.lst lv) := by rw [upd_ne klD.symm]; exact s10 _ _ (s9 _ _ hD8)
      have hw11 : (upd H10 kl (.lst (kv ++ [.ref p6]))) pw = some (.lst (uw.map V.str)) := by rw [upd_ne pwk]; exact s10 _ _ hw
      have klc : kl ≠ c := klc0
      have F11 : Flow (upd H10 kl (.lst (kv ++ [.ref p6]))) f c := ((F8.same s9).same s10).lst klf klc
      have al11 : All2 (Ls2 D kl (upd H10 kl (.lst (kv ++ [.ref p6])))) lv mid := al8.imp fun _ _ z => ((z.keepS s9).keepS s10).keepK
      have akl11 : All2 (RlAt (upd H10 kl (.lst (kv ++ [.ref p6])))) (kv ++ [.ref p6]) (ks ++ [(p.1, tw)]) := ((akl8.imp fun _ _ z => ((z.keep (TK.same s9)).keep (TK.same s10)).keep k11)).snoc (hrl.keep k11)
      have B11 : But f H (upd H10 kl (.lst (kv ++ [.ref p6]))) := ((B8.same s9).same s10).own nkl0
      generalize upd H10 kl (.lst (kv ++ [.ref p6])) = H11 at k11 hkl11 hD11 hw11 F11 al11 akl11 B11 ⊢
      have em : ((lv.length : Nat) : Int) + 1 - ((place : Nat) : Int) = ((lv.length + 1 - place : Nat) : Int) := by omega
      refine ⟨_, rfl, _, rfl, _, rfl, D, _, rfl, .inl (SqL.of hD11), _, _, rfl, rfl, _, rfl, _, _, rfl, rfl, f, c, ((lv.length + 1 - place : Nat) : Int), by rw [← em]; rfl, by omega, log_small (by omega), F11, fun z H12 z0 z1 F12 B12 => ⟨_, _, rfl, rfl, ?_⟩⟩
      obtain ⟨zn, rfl⟩ : ∃ zn : Nat, z = (zn : Int) := ⟨z.toNat, by omega⟩
      have hD12 := B12 _ _ hD11 Df
      have hkl12 := B12 _ _ hkl11 klf
      refine ⟨_, rfl, .inl ⟨rfl, _, SqL.of hD12⟩, _, rfl, _, rfl, D, lv, _, _, rfl, rfl, hD12, small1000 (by omega), by omega, by omega, ?_⟩
      have etn : (((place : Nat) : Int) + ((zn : Nat) : Int)).toNat = place + zn := by omega
      rw [etn]
      have al13 : All2 (Ls2 D kl (upd H12 D (.lst (lv.take (place + zn) ++ [.ref pw] ++ lv.drop (place + zn))))) (lv.take (place + zn) ++ [.ref pw] ++ lv.drop (place + zn)) (mid.take (place + zn) ++ [uw] ++ mid.drop (place + zn)) := by
        have a12 : All2 (Ls2 D kl (upd H12 D (.lst (lv.take (place + zn) ++ [.ref pw] ++ lv.drop (place + zn))))) lv mid := al11.imp fun _ _ z => (z.keepB F11 B12).keepD
        exact ((a12.take _).app (.cons ⟨pw, rfl, pwD, pwk, by rw [upd_ne pwD]; exact B12 _ _ hw11 (F11.neS hw11)⟩ .nil)).app (a12.drop _)
      have mi13 : All2 RwOk (mid.take (place + zn) ++ [uw] ++ mid.drop (place + zn)) (ms.take (place + zn) ++ [Sum.inr (p.1, tw)] ++ ms.drop (place + zn)) := ((mi.take _).app (.cons rok .nil)).app (mi.drop _)
      obtain ⟨r1, r2⟩ := ins_rl (k := place + zn) (p := (p.1, tw)) edr (by omega) (by omega)
      have lmid2 : (mid.take (place + zn) ++ [uw] ++ mid.drop (place + zn)).length = mid.length + 1 := by
        simp only [List.length_append, List.length_take, List.length_drop, List.length_cons, List.length_nil]
        omega
      have kd12 : TK H11 (upd H12 D (.lst (lv.take (place + zn) ++ [.ref pw] ++ lv.drop (place + zn)))) := (TK.but F11 B12).trans (TK.lst hD12)
      have F13 : Flow (upd H12 D (.lst (lv.take (place + zn) ++ [.ref pw] ++ lv.drop (place + zn)))) f c := F12.lst Df Dc
      refine ⟨_, rfl, _, _, rfl, rfl, _, _, _, place + zn + 1, _, _, _, _, _, rfl, upd_same, al13, mi13, fun x hx => ?_, by rw [ins_wa]; exact ewa, by rw [r1, erl], r2, by rw [lmid2]; omega, by rw [lmid2]; omega, by rw [upd_ne klD]; exact hkl12, akl11.imp fun _ _ z => z.keep kd12, ?_, F13, (B11.trans B12).own nD⟩
      · rcases List.mem_append.mp hx with hx | hx
        · rcases List.mem_append.mp hx with hx | hx
          · exact mw x (List.mem_of_mem_take hx)
          · rw [List.mem_singleton.mp hx]; exact ⟨l40, wk⟩
        · exact mw x (List.mem_of_mem_drop hx)
      · rw [List.take_add_one, ep]
        exact aks.snoc ⟨rfl, kq⟩
  rintro σ H3 ⟨v8, v12, v13, place, lv3, kv, mid, ms, ks, rfl, hD3, al3, mi, mw, ewa, erl, edr, pm, lmid, hkl3, akl, aks, F3, B3⟩
  rw [lrv, List.take_length] at aks
  have lal := al3.length
  have lkv := akl.length
  have lks := aks.length
  have k3 := TK.but F0 B3
  refine ⟨(by show 1 ≤ sizeLine; decide), fun p1 np1 => ?_⟩
  have s4 : Same H3 (upd H3 p1 (.lst [V.str "in"])) := same_new np1
  have hp1 : (upd H3 p1 (.lst [V.str "in"])) p1 = some (.lst (([("in" : Str)] : List Str).map V.str)) := upd_same
  generalize upd H3 p1 (.lst [V.str "in"]) = H4 at s4 hp1 ⊢
  refine ⟨_, rfl, a1, _, rfl, .inr (SqT.of (s4 _ _ (k3 _ _ e1))), fun l1 nl1 => ?_⟩
  have s5 : Same H4 (upd H4 l1 (.lst (F.ins.map V.str))) := same_new nl1
  have hl1 : (upd H4 l1 (.lst (F.ins.map V.str))) l1 = some (.lst (F.ins.map V.str)) := upd_same
  generalize upd H4 l1 (.lst (F.ins.map V.str)) = H5 at s5 hl1 ⊢
  refine cat_strs (s5 _ _ hp1) hl1 (by show 1 + F.ins.length ≤ 1000; omega) fun p2 H6 np2 hp2 s6 => ?_
  refine ⟨(by show 1 ≤ sizeLine; decide), fun p3 np3 => ?_⟩
  have s7 : Same H6 (upd H6 p3 (.lst [V.ref p2])) := same_new np3
  have hp3 : (upd H6 p3 (.lst [V.ref p2])) p3 = some (.lst [V.ref p2]) := upd_same
  generalize upd H6 p3 (.lst [V.ref p2]) = H7 at s7 hp3 ⊢
  have s37 := s4.trans (s5.trans (s6.trans s7))
  refine ⟨_, rfl, p3, D, _, _, rfl, rfl, hp3, s37 _ _ hD3, little (by show 1 + lv3.length ≤ 1000; omega), fun p4 np4 => ?_⟩
  have s8 : Same H7 (upd H7 p4 (.lst ([V.ref p2] ++ lv3))) := same_new np4
  have hp4 : (upd H7 p4 (.lst ([V.ref p2] ++ lv3))) p4 = some (.lst ([V.ref p2] ++ lv3)) := upd_same
  generalize upd H7 p4 (.lst ([V.ref p2] ++ lv3)) = H8 at s8 hp4 ⊢
  refine ⟨(by show 1 ≤ sizeLine; decide), fun p5 np5 => ?_⟩
  have s9 : Same H8 (upd H8 p5 (.lst [V.str "out"])) := same_new np5
  have hp5 : (upd H8 p5 (.lst [V.str "out"])) p5 = some (.lst (([("out" : Str)] : List Str).map V.str)) := upd_same
  generalize upd H8 p5 (.lst [V.str "out"]) = H9 at s9 hp5 ⊢
  have s39 := s37.trans (s8.trans s9)
  refine ⟨_, rfl, a4, _, rfl, .inr (SqT.of (s39 _ _ (k3 _ _ e6))), fun l2 nl2 => ?_⟩
  have s10 : Same H9 (upd H9 l2 (.lst (F.outs.map V.str))) := same_new nl2
  have hl2 : (upd H9 l2 (.lst (F.outs.map V.str))) l2 = some (.lst (F.outs.map V.str)) := upd_same
  generalize upd H9 l2 (.lst (F.outs.map V.str)) = H10 at s10 hl2 ⊢
  refine cat_strs (s10 _ _ hp5) hl2 (by show 1 + F.outs.length ≤ 1000; omega) fun p6 H11 np6 hp6 s11 => ?_
  refine ⟨(by show 1 ≤ sizeLine; decide), fun p7 np7 => ?_⟩
  have s12 : Same H11 (upd H11 p7 (.lst [V.ref p6])) := same_new np7
  have hp7 : (upd H11 p7 (.lst [V.ref p6])) p7 = some (.lst [V.ref p6]) := upd_same
  generalize upd H11 p7 (.lst [V.ref p6]) = H12 at s12 hp7 ⊢
  have s812 := s9.trans (s10.trans (s11.trans s12))
  refine ⟨p4, p7, _, _, rfl, rfl, s812 _ _ hp4, hp7, little (by simp only [List.length_append, List.length_cons, List.length_nil]; omega), fun p8 np8 => ?_⟩
  have s13 : Same H12 (upd H12 p8 (.lst (([V.ref p2] ++ lv3) ++ [V.ref p6]))) := same_new np8
  have hp8 : (upd H12 p8 (.lst (([V.ref p2] ++ lv3) ++ [V.ref p6]))) p8 = some (.lst (([V.ref p2] ++ lv3) ++ [V.ref p6])) := upd_same
  generalize upd H12 p8 (.lst (([V.ref p2] ++ lv3) ++ [V.ref p6])) = H13 at s13 hp8 ⊢
  have s313 := s37.trans (s8.trans (s812.trans s13))
  have alr' : All2 (fun v ws => ∃ L : Addr, v = .ref L ∧ H13 L = some (.lst (ws.map V.str))) (([V.ref p2] ++ lv3) ++ [V.ref p6]) (rowsT F.ins F.outs mid) := by
    refine ((All2.cons ⟨p2, rfl, (s7.trans (s8.trans (s812.trans s13))) _ _ hp2⟩ .nil).app (al3.imp fun _ _ z => ?_)).app (.cons ⟨p6, rfl, (s12.trans s13) _ _ hp6⟩ .nil)
    obtain ⟨L, rfl, _, _, e⟩ := z
    exact ⟨L, rfl, s313 _ _ e⟩
  have tx := TxOk.of mi mw nins nouts (by omega) (by omega) (by omega)
  have lrw : (rowsT F.ins F.outs mid).length = mid.length + 2 := by simp only [rowsT, List.length_cons, List.length_append, List.length_nil]
  have wlen : ∀ u ∈ rowsT F.ins F.outs mid, u.length ≤ 40 ∧ ∀ z ∈ u, z.length ≤ 100 := fun u hu => by
    simp only [rowsT, List.mem_cons, List.mem_append, List.not_mem_nil, or_false] at hu
    rcases hu with rfl | hu | rfl
    · refine ⟨by rw [List.length_cons]; omega, fun z hz => ?_⟩
      rcases List.mem_cons.mp hz with rfl | hz
      · decide
      · exact (nins z hz).2
    · exact mw u hu
    · refine ⟨by rw [List.length_cons]; omega, fun z hz => ?_⟩
      rcases List.mem_cons.mp hz with rfl | hz
      · decide
      · exact (nouts z hz).2
  generalize hrows : rowsT F.ins F.outs mid = rws at alr' lrw wlen tx
  have lar := alr'.length
  have jl : ∀ u ∈ rws, (Txt.join ⟨#[32]⟩ u).length ≤ 4040 := fun u hu => by
    obtain ⟨h1, h2⟩ := wlen u hu
    have := join_len21 (c := 32) h2
    omega
  refine ⟨⟨_, rfl⟩, _, rfl, p8, rfl, ⟨_, SqL.of hp8⟩, fun E nE => ?_⟩
  refine lc_list (K := K) (a := p8) (xs := ([V.ref p2] ++ lv3) ++ [V.ref p6]) (fun i H14 => H14 E = some (.lst (((rws.map (Txt.join ⟨#[32]⟩)).take i).map V.str)) ∧ Same H13 H14) ⟨upd_same, same_new nE⟩ (fun i H14 _ ⟨_, s14⟩ => SqL.of (s14 _ _ hp8)) ?_ ?_
  · rintro i x H14 hx ⟨hE, s14⟩
    obtain ⟨u, eu, L, rfl, eL⟩ := alr'.getL hx
    have iu := (List.getElem?_eq_some_iff.mp eu).1
    obtain ⟨h1, h2⟩ := wlen u (List.mem_of_getElem? eu)
    refine ⟨rfl, yes_in ⟨⟨_, rfl⟩, _, rfl, _, L, u, rfl, rfl, .inl (SqL.of (s14 _ _ eL)), join_ok21 (B := 100) (n := 40) " " h2 h1 (by decide +kernel), _, hE, by rw [List.length_map, List.length_take]; exact small1000 (by omega), ?_, Same.own s14 nE⟩⟩
    rw [upd_same, List.take_add_one, List.getElem?_map, eu, List.map_append, sp32]
    rfl
  rintro H14 ⟨hE, s14⟩
  rw [List.take_of_length_le (by rw [List.length_map]; omega)] at hE
  refine ⟨_, E, rws.map (Txt.join ⟨#[32]⟩), rfl, rfl, .inl (SqL.of hE), join_ok21 (B := 4040) (n := 102) "\n" (fun z hz => ?_) (by rw [List.length_map]; omega) (by decide +kernel), ?_⟩
  · obtain ⟨u, hu, rfl⟩ := List.mem_map.mp hz
    exact jl u hu
  have s3 := s313.trans s14
  have B14 := B3.same s3
  have k14 := k3.trans (TK.same s3)
  refine ⟨_, rfl, _, rfl, _, rfl, kl, _, rfl, .inl ⟨SqL.of (s3 _ _ hkl3), fun t1 nt1 => ?_⟩⟩
  have u1 : Same H14 (upd H14 t1 (.tup kv)) := same_new nt1
  have ht1 : (upd H14 t1 (.tup kv)) t1 = some (.tup kv) := upd_same
  generalize upd H14 t1 (.tup kv) = H15 at u1 ht1 ⊢
  refine ⟨_, rfl, (by show 4 ≤ sizeLine; decide), fun t2 nt2 => ?_⟩
  have u2 : Same H15 (upd H15 t2 (.tup [.ref a1, .ref a2, .ref t1, .ref a4])) := same_new nt2
  have ht2 : (upd H15 t2 (.tup [.ref a1, .ref a2, .ref t1, .ref a4])) t2 = some (.tup [.ref a1, .ref a2, .ref t1, .ref a4]) := upd_same
  generalize upd H15 t2 (.tup [.ref a1, .ref a2, .ref t1, .ref a4]) = H16 at u2 ht2 ⊢
  refine ⟨(by show 2 ≤ sizeLine; decide), fun t3 nt3 => ?_⟩
  have u3 : Same H16 (upd H16 t3 (.tup [.str (Txt.join "\n" (rws.map (Txt.join ⟨#[32]⟩))), .ref t2])) := same_new nt3
  have u := s3.trans (u1.trans (u2.trans u3))
  have ku := k3.trans (TK.same u)
  rw [nl10]
  refine q t3 t2 _ ⟨F.ins, F.was, ks, F.outs⟩ _ mid ms _ upd_same ⟨a1, a2, t1, a4, wv, kv, u3 _ _ ht2, ku _ _ e1, ku _ _ e2, alw.imp fun _ _ z => z.keep ku, (u2.trans u3) _ _ ht1, akl.imp fun _ _ z => z.keep (TK.same u), ku _ _ e6⟩ (g.keptG aks) tx ewa erl (F3.same u) (B3.same u)
end
/-! ### formulas as data, and what is told -/
def trD : Tr → PyData
  | .nm n k => .tuple [.str "name", .str n, .int ((k : Nat) : Int)]
  | .no i => .tuple [.str "number", .int i]
  | .tm k t => .tuple [.str "times", .int k, trD t]
  | .o2 w a b => .tuple [.str w.s, trD a, trD b]
  | .o3 a b c => .tuple [.str "pick", trD a, trD b, trD c]
abbrev waD (p : Str × List Int) : PyData := .tuple [.str p.1, .tuple (p.2.map PyData.int)]
abbrev rlD (p : Str × Tr) : PyData := .tuple [.str p.1, trD p.2]
abbrev fmD (F : Fm) : PyData := .tuple [.tuple (F.ins.map PyData.str), .tuple (F.was.map waD), .tuple (F.rules.map rlD), .tuple (F.outs.map PyData.str)]
theorem TrAt.dp {K : PySem.W.Frag} {H : Hp} : ∀ {t : Tr} {v : V}, TrAt H v t → Dp K H v (trD t) := by
  intro t
  induction t with
  | nm n i => intro v h; obtain ⟨a, rfl, e⟩ := h; exact .tup (SqT.of e) (.cons (.str _) (.cons (.str _) (.cons (.int _) .nil)))
  | no i => intro v h; obtain ⟨a, rfl, e⟩ := h; exact .tup (SqT.of e) (.cons (.str _) (.cons (.int _) .nil))
  | tm i t ih => intro v h; obtain ⟨a, x, rfl, e, h⟩ := h; exact .tup (SqT.of e) (.cons (.str _) (.cons (.int _) (.cons (ih h) .nil)))
  | o2 w s t i1 i2 => intro v h; obtain ⟨a, x, y, rfl, e, h, g⟩ := h; exact .tup (SqT.of e) (.cons (.str _) (.cons (i1 h) (.cons (i2 g) .nil)))
  | o3 s t u i1 i2 i3 => intro v h; obtain ⟨a, x, y, z, rfl, e, h, g, i⟩ := h; exact .tup (SqT.of e) (.cons (.str _) (.cons (i1 h) (.cons (i2 g) (.cons (i3 i) .nil))))
theorem was_dp {K : PySem.W.Frag} {H : Hp} {vs : List V} {l : List (Str × List Int)} (a : All2 (WaAt H) vs l) : DpAll K H vs (l.map waD) := by
  induction a with
  | nil => exact .nil
  | cons h t ih =>
    obtain ⟨p, b, rfl, e1, e2⟩ := h
    exact .cons (.tup (SqT.of e1) (.cons (.str _) (.cons (.tup (SqT.of e2) (dp_ints _)) .nil))) ih
theorem rls_dp {K : PySem.W.Frag} {H : Hp} {vs : List V} {l : List (Str × Tr)} (a : All2 (RlAt H) vs l) : DpAll K H vs (l.map rlD) := by
  induction a with
  | nil => exact .nil
  | cons h t ih =>
    obtain ⟨p, b, rfl, e1, e2⟩ := h
    exact .cons (.tup (SqT.of e1) (.cons (.str _) (.cons e2.dp .nil))) ih
theorem FmAt.dp {K : PySem.W.Frag} {H : Hp} {r : Addr} {F : Fm} (h : FmAt H r F) : Dp K H (.ref r) (fmD F) := by
  obtain ⟨a1, a2, a3, a4, wv, rv, e0, e1, e2, e3, e4, e5, e6⟩ := h
  exact .tup (SqT.of e0) (.cons (.tup (SqT.of e1) (dp_strs _)) (.cons (.tup (SqT.of e2) (was_dp e3)) (.cons (.tup (SqT.of e4) (rls_dp e5)) (.cons (.tup (SqT.of e6) (dp_strs _)) .nil))))
/-- a name that can be shown -/
structure Nm (z : Str) : Prop where
  lay : PyData.canLay0 (.str z) = true
  few : z.cps.size ≤ 9
theorem Wd.nm {m : Nat} {z : Str} (h : Wd m z) (l : m ≤ 9) : Nm z := ⟨h.lay, Nat.le_trans h.size l⟩
theorem W2.nm (w : W2) : Nm w.s := by cases w <;> exact ⟨by decide +kernel, by decide +kernel⟩
theorem tr_neat : ∀ {t : Tr}, t.small → (∀ q ∈ t.leans, Nm q.1 ∧ q.2 ≤ 1000) → Neat (trD t) t.dep (100 * t.parts.length) := by
  intro t
  induction t with
  | nm n k =>
    intro _ h
    obtain ⟨g1, g2⟩ := h (n, k) (List.mem_singleton.mpr rfl)
    exact (Neat.tup (.cons (Neat.str (x := "name") (n := 4) (dp := 0) (by decide +kernel) (by decide +kernel)) (.cons (Neat.str g1.lay g1.few) (.cons (Neat.int (i := ((k : Nat) : Int)) (by have : k ≤ 1000 := g2; omega)) .nil)))).mono (Nat.le_refl _) (by show _ ≤ 100 * 1; decide)
  | no i =>
    intro h _
    have h : Small i := h
    exact (Neat.tup (.cons (Neat.str (x := "number") (n := 6) (dp := 0) (by decide +kernel) (by decide +kernel)) (.cons (Neat.int (i := i) (by unfold Small at h; omega)) .nil))).mono (Nat.le_refl _) (by show _ ≤ 100 * 1; decide)
  | tm k t ih =>
    intro h g
    have i1 := ih h.2 g
    have h1 : (-9 : Int) ≤ k ∧ k ≤ 9 := h.1
    refine (Neat.tup (.cons (Neat.str (x := "times") (n := 5) (dp := t.dep) (by decide +kernel) (by decide +kernel)) (.cons (Neat.int (i := k) (by omega)) (.cons i1 .nil)))).mono (Nat.le_refl _) ?_
    rw [Tr.parts, List.length_append]
    show _ ≤ 100 * (_ + 1)
    omega
  | o2 w a b iha ihb =>
    intro h g
    have i1 := (iha h.1 fun q hq => g q (List.mem_append.mpr (.inl hq))).mono (Nat.le_max_left a.dep b.dep) (Nat.le_refl _)
    have i2 := (ihb h.2 fun q hq => g q (List.mem_append.mpr (.inr hq))).mono (Nat.le_max_right a.dep b.dep) (Nat.le_refl _)
    refine (Neat.tup (.cons (Neat.str (x := w.s) (n := 9) (dp := max a.dep b.dep) w.nm.lay w.nm.few) (.cons i1 (.cons i2 .nil)))).mono (Nat.le_refl _) ?_
    rw [Tr.parts, List.length_append, List.length_append]
    show _ ≤ 100 * (_ + 1)
    omega
  | o3 a b c iha ihb ihc =>
    intro h g
    have i1 := (iha h.1 fun q hq => g q (List.mem_append.mpr (.inl (List.mem_append.mpr (.inl hq))))).mono (Nat.le_max_left a.dep (max b.dep c.dep)) (Nat.le_refl _)
    have i2 := (ihb h.2.1 fun q hq => g q (List.mem_append.mpr (.inl (List.mem_append.mpr (.inr hq))))).mono (Nat.le_trans (Nat.le_max_left b.dep c.dep) (Nat.le_max_right a.dep (max b.dep c.dep))) (Nat.le_refl _)
    have i3 := (ihc h.2.2 fun q hq => g q (List.mem_append.mpr (.inr hq))).mono (Nat.le_trans (Nat.le_max_right b.dep c.dep) (Nat.le_max_right a.dep (max b.dep c.dep))) (Nat.le_refl _)
    refine (Neat.tup (.cons (Neat.str (x := "pick") (n := 9) (dp := max a.dep (max b.dep c.dep)) (by decide +kernel) (by decide +kernel)) (.cons i1 (.cons i2 (.cons i3 .nil))))).mono (Nat.le_refl _) ?_
    rw [Tr.parts, List.length_append, List.length_append, List.length_append]
    show _ ≤ 100 * (_ + 1)
    omega
/-- formulas that can be shown -/
structure SmF (F : Fm) : Prop where
  i : ∀ z ∈ F.ins, Nm z
  o : ∀ z ∈ F.outs, Nm z
  w : ∀ p ∈ F.was, Nm p.1 ∧ p.2.length ≤ 8 ∧ ∀ x ∈ p.2, Small x
  r : ∀ p ∈ F.rules, Nm p.1 ∧ p.2.small ∧ (∀ q ∈ p.2.leans, Nm q.1 ∧ q.2 ≤ 1000) ∧ p.2.parts.length ≤ 10
def SayD (d : PyData) : Prop := d.showable = true ∧ d.hasDict = false ∧ d.depth ≤ 60 ∧ d.shown.length ≤ sizeLine
theorem Neat.sayD {d : PyData} {dp n : Nat} (h : Neat d dp n) (k : dp ≤ 60) (m : n ≤ 1000000) : SayD d := ⟨h.say, h.nod, Nat.le_trans h.dep k, h.fits k m⟩
theorem fm_neat {F : Fm} (ok : FmOk F) (sm : SmF F) : Neat (fmD F) 15 250000 := by
  have s1 : ∀ l : List Str, (∀ z ∈ l, Nm z) → l.length ≤ 100 → Neat (.tuple (l.map PyData.str)) 14 1000 := fun l h ll =>
    (Neat.tup (NeatAll.map (f := PyData.str) (dp := 13) (n := 9) fun z hz => Neat.str (h z hz).lay (h z hz).few)).mono (Nat.le_refl _) (by omega)
  have s2 : Neat (.tuple (F.was.map waD)) 14 40000 := by
    refine (Neat.tup (NeatAll.map (f := waD) (dp := 13) (n := 399) fun p hp => ?_)).mono (Nat.le_refl _) (by have := ok.lw; omega)
    obtain ⟨g1, g2, g3⟩ := sm.w p hp
    have t1 := Neat.tup (NeatAll.map (f := PyData.int) (dp := 11) (n := 41) (l := p.2) fun x hx => Neat.int (by have := g3 x hx; unfold Small at this; omega))
    exact (Neat.tup (.cons (Neat.str (dp := 12) g1.lay g1.few) (.cons t1 .nil))).mono (Nat.le_refl _) (by omega)
  have s3 : Neat (.tuple (F.rules.map rlD)) 14 150000 := by
    refine (Neat.tup (NeatAll.map (f := rlD) (dp := 13) (n := 1100) fun p hp => ?_)).mono (Nat.le_refl _) (by have := ok.lr; omega)
    obtain ⟨g1, g2, g3, g4⟩ := sm.r p hp
    have t1 := (tr_neat g2 g3).mono (c := 12) (e := 1000) (by have := p.2.dep_parts; omega) (by omega)
    exact (Neat.tup (.cons (Neat.str (dp := 12) g1.lay g1.few) (.cons t1 .nil))).mono (Nat.le_refl _) (by omega)
  exact (Neat.tup (.cons (s1 _ sm.i ok.li) (.cons s2 (.cons s3 (.cons (s1 _ sm.o ok.lo) .nil))))).mono (Nat.le_refl _) (by decide)
theorem fm_say {F : Fm} (ok : FmOk F) (sm : SmF F) : SayD (fmD F) := (fm_neat ok sm).sayD (by decide) (by decide)
/-! ### one text over a figure, written and read -/
abbrev numF (m : Nat) : Str := ((toString ((m : Nat) : Int) : String) : Str)
abbrev greatF (m : Nat) : Fm := ⟨[], [("q", [((m : Nat) : Int), 0 - ((m : Nat) : Int)])], [("q", .o2 .sum (.tm (0 - ((m : Nat) : Int)) (.nm "q" m)) (.no ((m : Nat) : Int)))], ["q", "q"]⟩
theorem numF_w {m : Nat} (h : m < 10 ^ 9) : numW (numF m) ((m : Nat) : Int) ∧ (numF m).length ≤ 9 := by
  have dl : (digN m).length ≤ 9 := by unfold digN; rw [List.length_map]; exact toDig_len 8 m h
  have l : (numF m).length ≤ 9 := by rw [strlen, str_pos]; exact dl
  exact ⟨⟨by rw [str_pos]; exact num_pos h, by omega⟩, l⟩
theorem numF_n {m : Nat} (h0 : 0 < m) (h : m < 10 ^ 9) : numW ("-" ++ numF m) (0 - ((m : Nat) : Int)) := by
  have dl : (digN m).length ≤ 9 := by unfold digN; rw [List.length_map]; exact toDig_len 8 m h
  have d5 : ("-" : Str).cps.toList = [45] := by decide +kernel
  have e : ("-" ++ numF m : Str).cps.toList = 45 :: digN m := by rw [app_cps, d5, str_pos]; rfl
  refine ⟨by rw [e, num_neg h0 h, Int.zero_sub], ?_⟩
  rw [strlen, e, List.length_cons]
  omega
theorem q_name : namW "q" := by unfold namW; decide +kernel
abbrev greatM (m : Nat) : List Mid := [.inl ("q", [((m : Nat) : Int), 0 - ((m : Nat) : Int)]), .inr ("q", .o2 .sum (.tm (0 - ((m : Nat) : Int)) (.nm "q" m)) (.no ((m : Nat) : Int)))]
abbrev greatW (m : Nat) : List (List Str) := [["was", "q", ":", numF m, "-" ++ numF m], ["q", "=", "-" ++ numF m, "*", "q", "@", numF m, "+", numF m]]
theorem great_tx {m : Nat} (h0 : 0 < m) (h : m < 10 ^ 9) : TxOk (Txt.join ⟨#[10]⟩ ((greatR (numF m)).map (Txt.join ⟨#[32]⟩))) ((greatR (numF m)).map (Txt.join ⟨#[32]⟩)) [] ["q", "q"] (greatW m) (greatM m) := by
  obtain ⟨n1, _⟩ := numF_w h
  have n2 := numF_n h0 h
  have q := q_name
  refine TxOk.of (ins := []) (outs := ["q", "q"]) (mid := greatW m) (ms := greatM m) (.cons ⟨_, rfl, q, .cons n1 (.cons n2 .nil)⟩ (.cons ⟨_, rfl, q, ?_⟩ .nil)) ?_ (fun _ h => nomatch h) ?_ (by decide) (by decide) (by show 2 ≤ 100; decide)
  · obtain ⟨k, rfl⟩ : ∃ k, m = k + 1 := ⟨m - 1, by omega⟩
    have r1 : Rd 3 (.nm "q" (k + 1)) ["q", "@", numF (k + 1)] 100 := .ago q n1
    have r2 : Rd 2 _ _ _ := .times n2 r1
    have r3 : Rd 1 _ _ _ := Rd.up (by decide) r2
    have r4 : Rd 2 (.no (((k + 1 : Nat) : Int))) [numF (k + 1)] 101 := Rd.up (h := 100) (by decide) (.num n1)
    have r5 : Rd 1 _ _ _ := Rd.sum (w := .sum) (s := "+") rfl r3 r4
    exact (Rd.up (by decide) r5).mono (by decide)
  · intro u hu
    rcases List.mem_cons.mp hu with rfl | hu
    · refine ⟨by show 5 ≤ 40; decide, fun z hz => ?_⟩
      simp only [List.mem_cons, List.not_mem_nil, or_false] at hz
      rcases hz with rfl | rfl | rfl | rfl | rfl
      · decide
      · decide
      · decide
      · exact n1.2
      · exact n2.2
    · rw [List.mem_singleton.mp hu]
      refine ⟨by show 9 ≤ 40; decide, fun z hz => ?_⟩
      simp only [List.mem_cons, List.not_mem_nil, or_false] at hz
      rcases hz with rfl | rfl | rfl | rfl | rfl | rfl | rfl | rfl | rfl
      · decide
      · decide
      · exact n2.2
      · decide
      · decide
      · decide
      · exact n1.2
      · decide
      · exact n1.2
  · intro z hz
    simp only [List.mem_cons, List.not_mem_nil, or_false] at hz
    rcases hz with rfl | rfl <;> exact q
theorem q_nm : Nm "q" := ⟨by decide +kernel, by decide +kernel⟩
theorem great_say {m : Nat} (h : m < 10 ^ 9) : SayD (fmD (greatF m)) := by
  have i1 : ∀ dp, Neat (.int ((m : Nat) : Int)) dp 41 := fun dp => Neat.int (by omega)
  have i2 : ∀ dp, Neat (.int (0 - ((m : Nat) : Int))) dp 41 := fun dp => Neat.int (by omega)
  have q : ∀ dp, Neat (.str "q") dp 9 := fun dp => Neat.str q_nm.lay q_nm.few
  have t1 : Neat (trD (.nm "q" m)) 3 1000 := (Neat.tup (.cons (Neat.str (x := "name") (n := 4) (dp := 0) (by decide +kernel) (by decide +kernel)) (.cons (q 0) (.cons (i1 0) .nil)))).mono (by decide) (by decide)
  have t2 : Neat (trD (.tm (0 - ((m : Nat) : Int)) (.nm "q" m))) 4 2000 := (Neat.tup (.cons (Neat.str (x := "times") (n := 5) (dp := 3) (by decide +kernel) (by decide +kernel)) (.cons (i2 3) (.cons t1 .nil)))).mono (by decide) (by decide)
  have t3 : Neat (trD (.no ((m : Nat) : Int))) 4 1000 := (Neat.tup (.cons (Neat.str (x := "number") (n := 6) (dp := 3) (by decide +kernel) (by decide +kernel)) (.cons (i1 3) .nil))).mono (by decide) (by decide)
  have t4 : Neat (trD (.o2 .sum (.tm (0 - ((m : Nat) : Int)) (.nm "q" m)) (.no ((m : Nat) : Int)))) 5 4000 := (Neat.tup (.cons (Neat.str (x := W2.sum.s) (n := 9) (dp := 4) W2.sum.nm.lay W2.sum.nm.few) (.cons t2 (.cons t3 .nil)))).mono (by decide) (by decide)
  have t5 : Neat (.tuple [rlD ("q", .o2 .sum (.tm (0 - ((m : Nat) : Int)) (.nm "q" m)) (.no ((m : Nat) : Int)))]) 7 5000 := (Neat.tup (.cons (Neat.tup (.cons (q 5) (.cons t4 .nil))) .nil)).mono (by decide) (by decide)
  have t6 : Neat (.tuple [waD ("q", [((m : Nat) : Int), 0 - ((m : Nat) : Int)])]) 7 1000 := (Neat.tup (.cons (Neat.tup (.cons (q 1) (.cons (Neat.tup (.cons (i1 0) (.cons (i2 0) .nil))) .nil))) .nil)).mono (by decide) (by decide)
  have t7 : Neat (.tuple []) 7 10 := (Neat.tup (NeatAll.nil (dp := 0))).mono (by decide) (by decide)
  have t8 : Neat (.tuple [.str "q", .str "q"]) 7 100 := (Neat.tup (.cons (q 0) (.cons (q 0) .nil))).mono (by decide) (by decide)
  have : Neat (fmD (greatF m)) 8 10000 := (Neat.tup (.cons t7 (.cons t6 (.cons t5 (.cons t8 .nil))))).mono (by decide) (by decide)
  exact this.sayD (by decide) (by decide)
theorem log9 {m : Nat} (h : m < 10 ^ 9) : (((m : Nat) : Int)).natAbs.log2 < 1920 := by
  show m.log2 < 1920
  by_cases z : m = 0
  · rw [z]; decide
  · exact (Nat.log2_lt z).mpr (Nat.lt_of_lt_of_le (show m < 2 ^ 60 by omega) (Nat.pow_le_pow_right (by decide) (by decide)))
section
variable {P : Program} {w : World} {K : PySem.W.Frag} {mg : Str → Option Value} {base : Heap}
def sp_law_great (K : PySem.W.Frag) : Sp := fun vs H Q _ => ∃ m : Nat, vs = [nV m] ∧ 0 < m ∧ m < 10 ^ 9 ∧
  ∀ (p x : Addr) (H' : Hp), H' p = some (.tup [.str (Txt.join ⟨#[10]⟩ ((greatR (numF m)).map (Txt.join ⟨#[32]⟩))), .ref x]) → FmAt H' x (greatF m) → Same H H' → Q (.ref p) H'
theorem ok_law_great {f : Addr} {fd : FuncData} (F : Fun K "_law_great" "_law_great" s_law_great f fd) {C : Addr} (T : Top w K mg C) : FnOk P w K mg base CX0 1 f fd ["_law_number"] (sp_law_great K) := by
  refine F.ok sc_law_great (fun vs H Q E h => ?_) (fun cdv A outer s H vs Q E hr h => ?_)
  · obtain ⟨m, rfl, _⟩ := h
    rfl
  obtain ⟨m, rfl, h0, h9, q⟩ := h
  obtain ⟨n1, nl⟩ := numF_w h9
  have c1 : Str.length "in\nwas q : " = 11 := by decide +kernel
  have c2 : Str.length " -" = 2 := by decide +kernel
  have c3 : Str.length "\nq = -" = 6 := by decide +kernel
  have c4 : Str.length " * q @ " = 7 := by decide +kernel
  have c5 : Str.length " + " = 3 := by decide +kernel
  have c6 : Str.length "\nout q q" = 8 := by decide +kernel
  have la : ∀ a b : Str, (a ++ b).length = a.length + b.length := fun a b => by rw [strlen, strlen, strlen, app_cps, List.length_append]
  obtain ⟨X, eX⟩ : ∃ X : Str, X = numF m := ⟨_, rfl⟩
  rw [← eX] at nl
  refine ⟨_, (pss_cons (ps_set (i := 1) sc_law_great.nd rfl (Or.inl rfl) (pe_callTy call_str_int (by rfl) T.m_str (by decide +kernel) (pa_cons (pv 0) pa_nil)))
      (pss_cons (ps_set (i := 2) sc_law_great.nd rfl (Or.inl rfl) (pe_op op_add_str (pe_op op_add_str (pe_op op_add_str (pe_op op_add_str pe_str (pv 1)) pe_str) (pv 1)) pe_str))
      (pss_cons (ps_set (i := 2) sc_law_great.nd rfl (Or.inl rfl) (pe_op op_add_str (pe_op op_add_str (pe_op op_add_str (pv 2) (pv 1)) pe_str) (pv 1)))
      (pss_cons (ps_set (i := 2) sc_law_great.nd rfl (Or.inl rfl) (pe_op op_add_str (pe_op op_add_str (pe_op op_add_str (pv 2) pe_str) (pv 1)) pe_str))
      (pss_cons (ps_set (i := 3) sc_law_great.nd rfl (Or.inl rfl) (pe_tup (pa_cons pe_str (pa_cons (pe_tup (pa_cons pe_str (pa_cons (pe_op op_sub pe_int (pv 0)) (pa_cons (pe_tup (pa_cons pe_str (pa_cons pe_str (pa_cons (pv 0) pa_nil)))) pa_nil)))) (pa_cons (pe_tup (pa_cons pe_str (pa_cons (pv 0) pa_nil))) pa_nil)))))
      (pss_one (ps_ret (pe_tup (pa_cons (pv 2) (pa_cons (pe_tup (pa_cons (pe_tup pa_nil) (pa_cons (pe_tup (pa_cons (pe_tup (pa_cons pe_str (pa_cons (pe_tup (pa_cons (pv 0) (pa_cons (pe_op op_sub pe_int (pv 0)) pa_nil))) pa_nil))) pa_nil)) (pa_cons (pe_tup (pa_cons (pe_tup (pa_cons pe_str (pa_cons (pv 3) pa_nil))) pa_nil)) (pa_cons (pe_tup (pa_cons pe_str (pa_cons pe_str pa_nil))) pa_nil))))) pa_nil)))))))))), ?_⟩
  refine ⟨_, rfl, _, rfl, log9 h9, ?_⟩
  rw [show (Str.ofString (toString ((m : Nat) : Int))) = X from eX.symm]
  have sl : ∀ {a b : Str}, a.length + b.length ≤ 1000 → a.length + b.length ≤ sizeLine := fun h => little h
  -- the first part
  refine ⟨_, rfl, _, _, rfl, rfl, sl (by rw [c1]; omega), ?_⟩
  refine ⟨_, _, rfl, rfl, sl (by rw [la, c1, c2]; omega), ?_⟩
  refine ⟨_, rfl, _, _, rfl, rfl, sl (by rw [la, la, c1, c2]; omega), ?_⟩
  refine ⟨_, _, rfl, rfl, sl (by rw [la, la, la, c1, c2, c3]; omega), ?_⟩
  obtain ⟨A, eA⟩ : ∃ A : Str, A = ((("in\nwas q : " ++ X) ++ " -") ++ X) ++ "\nq = -" := ⟨_, rfl⟩
  have lA : A.length ≤ 40 := by rw [eA, la, la, la, la, c1, c2, c3]; omega
  rw [← eA]
  refine ⟨_, rfl, _, rfl, _, _, rfl, rfl, sl (by omega), ?_⟩
  refine ⟨_, _, rfl, rfl, sl (by rw [la, c4]; omega), ?_⟩
  refine ⟨_, rfl, _, _, rfl, rfl, sl (by rw [la, la, c4]; omega), ?_⟩
  obtain ⟨B, eB⟩ : ∃ B : Str, B = ((A ++ X) ++ " * q @ ") ++ X := ⟨_, rfl⟩
  have lB : B.length ≤ 70 := by rw [eB, la, la, la, c4]; omega
  rw [← eB]
  refine ⟨_, rfl, _, _, rfl, rfl, sl (by rw [c5]; omega), ?_⟩
  refine ⟨_, rfl, _, _, rfl, rfl, sl (by rw [la, c5]; omega), ?_⟩
  refine ⟨_, _, rfl, rfl, sl (by rw [la, la, c5, c6]; omega), ?_⟩
  obtain ⟨D, eD⟩ : ∃ D : Str, D = ((B ++ " + ") ++ X) ++ "\nout q q" := ⟨_, rfl⟩
  have eJ : D = Txt.join ⟨#[10]⟩ ((greatR (numF m)).map (Txt.join ⟨#[32]⟩)) := by
    rw [eD, eB, eA, eX]
    exact great_join (numF m)
  rw [← eD]
  -- the tree
  refine ⟨_, rfl, _, _, rfl, rfl, _, rfl, (by show 3 ≤ sizeLine; decide), fun p1 np1 => ?_⟩
  have s1 : Same H (upd H p1 (.tup [.str "name", .str "q", nV m])) := same_new np1
  have hp1 : (upd H p1 (.tup [.str "name", .str "q", nV m])) p1 = some (.tup [.str "name", .str "q", nV m]) := upd_same
  generalize upd H p1 (.tup [.str "name", .str "q", nV m]) = H1 at s1 hp1 ⊢
  refine ⟨(by show 3 ≤ sizeLine; decide), fun p2 np2 => ?_⟩
  have s2 : Same H1 (upd H1 p2 (.tup [.str "times", .int (0 - ((m : Nat) : Int)), .ref p1])) := same_new np2
  have hp2 : (upd H1 p2 (.tup [.str "times", .int (0 - ((m : Nat) : Int)), .ref p1])) p2 = some (.tup [.str "times", .int (0 - ((m : Nat) : Int)), .ref p1]) := upd_same
  generalize upd H1 p2 (.tup [.str "times", .int (0 - ((m : Nat) : Int)), .ref p1]) = H2 at s2 hp2 ⊢
  refine ⟨_, rfl, (by show 2 ≤ sizeLine; decide), fun p3 np3 => ?_⟩
  have s3 : Same H2 (upd H2 p3 (.tup [.str "number", .int ((m : Nat) : Int)])) := same_new np3
  have hp3 : (upd H2 p3 (.tup [.str "number", .int ((m : Nat) : Int)])) p3 = some (.tup [.str "number", .int ((m : Nat) : Int)]) := upd_same
  generalize upd H2 p3 (.tup [.str "number", .int ((m : Nat) : Int)]) = H3 at s3 hp3 ⊢
  refine ⟨(by show 3 ≤ sizeLine; decide), fun p4 np4 => ?_⟩
  have s4 : Same H3 (upd H3 p4 (.tup [.str "sum", .ref p2, .ref p3])) := same_new np4
  have hp4 : (upd H3 p4 (.tup [.str "sum", .ref p2, .ref p3])) p4 = some (.tup [.str "sum", .ref p2, .ref p3]) := upd_same
  generalize upd H3 p4 (.tup [.str "sum", .ref p2, .ref p3]) = H4 at s4 hp4 ⊢
  have hT : TrAt H4 (.ref p4) (.o2 .sum (.tm (0 - ((m : Nat) : Int)) (.nm "q" m)) (.no ((m : Nat) : Int))) := ⟨p4, .ref p2, .ref p3, rfl, hp4, ⟨p2, .ref p1, rfl, (s3.trans s4) _ _ hp2, ⟨p1, rfl, (s2.trans (s3.trans s4)) _ _ hp1⟩⟩, ⟨p3, rfl, s4 _ _ hp3⟩⟩
  have s04 := s1.trans (s2.trans (s3.trans s4))
  -- the formulas
  refine ⟨_, rfl, (by show 0 ≤ sizeLine; decide), fun q1 nq1 => ?_⟩
  have u1 : Same H4 (upd H4 q1 (.tup [])) := same_new nq1
  have hq1 : (upd H4 q1 (.tup [])) q1 = some (.tup []) := upd_same
  generalize upd H4 q1 (.tup []) = G1 at u1 hq1 ⊢
  refine ⟨_, rfl, _, rfl, _, _, rfl, rfl, (by show 2 ≤ sizeLine; decide), fun q2 nq2 => ?_⟩
  have u2 : Same G1 (upd G1 q2 (.tup [.int ((m : Nat) : Int), .int (0 - ((m : Nat) : Int))])) := same_new nq2
  have hq2 : (upd G1 q2 (.tup [.int ((m : Nat) : Int), .int (0 - ((m : Nat) : Int))])) q2 = some (.tup [.int ((m : Nat) : Int), .int (0 - ((m : Nat) : Int))]) := upd_same
  generalize upd G1 q2 (.tup [.int ((m : Nat) : Int), .int (0 - ((m : Nat) : Int))]) = G2 at u2 hq2 ⊢
  refine ⟨(by show 2 ≤ sizeLine; decide), fun q3 nq3 => ?_⟩
  have u3 : Same G2 (upd G2 q3 (.tup [.str "q", .ref q2])) := same_new nq3
  have hq3 : (upd G2 q3 (.tup [.str "q", .ref q2])) q3 = some (.tup [.str "q", .ref q2]) := upd_same
  generalize upd G2 q3 (.tup [.str "q", .ref q2]) = G3 at u3 hq3 ⊢
  refine ⟨(by show 1 ≤ sizeLine; decide), fun q4 nq4 => ?_⟩
  have u4 : Same G3 (upd G3 q4 (.tup [.ref q3])) := same_new nq4
  have hq4 : (upd G3 q4 (.tup [.ref q3])) q4 = some (.tup [.ref q3]) := upd_same
  generalize upd G3 q4 (.tup [.ref q3]) = G4 at u4 hq4 ⊢
  refine ⟨_, rfl, (by show 2 ≤ sizeLine; decide), fun q5 nq5 => ?_⟩
  have u5 : Same G4 (upd G4 q5 (.tup [.str "q", .ref p4])) := same_new nq5
  have hq5 : (upd G4 q5 (.tup [.str "q", .ref p4])) q5 = some (.tup [.str "q", .ref p4]) := upd_same
  generalize upd G4 q5 (.tup [.str "q", .ref p4]) = G5 at u5 hq5 ⊢
  refine ⟨(by show 1 ≤ sizeLine; decide), fun q6 nq6 => ?_⟩
  have u6 : Same G5 (upd G5 q6 (.tup [.ref q5])) := same_new nq6
  have hq6 : (upd G5 q6 (.tup [.ref q5])) q6 = some (.tup [.ref q5]) := upd_same
  generalize upd G5 q6 (.tup [.ref q5]) = G6 at u6 hq6 ⊢
  refine ⟨(by show 2 ≤ sizeLine; decide), fun q7 nq7 => ?_⟩
  have u7 : Same G6 (upd G6 q7 (.tup [.str "q", .str "q"])) := same_new nq7
  have hq7 : (upd G6 q7 (.tup [.str "q", .str "q"])) q7 = some (.tup [.str "q", .str "q"]) := upd_same
  generalize upd G6 q7 (.tup [.str "q", .str "q"]) = G7 at u7 hq7 ⊢
  refine ⟨(by show 4 ≤ sizeLine; decide), fun q8 nq8 => ?_⟩
  have u8 : Same G7 (upd G7 q8 (.tup [.ref q1, .ref q4, .ref q6, .ref q7])) := same_new nq8
  have hq8 : (upd G7 q8 (.tup [.ref q1, .ref q4, .ref q6, .ref q7])) q8 = some (.tup [.ref q1, .ref q4, .ref q6, .ref q7]) := upd_same
  generalize upd G7 q8 (.tup [.ref q1, .ref q4, .ref q6, .ref q7]) = G8 at u8 hq8 ⊢
  refine ⟨(by show 2 ≤ sizeLine; decide), fun q9 nq9 => ?_⟩
  have u9 := same_new (o := .tup [.str D, .ref q8]) nq9
  have v8 := u8.trans u9
  have v7 := u7.trans v8
  have v6 := u6.trans v7
  have v5 := u5.trans v6
  have v4 := u4.trans v5
  have v3 := u3.trans v4
  have v2 := u2.trans v3
  refine q q9 q8 _ (by rw [← eJ]; exact upd_same) ?_ (s04.trans (u1.trans v2))
  refine ⟨q1, q4, q6, q7, [.ref q3], [.ref q5], u9 _ _ hq8, v2 _ _ hq1, v5 _ _ hq4, .cons ⟨q3, q2, rfl, v4 _ _ hq3, v3 _ _ hq2⟩ .nil, v7 _ _ hq6, .cons ⟨q5, .ref p4, rfl, v6 _ _ hq5, hT.keep (TK.same (u1.trans v2))⟩ .nil, v8 _ _ hq7⟩
end
/-! ### the law -/
/-- a text and the formulas that it writes -/
def ItAt (H : Hp) (v : V) : Prop := ∃ (p x : Addr) (a : Str) (rs ins outs : List Str) (mid : List (List Str)) (ms : List Mid), v = .ref p ∧ H p = some (.tup [.str a, .ref x]) ∧ FmAt H x ⟨ins, ms.filterMap Mid.wa, ms.filterMap Mid.rl, outs⟩ ∧ TxOk a rs ins outs mid ms ∧ SayD (fmD ⟨ins, ms.filterMap Mid.wa, ms.filterMap Mid.rl, outs⟩)
theorem ItAt.keep {H H' : Hp} {v : V} (h : ItAt H v) (k : TK H H') : ItAt H' v := by
  obtain ⟨p, x, a, rs, ins, outs, mid, ms, e, e1, e2, e3, e4⟩ := h
  exact ⟨p, x, a, rs, ins, outs, mid, ms, e, k _ _ e1, e2.keep k, e3, e4⟩
theorem GFm.say {most : Nat} {F : Fm} (g : GFm most F) (m : most ≤ 5) : SayD (fmD F) := by
  have ow : ∀ z ∈ F.own, Nm z := fun z hz => (g.wd z hz).1.nm (by decide)
  refine fm_say ⟨by have := g.li; omega, by have := g.lw; omega, by have := g.lr; omega, by have := g.lo; omega, fun p hp => by have := (g.tr p hp).1; omega⟩ ⟨fun z hz => ow z (List.mem_append.mpr (.inl hz)), fun z hz => ow z (g.oo z hz), fun p hp => ⟨ow _ (g.ko _ (List.mem_map.mpr ⟨p, hp, rfl⟩)), ?_, (g.th p hp).2⟩, fun p hp => ⟨ow _ (List.mem_append.mpr (.inr (List.mem_map.mpr ⟨p, hp, rfl⟩))), (g.tr p hp).2.1, fun q hq => ?_, (g.tr p hp).1⟩⟩
  · have := (g.th p hp).1; omega
  · obtain ⟨h1, h2⟩ := (g.tr p hp).2.2 q hq
    exact ⟨ow _ h1, by omega⟩
theorem none_tx : TxOk "in\nout" (([["in"], ["out"]] : List (List Str)).map (Txt.join ⟨#[32]⟩)) [] [] [] [] := by
  have := TxOk.of (ins := []) (outs := []) (mid := []) (ms := []) .nil (fun _ h => nomatch h) (fun _ h => nomatch h) (fun _ h => nomatch h) (by decide) (by decide) (by decide)
  rwa [show Txt.join ⟨#[10]⟩ ((rowsT [] [] []).map (Txt.join ⟨#[32]⟩)) = ("in\nout" : Str) from str_inj (by decide +kernel)] at this
theorem none_say : SayD (fmD ⟨[], [], [], []⟩) := by
  have t7 : Neat (.tuple []) 7 10 := (Neat.tup (NeatAll.nil (dp := 0))).mono (by decide) (by decide)
  have : Neat (fmD ⟨[], [], [], []⟩) 8 10000 := (Neat.tup (.cons t7 (.cons t7 (.cons t7 (.cons t7 .nil))))).mono (by decide) (by decide)
  exact this.sayD (by decide) (by decide)
section
variable {P : Program} {w : World} {K : PySem.W.Frag} {mg : Str → Option Value} {base : Heap}
variable {cN cF : Addr} {PT : Addr × Addr} [TN : TabN K mg base cN PT] [TF : TabF K mg base cF PT]
def sp_law (K : PySem.W.Frag) (PT : Addr × Addr) : Sp := fun vs H Q _ => ∃ (a : Addr) (ns : List Int), vs = [.ref a] ∧ SqL K H a (ns.map V.int) ∧ ns.length ≤ 63 ∧ Tb2 PT H ∧ ∀ H', Q (.bl true) H'
include TN TF in
theorem ok_law {f : Addr} {fd : FuncData} (F : Fun K "law" "law" s_law f fd) {C : Addr} (T : Top w K mg C) : FnG P w K mg base CX0 131 f fd ["_law_script"] (sp_law K PT) := by
  obtain ⟨f_law_flow, fd_law_flow, F_law_flow, b_law_flow, m_law_flow⟩ := T.d_law_flow
  have G_law_flow := ok_law_flow (P := P) (w := w) (base := base) F_law_flow T
  obtain ⟨f_law_text, fd_law_text, F_law_text, b_law_text, m_law_text⟩ := T.d_law_text
  have G_law_text := ok_law_text (P := P) (w := w) (base := base) F_law_text T
  obtain ⟨f_law_great, fd_law_great, F_law_great, b_law_great, m_law_great⟩ := T.d_law_great
  have G_law_great := ok_law_great (P := P) (w := w) (base := base) F_law_great T
  obtain ⟨f_law_formulas, fd_law_formulas, F_law_formulas, b_law_formulas, m_law_formulas⟩ := T.d_law_formulas
  have G_law_formulas := ok_law_formulas (P := P) (w := w) (base := base) F_law_formulas T
  obtain ⟨f_law_pick, fd_law_pick, F_law_pick, b_law_pick, m_law_pick⟩ := T.d_law_pick
  have G_law_pick := ok_law_pick (P := P) (w := w) (base := base) F_law_pick T
  obtain ⟨f_read_formulas, fd_read_formulas, F_read_formulas, b_read_formulas, m_read_formulas⟩ := T.d_read_formulas
  have G_read_formulas := ok_read_formulas (P := P) (w := w) (base := base) F_read_formulas T
  refine Fun.okG F sc_law (fun vs H Q E h => ?_) (fun cdv A outer s H vs Q E hr hG h => ?_)
  · obtain ⟨a, ns, rfl, _⟩ := h
    rfl
  obtain ⟨a, ns, rfl, hS, hlen, tb, q⟩ := h
  refine ⟨_, (pss_cons (ps_set (i := 1) sc_law.nd rfl (Or.inl rfl) (pe_call G_law_flow (hr.mono (by decide)) (by rfl) m_law_flow F_law_flow.kp b_law_flow .nil pass0 (pa_cons (pv 0) pa_nil)))
      (pss_cons (ps_set (i := 2) sc_law.nd rfl (Or.inl rfl) (pe_lst (pa_cons (pe_call G_law_text (hr.mono (by decide)) (by rfl) m_law_text F_law_text.kp b_law_text .nil pass0 (pa_cons (pv 1) (pa_cons (pe_call G_law_formulas (hr.mono (by decide)) (by rfl) m_law_formulas F_law_formulas.kp b_law_formulas .nil pass0 (pa_cons (pv 1) (pa_cons pe_int pa_nil))) pa_nil))) (pa_cons (pe_call G_law_text (hr.mono (by decide)) (by rfl) m_law_text F_law_text.kp b_law_text .nil pass0 (pa_cons (pv 1) (pa_cons (pe_call G_law_formulas (hr.mono (by decide)) (by rfl) m_law_formulas F_law_formulas.kp b_law_formulas .nil pass0 (pa_cons (pv 1) (pa_cons pe_int pa_nil))) pa_nil))) pa_nil))))
      (pss_cons (ps_expr (pe_bmK K rfl PySem.F.plainAttrs_list PySem.F.slot_list_append PySem.F.type_list_append mt_append (pv 2) (pa_cons (pe_tup (pa_cons pe_str (pa_cons (pe_tup (pa_cons (pe_tup pa_nil) (pa_cons (pe_tup pa_nil) (pa_cons (pe_tup pa_nil) (pa_cons (pe_tup pa_nil) pa_nil))))) pa_nil))) pa_nil)))
      (pss_cons (ps_expr (pe_bmK K rfl PySem.F.plainAttrs_list PySem.F.slot_list_append PySem.F.type_list_append mt_append (pv 2) (pa_cons (pe_call G_law_great (hr.mono (by decide)) (by rfl) m_law_great F_law_great.kp b_law_great .nil pass0 (pa_cons (pe_op op_add pe_int (pe_call G_law_pick (hr.mono (by decide)) (by rfl) m_law_pick F_law_pick.kp b_law_pick .nil pass0 (pa_cons (pv 1) (pa_cons pe_int pa_nil)))) pa_nil)) pa_nil)))
      (pss_cons (ps_for PassesOwn.never rfl (pi_listK K rfl (pe_op op_cat (pv 2) (pv 2))) (pg_tupK K rfl rfl (pgs_cons (pg_name (i := 3) sc_law.nd rfl (Or.inl rfl)) (pgs_cons (pg_name (i := 4) sc_law.nd rfl (Or.inl rfl)) pgs_nil)))
        (pss_one (ps_if (pt_cmpR op_ne (pe_callB (call_reprG K rfl hG hr.units) (by rfl) T.m_repr (by decide +kernel) (pa_cons (pe_call G_read_formulas (hr.mono (by decide)) (by rfl) m_read_formulas F_read_formulas.kp b_read_formulas .nil pass0 (pa_cons (pv 3) pa_nil)) pa_nil)) (pe_callB (call_reprG K rfl hG hr.units) (by rfl) T.m_repr (by decide +kernel) (pa_cons (pv 4) pa_nil)) (nomark _)) (pss_one (ps_ret pe_bl)) pss_nil)))
      (pss_one (ps_ret pe_bl))))))), ?_⟩
  refine ⟨_, rfl, a, ns, rfl, hS, fun f c H1 nf nc F1 s1 => ?_⟩
  have t1 := tb.same s1
  refine ⟨_, rfl, _, rfl, f, c, 5, rfl, by decide, F1, fun r1 G1 H2 hF1 g1 F2 B2 => ?_⟩
  refine ⟨f, c, r1, G1, 5, rfl, hF1, g1, by decide, F2, fun p1 x1 a1 E1 rs1 mid1 ms1 H3 hp1 hx1 e1 tx1 w1 l1 F3 B3 => ?_⟩
  have it1 : ItAt H3 (.ref p1) := ⟨p1, x1, a1, rs1, E1.ins, E1.outs, mid1, ms1, rfl, hp1, by rw [w1, l1]; exact hx1, tx1, by rw [w1, l1]; exact e1.say (by decide)⟩
  have t3 := (t1.but F1 B2).but F2 B3
  refine ⟨_, rfl, _, rfl, f, c, 3, rfl, by decide, F3, fun r2 G2 H4 hF2 g2 F4 B4 => ?_⟩
  refine ⟨f, c, r2, G2, 3, rfl, hF2, g2, by decide, F4, fun p2 x2 a2 E2 rs2 mid2 ms2 H5 hp2 hx2 e2 tx2 w2 l2 F5 B5 => ?_⟩
  have it2 : ItAt H5 (.ref p2) := ⟨p2, x2, a2, rs2, E2.ins, E2.outs, mid2, ms2, rfl, hp2, by rw [w2, l2]; exact hx2, tx2, by rw [w2, l2]; exact e2.say (by decide)⟩
  have it15 := (it1.keep (TK.but F3 B4)).keep (TK.but F4 B5)
  have t5 := (t3.but F3 B4).but F4 B5
  refine ⟨(by show 2 ≤ sizeLine; decide), fun l nl => ?_⟩
  have s6 : Same H5 (upd H5 l (.lst [V.ref p1, V.ref p2])) := same_new nl
  have hl : (upd H5 l (.lst [V.ref p1, V.ref p2])) l = some (.lst [V.ref p1, V.ref p2]) := upd_same
  have F6 : Flow (upd H5 l (.lst [V.ref p1, V.ref p2])) f c := F5.new nl
  have lf : l ≠ f := F5.ne nl
  have lc : l ≠ c := F5.nec nl
  generalize upd H5 l (.lst [V.ref p1, V.ref p2]) = H6 at s6 hl F6 ⊢
  have it16 := it15.keep (TK.same s6)
  have it26 := it2.keep (TK.same s6)
  have t6 := t5.same s6
  -- the text of none
  refine ⟨_, rfl, .inl ⟨rfl, _, SqL.of hl⟩, (by show 0 ≤ sizeLine; decide), fun q1 nq1 => ?_⟩
  have u1 : Same H6 (upd H6 q1 (.tup [])) := same_new nq1
  have hq1 : (upd H6 q1 (.tup [])) q1 = some (.tup []) := upd_same
  generalize upd H6 q1 (.tup []) = J1 at u1 hq1 ⊢
  refine ⟨(by show 0 ≤ sizeLine; decide), fun q2 nq2 => ?_⟩
  have u2 : Same J1 (upd J1 q2 (.tup [])) := same_new nq2
  have hq2 : (upd J1 q2 (.tup [])) q2 = some (.tup []) := upd_same
  generalize upd J1 q2 (.tup []) = J2 at u2 hq2 ⊢
  refine ⟨(by show 0 ≤ sizeLine; decide), fun q3 nq3 => ?_⟩
  have u3 : Same J2 (upd J2 q3 (.tup [])) := same_new nq3
  have hq3 : (upd J2 q3 (.tup [])) q3 = some (.tup []) := upd_same
  generalize upd J2 q3 (.tup []) = J3 at u3 hq3 ⊢
  refine ⟨(by show 0 ≤ sizeLine; decide), fun q4 nq4 => ?_⟩
  have u4 : Same J3 (upd J3 q4 (.tup [])) := same_new nq4
  have hq4 : (upd J3 q4 (.tup [])) q4 = some (.tup []) := upd_same
  generalize upd J3 q4 (.tup []) = J4 at u4 hq4 ⊢
  refine ⟨(by show 4 ≤ sizeLine; decide), fun q5 nq5 => ?_⟩
  have u5 : Same J4 (upd J4 q5 (.tup [.ref q1, .ref q2, .ref q3, .ref q4])) := same_new nq5
  have hq5 : (upd J4 q5 (.tup [.ref q1, .ref q2, .ref q3, .ref q4])) q5 = some (.tup [.ref q1, .ref q2, .ref q3, .ref q4]) := upd_same
  generalize upd J4 q5 (.tup [.ref q1, .ref q2, .ref q3, .ref q4]) = J5 at u5 hq5 ⊢
  refine ⟨(by show 2 ≤ sizeLine; decide), fun q6 nq6 => ?_⟩
  have u6 : Same J5 (upd J5 q6 (.tup [.str "in\nout", .ref q5])) := same_new nq6
  have hq6 : (upd J5 q6 (.tup [.str "in\nout", .ref q5])) q6 = some (.tup [.str "in\nout", .ref q5]) := upd_same
  generalize upd J5 q6 (.tup [.str "in\nout", .ref q5]) = H7 at u6 hq6 ⊢
  have v5 := u5.trans u6
  have v4 := u4.trans v5
  have v3 := u3.trans v4
  have v2 := u2.trans v3
  have v1 := u1.trans v2
  have it37 : ItAt H7 (.ref q6) := ⟨q6, q5, "in\nout", _, [], [], [], [], rfl, hq6, ⟨q1, q2, q3, q4, [], [], u6 _ _ hq5, v2 _ _ hq1, v3 _ _ hq2, .nil, v4 _ _ hq3, .nil, v5 _ _ hq4⟩, none_tx, none_say⟩
  have it17 := it16.keep (TK.same v1)
  have it27 := it26.keep (TK.same v1)
  have F7 := F6.same v1
  have t7 := t6.same v1
  refine ⟨l, _, _, rfl, rfl, v1 _ _ hl, small1000 (by show 2 ≤ 1000; decide), ?_⟩
  have k8 : TK H7 (upd H7 l (.lst ([V.ref p1, V.ref p2] ++ [V.ref q6]))) := TK.lst (v1 _ _ hl)
  have hl8 : (upd H7 l (.lst ([V.ref p1, V.ref p2] ++ [V.ref q6]))) l = some (.lst [V.ref p1, V.ref p2, V.ref q6]) := upd_same
  have F8 : Flow (upd H7 l (.lst ([V.ref p1, V.ref p2] ++ [V.ref q6]))) f c := F7.lst lf lc
  have t8 : Tb2 PT (upd H7 l (.lst ([V.ref p1, V.ref p2] ++ [V.ref q6]))) := t7.lstU (v1 _ _ hl)
  generalize upd H7 l (.lst ([V.ref p1, V.ref p2] ++ [V.ref q6])) = H8 at k8 hl8 F8 t8 ⊢
  have it18 := it17.keep k8
  have it28 := it27.keep k8
  have it38 := it37.keep k8
  -- the great one
  refine ⟨_, rfl, .inl ⟨rfl, _, SqL.of hl8⟩, _, rfl, f, c, ((999999999 : Nat) : Int), rfl, by decide, by decide +kernel, F8, fun z H9 z0 z1 F9 B9 => ⟨_, _, rfl, rfl, ?_⟩⟩
  obtain ⟨n, rfl⟩ : ∃ n : Nat, z = (n : Int) := ⟨z.toNat, by omega⟩
  refine ⟨n + 1, by show [V.int (1 + ((n : Nat) : Int))] = [V.int (((n + 1 : Nat)) : Int)]; rw [Int.add_comm]; rfl, by omega, by omega, fun p4 x4 H10 hp4 hx4 s10 => ?_⟩
  have it4 : ItAt H10 (.ref p4) := ⟨p4, x4, _, _, [], ["q", "q"], _, greatM (n + 1), rfl, hp4, hx4, great_tx (by omega) (by omega), great_say (by omega)⟩
  have k10 := (TK.but F8 B9).trans (TK.same s10)
  have it110 := it18.keep k10
  have it210 := it28.keep k10
  have it310 := it38.keep k10
  have hl10 := s10 _ _ (B9 _ _ hl8 lf)
  have t10 := (t8.but F8 B9).same s10
  refine ⟨l, _, _, rfl, rfl, hl10, small1000 (by show 3 ≤ 1000; decide), ?_⟩
  have k11 : TK H10 (upd H10 l (.lst ([V.ref p1, V.ref p2, V.ref q6] ++ [V.ref p4]))) := TK.lst hl10
  have hl11 : (upd H10 l (.lst ([V.ref p1, V.ref p2, V.ref q6] ++ [V.ref p4]))) l = some (.lst [V.ref p1, V.ref p2, V.ref q6, V.ref p4]) := upd_same
  have t11 : Tb2 PT (upd H10 l (.lst ([V.ref p1, V.ref p2, V.ref q6] ++ [V.ref p4]))) := t10.lstU hl10
  generalize upd H10 l (.lst ([V.ref p1, V.ref p2, V.ref q6] ++ [V.ref p4])) = H11 at k11 hl11 t11 ⊢
  have all : ∀ v ∈ [V.ref p1, V.ref p2, V.ref q6, V.ref p4], ItAt H11 v := fun v hv => by
    simp only [List.mem_cons, List.not_mem_nil, or_false] at hv
    rcases hv with rfl | rfl | rfl | rfl
    · exact it110.keep k11
    · exact it210.keep k11
    · exact it310.keep k11
    · exact it4.keep k11
  have il : [V.ref p1, V.ref p2, V.ref q6, V.ref p4].length = 4 := rfl
  generalize [V.ref p1, V.ref p2, V.ref q6, V.ref p4] = its at hl11 all il ⊢
  refine ⟨_, rfl, _, rfl, l, l, _, _, rfl, rfl, hl11, hl11, little (by omega), fun p5 np5 => ?_⟩
  have s12 : Same H11 (upd H11 p5 (.lst (its ++ its))) := same_new np5
  have hp5 : (upd H11 p5 (.lst (its ++ its))) p5 = some (.lst (its ++ its)) := upd_same
  generalize upd H11 p5 (.lst (its ++ its)) = H12 at s12 hp5 ⊢
  have t12 := t11.same s12
  refine ⟨p5, rfl, ⟨_, SqL.of hp5⟩, for_list (K := K) (a := p5) (xs := its ++ its) (fun i σ H8 => ∃ v3 v4 : Option V, σ = [some (.ref a), some (.ref f), some (.ref l), v3, v4] ∧ LamX.ExtN H12 H8 ∧ Tb2 PT H8) ⟨none, none, rfl, LamX.ExtN.refl H12, t12⟩ (fun i σ H8 _ ⟨_, _, _, e8, _⟩ => SqL.of (e8 _ _ hp5 (fun ps z => nomatch z))) ?_ ?_⟩
  · rintro i x σ H13 hx ⟨v3, v4, rfl, x13, t13⟩
    have xm : x ∈ its := by
      rcases List.mem_append.mp (List.mem_of_getElem? hx) with h | h <;> exact h
    obtain ⟨p, y, a', rs, ins, outs, mid, ms, rfl, ep, hF, tx, ⟨y1, y2, y3, y4⟩⟩ := ((all x xm).keep (TK.same s12)).keep (tk_ext x13)
    refine ⟨p, _, rfl, SqT.of ep, rfl, _, _, rfl, _, _, rfl, rfl, ?_⟩
    refine ⟨_, rfl, a', rs, ins, outs, mid, ms, rfl, tx, t13, fun r H14 hR x14 t14 => ?_⟩
    refine ⟨.ref r, _, rfl, hR.dp, y1, y2, y3, y4, ?_⟩
    refine ⟨_, rfl, .ref y, _, rfl, (hF.keep (tk_ext x14)).dp, y1, y2, y3, y4, ?_⟩
    generalize (fmD (Fm.mk ins (ms.filterMap Mid.wa) (ms.filterMap Mid.rl) outs)).shown = S
    exact ⟨rfl, _, rfl, if_bl (fun c => absurd c (by rw [decide_eq_true rfl]; decide)) (fun _ => ⟨_, _, rfl, x13.trans x14, t14⟩)⟩
  · rintro σ H13 ⟨v3, v4, rfl, x13, t13⟩
    exact q H13
end
theorem fun_of_D {K : PySem.W.Frag} {x q : Str} {st : Stmt} {f : Addr} {fd : FuncData} (D : FunD K x q (defArgs st) (defBody st) (defScope st) [] [] f fd) : Fun K x q st f fd := by
  obtain ⟨⟨oc, od, dV, kV, doc, pm, an, cdv, ct, osl, e, lk, ci, dfl, _⟩, kp⟩ := D
  have z : dV = .none := by
    rcases dfl with ⟨_, h⟩ | ⟨h, _⟩
    · exact h
    · exact absurd rfl h
  subst z
  exact ⟨⟨oc, od, kV, doc, pm, an, cdv, ct, osl, e, lk, ci⟩, kp⟩
def hd_is_name : He.DefD := ⟨("is_name", none), "is_name", "is_name", defArgs s_is_name, defBody s_is_name, defScope s_is_name, [], []⟩
def hd_number_of : He.DefD := ⟨("number_of", none), "number_of", "number_of", defArgs s_number_of, defBody s_number_of, defScope s_number_of, [], []⟩
def hd_read_formulas : He.DefD := ⟨("read_formulas", none), "read_formulas", "read_formulas", defArgs s_read_formulas, defBody s_read_formulas, defScope s_read_formulas, [], []⟩
def hd_Reader___init__ : He.DefD := ⟨("Reader", some "__init__"), "__init__", "Reader.__init__", defArgs s_Reader___init__, defBody s_Reader___init__, defScope s_Reader___init__, [], []⟩
def hd_Reader_over : He.DefD := ⟨("Reader", some "over"), "over", "Reader.over", defArgs s_Reader_over, defBody s_Reader_over, defScope s_Reader_over, [], []⟩
def hd_Reader_ahead : He.DefD := ⟨("Reader", some "ahead"), "ahead", "Reader.ahead", defArgs s_Reader_ahead, defBody s_Reader_ahead, defScope s_Reader_ahead, [], []⟩
def hd_Reader_take : He.DefD := ⟨("Reader", some "take"), "take", "Reader.take", defArgs s_Reader_take, defBody s_Reader_take, defScope s_Reader_take, [], []⟩
def hd_Reader_take_just : He.DefD := ⟨("Reader", some "take_just"), "take_just", "Reader.take_just", defArgs s_Reader_take_just, defBody s_Reader_take_just, defScope s_Reader_take_just, [], []⟩
def hd_Reader_take_name : He.DefD := ⟨("Reader", some "take_name"), "take_name", "Reader.take_name", defArgs s_Reader_take_name, defBody s_Reader_take_name, defScope s_Reader_take_name, [], []⟩
def hd_Reader_take_number : He.DefD := ⟨("Reader", some "take_number"), "take_number", "Reader.take_number", defArgs s_Reader_take_number, defBody s_Reader_take_number, defScope s_Reader_take_number, [], []⟩
def hd_Reader_end : He.DefD := ⟨("Reader", some "end"), "end", "Reader.end", defArgs s_Reader_end, defBody s_Reader_end, defScope s_Reader_end, [], []⟩
def hd_names_behind : He.DefD := ⟨("names_behind", none), "names_behind", "names_behind", defArgs s_names_behind, defBody s_names_behind, defScope s_names_behind, [], []⟩
def hd_was_row : He.DefD := ⟨("was_row", none), "was_row", "was_row", defArgs s_was_row, defBody s_was_row, defScope s_was_row, [], []⟩
def hd_rule_row : He.DefD := ⟨("rule_row", none), "rule_row", "rule_row", defArgs s_rule_row, defBody s_rule_row, defScope s_rule_row, [], []⟩
def hd_whole_tree : He.DefD := ⟨("whole_tree", none), "whole_tree", "whole_tree", defArgs s_whole_tree, defBody s_whole_tree, defScope s_whole_tree, [], []⟩
def hd_pick_tree : He.DefD := ⟨("pick_tree", none), "pick_tree", "pick_tree", defArgs s_pick_tree, defBody s_pick_tree, defScope s_pick_tree, [], []⟩
def hd_sum_tree : He.DefD := ⟨("sum_tree", none), "sum_tree", "sum_tree", defArgs s_sum_tree, defBody s_sum_tree, defScope s_sum_tree, [], []⟩
def hd_times_tree : He.DefD := ⟨("times_tree", none), "times_tree", "times_tree", defArgs s_times_tree, defBody s_times_tree, defScope s_times_tree, [], []⟩
def hd_small_tree : He.DefD := ⟨("small_tree", none), "small_tree", "small_tree", defArgs s_small_tree, defBody s_small_tree, defScope s_small_tree, [], []⟩
def hd_bracket_tree : He.DefD := ⟨("bracket_tree", none), "bracket_tree", "bracket_tree", defArgs s_bracket_tree, defBody s_bracket_tree, defScope s_bracket_tree, [], []⟩
def hd_two_tree : He.DefD := ⟨("two_tree", none), "two_tree", "two_tree", defArgs s_two_tree, defBody s_two_tree, defScope s_two_tree, [], []⟩
def hd_bells_ago : He.DefD := ⟨("bells_ago", none), "bells_ago", "bells_ago", defArgs s_bells_ago, defBody s_bells_ago, defScope s_bells_ago, [], []⟩
def hd_law_flow : He.DefD := ⟨("_law_flow", none), "_law_flow", "_law_flow", defArgs s_law_flow, defBody s_law_flow, defScope s_law_flow, [], []⟩
def hd_law_pick : He.DefD := ⟨("_law_pick", none), "_law_pick", "_law_pick", defArgs s_law_pick, defBody s_law_pick, defScope s_law_pick, [], []⟩
def hd_law_thing : He.DefD := ⟨("_law_thing", none), "_law_thing", "_law_thing", defArgs s_law_thing, defBody s_law_thing, defScope s_law_thing, [], []⟩
def hd_law_shuffled : He.DefD := ⟨("_law_shuffled", none), "_law_shuffled", "_law_shuffled", defArgs s_law_shuffled, defBody s_law_shuffled, defScope s_law_shuffled, [], []⟩
def hd_law_word : He.DefD := ⟨("_law_word", none), "_law_word", "_law_word", defArgs s_law_word, defBody s_law_word, defScope s_law_word, [], []⟩
def hd_law_taken : He.DefD := ⟨("_law_taken", none), "_law_taken", "_law_taken", defArgs s_law_taken, defBody s_law_taken, defScope s_law_taken, [], []⟩
def hd_law_names : He.DefD := ⟨("_law_names", none), "_law_names", "_law_names", defArgs s_law_names, defBody s_law_names, defScope s_law_names, [], []⟩
def hd_law_leaf : He.DefD := ⟨("_law_leaf", none), "_law_leaf", "_law_leaf", defArgs s_law_leaf, defBody s_law_leaf, defScope s_law_leaf, [], []⟩
def hd_law_tree : He.DefD := ⟨("_law_tree", none), "_law_tree", "_law_tree", defArgs s_law_tree, defBody s_law_tree, defScope s_law_tree, [], []⟩
def hd_law_formulas : He.DefD := ⟨("_law_formulas", none), "_law_formulas", "_law_formulas", defArgs s_law_formulas, defBody s_law_formulas, defScope s_law_formulas, [], []⟩
def hd_law_written : He.DefD := ⟨("_law_written", none), "_law_written", "_law_written", defArgs s_law_written, defBody s_law_written, defScope s_law_written, [], []⟩
def hd_law_bare : He.DefD := ⟨("_law_bare", none), "_law_bare", "_law_bare", defArgs s_law_bare, defBody s_law_bare, defScope s_law_bare, [], []⟩
def hd_law_text : He.DefD := ⟨("_law_text", none), "_law_text", "_law_text", defArgs s_law_text, defBody s_law_text, defScope s_law_text, [], []⟩
def hd_law_great : He.DefD := ⟨("_law_great", none), "_law_great", "_law_great", defArgs s_law_great, defBody s_law_great, defScope s_law_great, [], []⟩
def hd_law : He.DefD := ⟨("law", none), "law", "law", defArgs s_law, defBody s_law, defScope s_law, [], []⟩
def hFn : List He.DefD := [hd_is_name, hd_number_of, hd_read_formulas, hd_Reader___init__, hd_Reader_over, hd_Reader_ahead, hd_Reader_take, hd_Reader_take_just, hd_Reader_take_name, hd_Reader_take_number, hd_Reader_end, hd_names_behind, hd_was_row, hd_rule_row, hd_whole_tree, hd_pick_tree, hd_sum_tree, hd_times_tree, hd_small_tree, hd_bracket_tree, hd_two_tree, hd_bells_ago, hd_law_flow, hd_law_pick, hd_law_thing, hd_law_shuffled, hd_law_word, hd_law_taken, hd_law_names, hd_law_leaf, hd_law_tree, hd_law_formulas, hd_law_written, hd_law_bare, hd_law_text, hd_law_great, hd_law]
def knownK (K : PySem.W.Frag) (a : Addr) : Bool := match K.lookup a with
  | some ⟨_, _, .dict es _, _⟩ => es.toList.all fun e => match e.key with
    | .str s _ => decide (s ∈ twoS)
    | _ => false
  | _ => false
theorem knownK_no {K : PySem.W.Frag} {a : Addr} (h : knownK K a = true) {z : Str} (hz : z ∉ twoS) : PySem.W.nsIn K a z = some none := by
  unfold knownK at h
  unfold PySem.W.nsIn
  split at h
  · rename_i es n sl e
    rw [e]
    have all := List.all_eq_true.mp h
    have f1 : es.toList.find? (fun e => e.key.isStr z) = none := by
      rw [List.find?_eq_none]
      intro x hx y
      have := all x hx
      revert this y
      cases x.key with
      | str s t =>
        intro y this
        have y : (s == z) = true := y
        have := of_decide_eq_true this
        rw [eq_of_beq y] at this
        exact hz this
      | _ => intro _ this; cases this
    have f2 : es.toList.any (fun e => e.refKey) = false := by
      rw [List.any_eq_false]
      intro x hx y
      have := all x hx
      revert this y
      unfold DictEntry.refKey
      cases x.key with
      | str s t => intro y; cases y
      | _ => intro _ this; cases this
    dsimp only
    rw [f1]
    dsimp only
    rw [f2]
    rfl
  · cases h
def signsL : List (Str × He.Dv) := [("+", .str "sum"), ("-", .str "gap")]
def signsT : He.Tab := (fun K => He.ga K "SIGNS", ["+", "-"])
theorem signs_yes {K : PySem.W.Frag} (h : He.valsB K (He.ga K "SIGNS") signsL = true) {z : Str} (hz : z ∈ twoS) : ∃ t, PySem.W.nsIn K (He.ga K "SIGNS") z = some (some (.str (signW z) t)) := by
  have key : ∀ i : Str, (z, He.Dv.str i) ∈ signsL → ∃ t, PySem.W.nsIn K (He.ga K "SIGNS") z = some (some (.str i t)) := fun i hm => by
    obtain ⟨u, e, r⟩ := He.valsB_ok h hm
    obtain ⟨t, rfl⟩ := r
    exact ⟨t, e⟩
  have key2 : ∀ i : Str, signW z = i → (z, He.Dv.str i) ∈ signsL → ∃ t, PySem.W.nsIn K (He.ga K "SIGNS") z = some (some (.str (signW z) t)) := fun i e hm => by
    rw [e]
    exact key i hm
  unfold signsL at key2
  unfold twoS at hz
  simp only [List.mem_cons, List.not_mem_nil, or_false] at hz
  rcases hz with h | h <;> subst h
  · exact key2 "sum" (by decide +kernel) (List.mem_cons_self ..)
  · exact key2 "gap" (by decide +kernel) (List.mem_cons_of_mem _ (List.mem_cons_self ..))
def hFa : List He.Fa := [.glo "is_name", .glo "number_of", .glo "read_formulas", .mkr "Reader", .meth "Reader" "over", .meth "Reader" "ahead", .meth "Reader" "take", .meth "Reader" "take_just", .meth "Reader" "take_name", .meth "Reader" "take_number", .meth "Reader" "end", .glo "names_behind", .glo "was_row", .glo "rule_row", .glo "whole_tree", .glo "pick_tree", .glo "sum_tree", .glo "times_tree", .glo "small_tree", .glo "bracket_tree", .glo "two_tree", .glo "bells_ago", .glo "_law_flow", .glo "_law_pick", .glo "_law_thing", .glo "_law_shuffled", .glo "_law_word", .glo "_law_taken", .glo "_law_names", .glo "_law_leaf", .glo "_law_tree", .glo "_law_formulas", .glo "_law_written", .glo "_law_bare", .glo "_law_text", .glo "_law_great", .glo "law", .free "all", .free "enumerate", .free "int", .free "len", .free "list", .free "range", .free "repr", .free "str", .free "tuple", .glo "TAKEN", .int "LONGEST_NAME" 6, .int "MOST_FIGURES" 9, .str "LETTERS" letS, .str "FIGURES" figS, .int "MOST_WORDS" 40, .glo "SIGNS", .cls "Reader", .glo "Reader", .noat "Reader" "words", .noat "Reader" "row", .noat "Reader" "at"]
def hEx (K : PySem.W.Frag) : Bool := He.tupB K "TAKEN" [.str "in", .str "out", .str "was", .str "if", .str "then", .str "else", .str "most", .str "least"] && He.valsB K (He.ga K "SIGNS") signsL && knownK K (He.ga K "SIGNS")
def hTf : List (Str × Option Str) := [("is_name", none), ("number_of", none)]
abbrev hR : PySem.W.OpenRow := PySem.W.OpenLaw.row PySem.Challenge.rw_beltshift_k21_formulas_read
abbrev hk : PySem.W.Hook := He.hookX 4 hFa hFn [signsT] hTf hEx
def hOb (s : PySem.W.SharedT) : He.AlX := He.obsX 4 hFa hFn [signsT] hTf hEx (HandSHeadRun.getT s)
theorem hOb_eq (s : PySem.W.SharedT) : hOb s = hk.obs s.abs := He.obsX_eq (HandSHeadRun.getT_eq s)
def hN0 : List Str := ["BeltError", "NoText", "LETTERS", "FIGURES", "TAKEN", "LONGEST_NAME", "MOST_FIGURES", "is_name", "number_of", "MOST_WORDS", "SIGNS", "read_formulas", "Reader", "names_behind", "was_row", "rule_row", "whole_tree", "pick_tree", "sum_tree", "times_tree", "small_tree", "bracket_tree", "two_tree", "bells_ago", "_law_flow", "_law_pick", "_law_thing", "_law_shuffled", "_law_word", "_law_taken"]
def hN1 : List Str := ["_law_names", "_law_leaf", "_law_tree", "_law_formulas", "_law_written", "_law_bare", "_law_text", "_law_great"]
def hNames : List Str := hN0 ++ hN1
set_option maxHeartbeats 0 in
theorem all_mkX {w : World} {K : PySem.W.Frag} {h : Heap} {mg : Str → Option Value} {fa : Addr} (X : K.In h) (G : h.Ns mainGlobals mg) (hfa : mg "law" = some (.ref fa)) (c : He.SaysX hFa hFn [signsT] hTf hEx w h K) : LawAtG PySem.Challenge.rw_beltshift_k21_formulas_read w K CX0 131 63 "_law_script" mg fa h := by
  have cd := c.t.d
  obtain ⟨fd0, D0⟩ := cd.def_ 0 (d := hd_is_name) rfl
  have F0 : Fun K "is_name" "is_name" s_is_name (He.ga K "is_name") fd0 := fun_of_D D0
  have g0 : mg "is_name" = some (.ref (He.ga K "is_name")) := He.glo_ok X G (cd.fact 0 (f := .glo "is_name") rfl)
  have b0 := F0.binds (ps := ["text"]) fun _ _ _ _ _ _ us hl => match us, hl with | [_], _ => rfl
  obtain ⟨fd1, D1⟩ := cd.def_ 1 (d := hd_number_of) rfl
  have F1 : Fun K "number_of" "number_of" s_number_of (He.ga K "number_of") fd1 := fun_of_D D1
  have g1 : mg "number_of" = some (.ref (He.ga K "number_of")) := He.glo_ok X G (cd.fact 1 (f := .glo "number_of") rfl)
  have b1 := F1.binds (ps := ["text"]) fun _ _ _ _ _ _ us hl => match us, hl with | [_], _ => rfl
  obtain ⟨fd2, D2⟩ := cd.def_ 2 (d := hd_read_formulas) rfl
  have F2 : Fun K "read_formulas" "read_formulas" s_read_formulas (He.ga K "read_formulas") fd2 := fun_of_D D2
  have g2 : mg "read_formulas" = some (.ref (He.ga K "read_formulas")) := He.glo_ok X G (cd.fact 2 (f := .glo "read_formulas") rfl)
  have b2 := F2.binds (ps := ["text"]) fun _ _ _ _ _ _ us hl => match us, hl with | [_], _ => rfl
  obtain ⟨fd3, D3⟩ := cd.def_ 3 (d := hd_Reader___init__) rfl
  have F3 : Fun K "__init__" "Reader.__init__" s_Reader___init__ (He.fAd K ("Reader", some "__init__")) fd3 := fun_of_D D3
  have g3 : Mk K (He.ga K "Reader") (He.fAd K ("Reader", some "__init__")) := He.mkr_ok (cd.fact 3 (f := .mkr "Reader") rfl)
  have b3 := F3.binds (ps := ["self", "words", "row"]) fun _ _ _ _ _ _ us hl => match us, hl with | [_, _, _], _ => rfl
  obtain ⟨fd4, D4⟩ := cd.def_ 4 (d := hd_Reader_over) rfl
  have F4 : Fun K "over" "Reader.over" s_Reader_over (He.fAd K ("Reader", some "over")) fd4 := fun_of_D D4
  have g4 : Meth K (He.ga K "Reader") "over" (He.fAd K ("Reader", some "over")) := He.meth_ok (cd.fact 4 (f := .meth "Reader" "over") rfl)
  have b4 := F4.binds (ps := ["self"]) fun _ _ _ _ _ _ us hl => match us, hl with | [_], _ => rfl
  obtain ⟨fd5, D5⟩ := cd.def_ 5 (d := hd_Reader_ahead) rfl
  have F5 : Fun K "ahead" "Reader.ahead" s_Reader_ahead (He.fAd K ("Reader", some "ahead")) fd5 := fun_of_D D5
  have g5 : Meth K (He.ga K "Reader") "ahead" (He.fAd K ("Reader", some "ahead")) := He.meth_ok (cd.fact 5 (f := .meth "Reader" "ahead") rfl)
  have b5 := F5.binds (ps := ["self"]) fun _ _ _ _ _ _ us hl => match us, hl with | [_], _ => rfl
  obtain ⟨fd6, D6⟩ := cd.def_ 6 (d := hd_Reader_take) rfl
  have F6 : Fun K "take" "Reader.take" s_Reader_take (He.fAd K ("Reader", some "take")) fd6 := fun_of_D D6
  have g6 : Meth K (He.ga K "Reader") "take" (He.fAd K ("Reader", some "take")) := He.meth_ok (cd.fact 6 (f := .meth "Reader" "take") rfl)
  have b6 := F6.binds (ps := ["self"]) fun _ _ _ _ _ _ us hl => match us, hl with | [_], _ => rfl
  obtain ⟨fd7, D7⟩ := cd.def_ 7 (d := hd_Reader_take_just) rfl
  have F7 : Fun K "take_just" "Reader.take_just" s_Reader_take_just (He.fAd K ("Reader", some "take_just")) fd7 := fun_of_D D7
  have g7 : Meth K (He.ga K "Reader") "take_just" (He.fAd K ("Reader", some "take_just")) := He.meth_ok (cd.fact 7 (f := .meth "Reader" "take_just") rfl)
  have b7 := F7.binds (ps := ["self", "word"]) fun _ _ _ _ _ _ us hl => match us, hl with | [_, _], _ => rfl
  obtain ⟨fd8, D8⟩ := cd.def_ 8 (d := hd_Reader_take_name) rfl
  have F8 : Fun K "take_name" "Reader.take_name" s_Reader_take_name (He.fAd K ("Reader", some "take_name")) fd8 := fun_of_D D8
  have g8 : Meth K (He.ga K "Reader") "take_name" (He.fAd K ("Reader", some "take_name")) := He.meth_ok (cd.fact 8 (f := .meth "Reader" "take_name") rfl)
  have b8 := F8.binds (ps := ["self"]) fun _ _ _ _ _ _ us hl => match us, hl with | [_], _ => rfl
  obtain ⟨fd9, D9⟩ := cd.def_ 9 (d := hd_Reader_take_number) rfl
  have F9 : Fun K "take_number" "Reader.take_number" s_Reader_take_number (He.fAd K ("Reader", some "take_number")) fd9 := fun_of_D D9
  have g9 : Meth K (He.ga K "Reader") "take_number" (He.fAd K ("Reader", some "take_number")) := He.meth_ok (cd.fact 9 (f := .meth "Reader" "take_number") rfl)
  have b9 := F9.binds (ps := ["self"]) fun _ _ _ _ _ _ us hl => match us, hl with | [_], _ => rfl
  obtain ⟨fd10, D10⟩ := cd.def_ 10 (d := hd_Reader_end) rfl
  have F10 : Fun K "end" "Reader.end" s_Reader_end (He.fAd K ("Reader", some "end")) fd10 := fun_of_D D10
  have g10 : Meth K (He.ga K "Reader") "end" (He.fAd K ("Reader", some "end")) := He.meth_ok (cd.fact 10 (f := .meth "Reader" "end") rfl)
  have b10 := F10.binds (ps := ["self"]) fun _ _ _ _ _ _ us hl => match us, hl with | [_], _ => rfl
  obtain ⟨fd11, D11⟩ := cd.def_ 11 (d := hd_names_behind) rfl
  have F11 : Fun K "names_behind" "names_behind" s_names_behind (He.ga K "names_behind") fd11 := fun_of_D D11
  have g11 : mg "names_behind" = some (.ref (He.ga K "names_behind")) := He.glo_ok X G (cd.fact 11 (f := .glo "names_behind") rfl)
  have b11 := F11.binds (ps := ["word", "reader"]) fun _ _ _ _ _ _ us hl => match us, hl with | [_, _], _ => rfl
  obtain ⟨fd12, D12⟩ := cd.def_ 12 (d := hd_was_row) rfl
  have F12 : Fun K "was_row" "was_row" s_was_row (He.ga K "was_row") fd12 := fun_of_D D12
  have g12 : mg "was_row" = some (.ref (He.ga K "was_row")) := He.glo_ok X G (cd.fact 12 (f := .glo "was_row") rfl)
  have b12 := F12.binds (ps := ["reader"]) fun _ _ _ _ _ _ us hl => match us, hl with | [_], _ => rfl
  obtain ⟨fd13, D13⟩ := cd.def_ 13 (d := hd_rule_row) rfl
  have F13 : Fun K "rule_row" "rule_row" s_rule_row (He.ga K "rule_row") fd13 := fun_of_D D13
  have g13 : mg "rule_row" = some (.ref (He.ga K "rule_row")) := He.glo_ok X G (cd.fact 13 (f := .glo "rule_row") rfl)
  have b13 := F13.binds (ps := ["reader"]) fun _ _ _ _ _ _ us hl => match us, hl with | [_], _ => rfl
  obtain ⟨fd14, D14⟩ := cd.def_ 14 (d := hd_whole_tree) rfl
  have F14 : Fun K "whole_tree" "whole_tree" s_whole_tree (He.ga K "whole_tree") fd14 := fun_of_D D14
  have g14 : mg "whole_tree" = some (.ref (He.ga K "whole_tree")) := He.glo_ok X G (cd.fact 14 (f := .glo "whole_tree") rfl)
  have b14 := F14.binds (ps := ["reader"]) fun _ _ _ _ _ _ us hl => match us, hl with | [_], _ => rfl
  obtain ⟨fd15, D15⟩ := cd.def_ 15 (d := hd_pick_tree) rfl
  have F15 : Fun K "pick_tree" "pick_tree" s_pick_tree (He.ga K "pick_tree") fd15 := fun_of_D D15
  have g15 : mg "pick_tree" = some (.ref (He.ga K "pick_tree")) := He.glo_ok X G (cd.fact 15 (f := .glo "pick_tree") rfl)
  have b15 := F15.binds (ps := ["reader"]) fun _ _ _ _ _ _ us hl => match us, hl with | [_], _ => rfl
  obtain ⟨fd16, D16⟩ := cd.def_ 16 (d := hd_sum_tree) rfl
  have F16 : Fun K "sum_tree" "sum_tree" s_sum_tree (He.ga K "sum_tree") fd16 := fun_of_D D16
  have g16 : mg "sum_tree" = some (.ref (He.ga K "sum_tree")) := He.glo_ok X G (cd.fact 16 (f := .glo "sum_tree") rfl)
  have b16 := F16.binds (ps := ["reader"]) fun _ _ _ _ _ _ us hl => match us, hl with | [_], _ => rfl
  obtain ⟨fd17, D17⟩ := cd.def_ 17 (d := hd_times_tree) rfl
  have F17 : Fun K "times_tree" "times_tree" s_times_tree (He.ga K "times_tree") fd17 := fun_of_D D17
  have g17 : mg "times_tree" = some (.ref (He.ga K "times_tree")) := He.glo_ok X G (cd.fact 17 (f := .glo "times_tree") rfl)
  have b17 := F17.binds (ps := ["reader"]) fun _ _ _ _ _ _ us hl => match us, hl with | [_], _ => rfl
  obtain ⟨fd18, D18⟩ := cd.def_ 18 (d := hd_small_tree) rfl
  have F18 : Fun K "small_tree" "small_tree" s_small_tree (He.ga K "small_tree") fd18 := fun_of_D D18
  have g18 : mg "small_tree" = some (.ref (He.ga K "small_tree")) := He.glo_ok X G (cd.fact 18 (f := .glo "small_tree") rfl)
  have b18 := F18.binds (ps := ["reader"]) fun _ _ _ _ _ _ us hl => match us, hl with | [_], _ => rfl
  obtain ⟨fd19, D19⟩ := cd.def_ 19 (d := hd_bracket_tree) rfl
  have F19 : Fun K "bracket_tree" "bracket_tree" s_bracket_tree (He.ga K "bracket_tree") fd19 := fun_of_D D19
  have g19 : mg "bracket_tree" = some (.ref (He.ga K "bracket_tree")) := He.glo_ok X G (cd.fact 19 (f := .glo "bracket_tree") rfl)
  have b19 := F19.binds (ps := ["reader"]) fun _ _ _ _ _ _ us hl => match us, hl with | [_], _ => rfl
  obtain ⟨fd20, D20⟩ := cd.def_ 20 (d := hd_two_tree) rfl
  have F20 : Fun K "two_tree" "two_tree" s_two_tree (He.ga K "two_tree") fd20 := fun_of_D D20
  have g20 : mg "two_tree" = some (.ref (He.ga K "two_tree")) := He.glo_ok X G (cd.fact 20 (f := .glo "two_tree") rfl)
  have b20 := F20.binds (ps := ["reader"]) fun _ _ _ _ _ _ us hl => match us, hl with | [_], _ => rfl
  obtain ⟨fd21, D21⟩ := cd.def_ 21 (d := hd_bells_ago) rfl
  have F21 : Fun K "bells_ago" "bells_ago" s_bells_ago (He.ga K "bells_ago") fd21 := fun_of_D D21
  have g21 : mg "bells_ago" = some (.ref (He.ga K "bells_ago")) := He.glo_ok X G (cd.fact 21 (f := .glo "bells_ago") rfl)
  have b21 := F21.binds (ps := ["reader"]) fun _ _ _ _ _ _ us hl => match us, hl with | [_], _ => rfl
  obtain ⟨fd22, D22⟩ := cd.def_ 22 (d := hd_law_flow) rfl
  have F22 : Fun K "_law_flow" "_law_flow" s_law_flow (He.ga K "_law_flow") fd22 := fun_of_D D22
  have g22 : mg "_law_flow" = some (.ref (He.ga K "_law_flow")) := He.glo_ok X G (cd.fact 22 (f := .glo "_law_flow") rfl)
  have b22 := F22.binds (ps := ["_law_script"]) fun _ _ _ _ _ _ us hl => match us, hl with | [_], _ => rfl
  obtain ⟨fd23, D23⟩ := cd.def_ 23 (d := hd_law_pick) rfl
  have F23 : Fun K "_law_pick" "_law_pick" s_law_pick (He.ga K "_law_pick") fd23 := fun_of_D D23
  have g23 : mg "_law_pick" = some (.ref (He.ga K "_law_pick")) := He.glo_ok X G (cd.fact 23 (f := .glo "_law_pick") rfl)
  have b23 := F23.binds (ps := ["_law_flow_here", "_law_many"]) fun _ _ _ _ _ _ us hl => match us, hl with | [_, _], _ => rfl
  obtain ⟨fd24, D24⟩ := cd.def_ 24 (d := hd_law_thing) rfl
  have F24 : Fun K "_law_thing" "_law_thing" s_law_thing (He.ga K "_law_thing") fd24 := fun_of_D D24
  have g24 : mg "_law_thing" = some (.ref (He.ga K "_law_thing")) := He.glo_ok X G (cd.fact 24 (f := .glo "_law_thing") rfl)
  have b24 := F24.binds (ps := ["_law_flow_here"]) fun _ _ _ _ _ _ us hl => match us, hl with | [_], _ => rfl
  obtain ⟨fd25, D25⟩ := cd.def_ 25 (d := hd_law_shuffled) rfl
  have F25 : Fun K "_law_shuffled" "_law_shuffled" s_law_shuffled (He.ga K "_law_shuffled") fd25 := fun_of_D D25
  have g25 : mg "_law_shuffled" = some (.ref (He.ga K "_law_shuffled")) := He.glo_ok X G (cd.fact 25 (f := .glo "_law_shuffled") rfl)
  have b25 := F25.binds (ps := ["_law_flow_here", "_law_some"]) fun _ _ _ _ _ _ us hl => match us, hl with | [_, _], _ => rfl
  obtain ⟨fd26, D26⟩ := cd.def_ 26 (d := hd_law_word) rfl
  have F26 : Fun K "_law_word" "_law_word" s_law_word (He.ga K "_law_word") fd26 := fun_of_D D26
  have g26 : mg "_law_word" = some (.ref (He.ga K "_law_word")) := He.glo_ok X G (cd.fact 26 (f := .glo "_law_word") rfl)
  have b26 := F26.binds (ps := ["_law_flow_here", "_law_most"]) fun _ _ _ _ _ _ us hl => match us, hl with | [_, _], _ => rfl
  obtain ⟨fd27, D27⟩ := cd.def_ 27 (d := hd_law_taken) rfl
  have F27 : Fun K "_law_taken" "_law_taken" s_law_taken (He.ga K "_law_taken") fd27 := fun_of_D D27
  have g27 : mg "_law_taken" = some (.ref (He.ga K "_law_taken")) := He.glo_ok X G (cd.fact 27 (f := .glo "_law_taken") rfl)
  have b27 := F27.binds (ps := []) fun _ _ _ _ _ _ us hl => match us, hl with | [], _ => rfl
  obtain ⟨fd28, D28⟩ := cd.def_ 28 (d := hd_law_names) rfl
  have F28 : Fun K "_law_names" "_law_names" s_law_names (He.ga K "_law_names") fd28 := fun_of_D D28
  have g28 : mg "_law_names" = some (.ref (He.ga K "_law_names")) := He.glo_ok X G (cd.fact 28 (f := .glo "_law_names") rfl)
  have b28 := F28.binds (ps := ["_law_flow_here", "_law_many"]) fun _ _ _ _ _ _ us hl => match us, hl with | [_, _], _ => rfl
  obtain ⟨fd29, D29⟩ := cd.def_ 29 (d := hd_law_leaf) rfl
  have F29 : Fun K "_law_leaf" "_law_leaf" s_law_leaf (He.ga K "_law_leaf") fd29 := fun_of_D D29
  have g29 : mg "_law_leaf" = some (.ref (He.ga K "_law_leaf")) := He.glo_ok X G (cd.fact 29 (f := .glo "_law_leaf") rfl)
  have b29 := F29.binds (ps := ["_law_flow_here", "_law_now", "_law_names_here"]) fun _ _ _ _ _ _ us hl => match us, hl with | [_, _, _], _ => rfl
  obtain ⟨fd30, D30⟩ := cd.def_ 30 (d := hd_law_tree) rfl
  have F30 : Fun K "_law_tree" "_law_tree" s_law_tree (He.ga K "_law_tree") fd30 := fun_of_D D30
  have g30 : mg "_law_tree" = some (.ref (He.ga K "_law_tree")) := He.glo_ok X G (cd.fact 30 (f := .glo "_law_tree") rfl)
  have b30 := F30.binds (ps := ["_law_flow_here", "_law_room", "_law_now", "_law_names_here"]) fun _ _ _ _ _ _ us hl => match us, hl with | [_, _, _, _], _ => rfl
  obtain ⟨fd31, D31⟩ := cd.def_ 31 (d := hd_law_formulas) rfl
  have F31 : Fun K "_law_formulas" "_law_formulas" s_law_formulas (He.ga K "_law_formulas") fd31 := fun_of_D D31
  have g31 : mg "_law_formulas" = some (.ref (He.ga K "_law_formulas")) := He.glo_ok X G (cd.fact 31 (f := .glo "_law_formulas") rfl)
  have b31 := F31.binds (ps := ["_law_flow_here", "_law_most"]) fun _ _ _ _ _ _ us hl => match us, hl with | [_, _], _ => rfl
  obtain ⟨fd32, D32⟩ := cd.def_ 32 (d := hd_law_written) rfl
  have F32 : Fun K "_law_written" "_law_written" s_law_written (He.ga K "_law_written") fd32 := fun_of_D D32
  have g32 : mg "_law_written" = some (.ref (He.ga K "_law_written")) := He.glo_ok X G (cd.fact 32 (f := .glo "_law_written") rfl)
  have b32 := F32.binds (ps := ["_law_flow_here", "_law_tree_here", "_law_level"]) fun _ _ _ _ _ _ us hl => match us, hl with | [_, _, _], _ => rfl
  obtain ⟨fd33, D33⟩ := cd.def_ 33 (d := hd_law_bare) rfl
  have F33 : Fun K "_law_bare" "_law_bare" s_law_bare (He.ga K "_law_bare") fd33 := fun_of_D D33
  have g33 : mg "_law_bare" = some (.ref (He.ga K "_law_bare")) := He.glo_ok X G (cd.fact 33 (f := .glo "_law_bare") rfl)
  have b33 := F33.binds (ps := ["_law_flow_here", "_law_tree_here"]) fun _ _ _ _ _ _ us hl => match us, hl with | [_, _], _ => rfl
  obtain ⟨fd34, D34⟩ := cd.def_ 34 (d := hd_law_text) rfl
  have F34 : Fun K "_law_text" "_law_text" s_law_text (He.ga K "_law_text") fd34 := fun_of_D D34
  have g34 : mg "_law_text" = some (.ref (He.ga K "_law_text")) := He.glo_ok X G (cd.fact 34 (f := .glo "_law_text") rfl)
  have b34 := F34.binds (ps := ["_law_flow_here", "_law_formulas_here"]) fun _ _ _ _ _ _ us hl => match us, hl with | [_, _], _ => rfl
  obtain ⟨fd35, D35⟩ := cd.def_ 35 (d := hd_law_great) rfl
  have F35 : Fun K "_law_great" "_law_great" s_law_great (He.ga K "_law_great") fd35 := fun_of_D D35
  have g35 : mg "_law_great" = some (.ref (He.ga K "_law_great")) := He.glo_ok X G (cd.fact 35 (f := .glo "_law_great") rfl)
  have b35 := F35.binds (ps := ["_law_number"]) fun _ _ _ _ _ _ us hl => match us, hl with | [_], _ => rfl
  obtain ⟨fd36, D36⟩ := cd.def_ 36 (d := hd_law) rfl
  have F36 : Fun K "law" "law" s_law (He.ga K "law") fd36 := fun_of_D D36
  have g36 : mg "law" = some (.ref (He.ga K "law")) := He.glo_ok X G (cd.fact 36 (f := .glo "law") rfl)
  have ex := c.more
  unfold hEx at ex
  simp only [Bool.and_eq_true] at ex
  obtain ⟨⟨ex0, ex1⟩, ex2⟩ := ex
  have T : Top w K mg (He.ga K "Reader") := ⟨⟨_, fd0, F0, b0, g0⟩, ⟨_, fd1, F1, b1, g1⟩, ⟨_, fd2, F2, b2, g2⟩, ⟨_, fd3, F3, b3, g3⟩, ⟨_, fd4, F4, b4, g4⟩, ⟨_, fd5, F5, b5, g5⟩, ⟨_, fd6, F6, b6, g6⟩, ⟨_, fd7, F7, b7, g7⟩, ⟨_, fd8, F8, b8, g8⟩, ⟨_, fd9, F9, b9, g9⟩, ⟨_, fd10, F10, b10, g10⟩, ⟨_, fd11, F11, b11, g11⟩, ⟨_, fd12, F12, b12, g12⟩, ⟨_, fd13, F13, b13, g13⟩, ⟨_, fd14, F14, b14, g14⟩, ⟨_, fd15, F15, b15, g15⟩, ⟨_, fd16, F16, b16, g16⟩, ⟨_, fd17, F17, b17, g17⟩, ⟨_, fd18, F18, b18, g18⟩, ⟨_, fd19, F19, b19, g19⟩, ⟨_, fd20, F20, b20, g20⟩, ⟨_, fd21, F21, b21, g21⟩, ⟨_, fd22, F22, b22, g22⟩, ⟨_, fd23, F23, b23, g23⟩, ⟨_, fd24, F24, b24, g24⟩, ⟨_, fd25, F25, b25, g25⟩, ⟨_, fd26, F26, b26, g26⟩, ⟨_, fd27, F27, b27, g27⟩, ⟨_, fd28, F28, b28, g28⟩, ⟨_, fd29, F29, b29, g29⟩, ⟨_, fd30, F30, b30, g30⟩, ⟨_, fd31, F31, b31, g31⟩, ⟨_, fd32, F32, b32, g32⟩, ⟨_, fd33, F33, b33, g33⟩, ⟨_, fd34, F34, b34, g34⟩, ⟨_, fd35, F35, b35, g35⟩, He.free_ok X G (cd.fact 37 (f := .free "all") rfl), He.free_ok X G (cd.fact 38 (f := .free "enumerate") rfl), He.free_ok X G (cd.fact 39 (f := .free "int") rfl), He.free_ok X G (cd.fact 40 (f := .free "len") rfl), He.free_ok X G (cd.fact 41 (f := .free "list") rfl), He.free_ok X G (cd.fact 42 (f := .free "range") rfl), He.free_ok X G (cd.fact 43 (f := .free "repr") rfl), He.free_ok X G (cd.fact 44 (f := .free "str") rfl), He.free_ok X G (cd.fact 45 (f := .free "tuple") rfl), ⟨_, He.glo_ok X G (cd.fact 46 (f := .glo "TAKEN") rfl), fun H => He.tupB_ok ex0 H⟩, He.int_ok X G (cd.fact 47 (f := .int "LONGEST_NAME" 6) rfl), He.int_ok X G (cd.fact 48 (f := .int "MOST_FIGURES" 9) rfl), He.str_ok X G (cd.fact 49 (f := .str "LETTERS" letS) rfl), He.str_ok X G (cd.fact 50 (f := .str "FIGURES" figS) rfl), ⟨_, He.glo_ok X G (cd.fact 52 (f := .glo "SIGNS") rfl), ⟨c.t.tab 0 (t := signsT), fun z hz => signs_yes ex1 hz, fun z hz => knownK_no ex2 hz⟩⟩, He.int_ok X G (cd.fact 51 (f := .int "MOST_WORDS" 40) rfl), He.cls_ok (cd.fact 53 (f := .cls "Reader") rfl), He.glo_ok X G (cd.fact 54 (f := .glo "Reader") rfl), He.noat_ok (cd.fact 55 (f := .noat "Reader" "words") rfl), He.noat_ok (cd.fact 56 (f := .noat "Reader" "row") rfl), He.noat_ok (cd.fact 57 (f := .noat "Reader" "at") rfl)⟩
  have e := hfa.symm.trans g36
  cases e
  have law_b : ∀ (s : Shared) (v : Value), BindsTo s fd36 ⟨[v], []⟩ [("_law_script", v)] := fun s v => by
    obtain ⟨_, _, _, _, _, _, _, _, _, rfl, _, _⟩ := F36.ex
    exact .of_eq rfl
  refine ⟨fd36, [He.cT K ("is_name", none), He.cT K ("number_of", none)], sp_law K ((He.cT K ("is_name", none)).2, (He.cT K ("number_of", none)).2), fun p hp => ?_, fun p hp => ?_, fun p hp => ?_, law_b, fun H a ns hl _ hT hS => ⟨a, ns, rfl, hS, hl, ⟨⟨#[], hT (He.cT K ("is_name", none)) (List.mem_cons_self ..), trivial⟩, ⟨#[], hT (He.cT K ("number_of", none)) (List.mem_cons_of_mem _ (List.mem_cons_self ..)), trivial⟩⟩, fun _ => rfl⟩, fun base _ _ TB => ?_⟩
  · have hin : ∀ p ∈ [He.cT K ("is_name", none), He.cT K ("number_of", none)], ∃ q ∈ hTf, p = He.cT K q := fun p hp => by
      rcases List.mem_cons.mp hp with rfl | hp
      · exact ⟨_, List.mem_cons_self .., rfl⟩
      rcases List.mem_cons.mp hp with rfl | hp
      · exact ⟨_, (List.mem_cons_of_mem _ (List.mem_cons_self ..)), rfl⟩
      cases hp
    obtain ⟨q, hq, rfl⟩ := hin p hp
    exact c.empty _ hq
  · have hin : ∀ p ∈ [He.cT K ("is_name", none), He.cT K ("number_of", none)], ∃ q ∈ hTf, p = He.cT K q := fun p hp => by
      rcases List.mem_cons.mp hp with rfl | hp
      · exact ⟨_, List.mem_cons_self .., rfl⟩
      rcases List.mem_cons.mp hp with rfl | hp
      · exact ⟨_, (List.mem_cons_of_mem _ (List.mem_cons_self ..)), rfl⟩
      cases hp
    obtain ⟨q, hq, rfl⟩ := hin p hp
    exact c.out _ hq
  · have hin : ∀ p ∈ [He.cT K ("is_name", none), He.cT K ("number_of", none)], ∃ q ∈ hTf, p = He.cT K q := fun p hp => by
      rcases List.mem_cons.mp hp with rfl | hp
      · exact ⟨_, List.mem_cons_self .., rfl⟩
      rcases List.mem_cons.mp hp with rfl | hp
      · exact ⟨_, (List.mem_cons_of_mem _ (List.mem_cons_self ..)), rfl⟩
      cases hp
    obtain ⟨q, hq, rfl⟩ := hin p hp
    exact PySem.W.codeHd_of_K X (c.hd _ hq)
  have TB0 := TB _ (List.mem_cons_self ..)
  have TC0 : GxR.TabB base mg (He.codeOf K ("is_name", none)) (He.tabOf K (He.codeOf K ("is_name", none))) := ⟨TB0.code, TB0.bm, TB0.gP⟩
  haveI : TabN K mg base _ ((He.cT K ("is_name", none)).2, (He.cT K ("number_of", none)).2) := ⟨TC0, fun f fd F m => by
    have e := m.symm.trans g0
    cases e
    obtain ⟨_, _, _, _, _, _, cdv, _, _, rfl, lk, ci⟩ := F.ex
    obtain ⟨c0, rfl⟩ := He.codeIn_ref ci
    exact congrArg Value.ref (He.codeOf_eq (p := ("is_name", none)) lk rfl).symm⟩
  have TB1 := TB _ (List.mem_cons_of_mem _ (List.mem_cons_self ..))
  have TC1 : GxR.TabB base mg (He.codeOf K ("number_of", none)) (He.tabOf K (He.codeOf K ("number_of", none))) := ⟨TB1.code, TB1.bm, TB1.gP⟩
  haveI : TabF K mg base _ ((He.cT K ("is_name", none)).2, (He.cT K ("number_of", none)).2) := ⟨TC1, fun f fd F m => by
    have e := m.symm.trans g1
    cases e
    obtain ⟨_, _, _, _, _, _, cdv, _, _, rfl, lk, ci⟩ := F.ex
    obtain ⟨c0, rfl⟩ := He.codeIn_ref ci
    exact congrArg Value.ref (He.codeOf_eq (p := ("number_of", none)) lk rfl).symm⟩
  exact ok_law F36 T
end Mine
open PySem PySem.W PySem.Calls PyProof.Rows
set_option maxRecDepth 100000 in
set_option maxHeartbeats 0 in
theorem PySem.Challenge.cw_beltshift_k21_formulas_read_holds : PySem.Challenge.rw_beltshift_k21_formulas_read.Holds := by
  w_on; o_law
  o_head Mine.hk
  case hw => w_witness2
  case hc =>
    refine Mine.walkGT (l := PySem.Challenge.rw_beltshift_k21_formulas_read) (n := 63) (k := 131) (x := "_law_script") (CX := fun _ => L2.CX0) rfl (by decide) (by kernel_rfl) ⟨rfl, by decide, by decide⟩ ?F (fun _ _ _ _ _ z => z)
    intro w mg fa h Y G hmg0
    obtain ⟨K, KX, c⟩ := Y
    have hmg : mg ("law" : PySem.Str) = some (.ref fa) := by
      have e : (HandSHeadRun.topDef Mine.hR.prog 42).name = ("law" : PySem.Str) := by kernel_rfl
      rw [← e]
      exact hmg0
    exact ⟨K, KX, Mine.all_mkX KX G hmg c⟩
