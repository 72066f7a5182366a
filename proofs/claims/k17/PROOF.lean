import PyProof.Rows.All
import Wide.All
import OpenK.AllK
import Wide.FinOn
import HandS.ForMost
import HandS.Wide
import HandS.Style
import HandS.IsInst
import HandS.TupAny
import HandS.NoneIn
import HandS.SetFor
import HandS.Conv
import HandS.Zip
import KE.GoesMore
import KE.KDictZip
import KE.GoesZip
import KE.GoesEnum
import PySem.Challenge.RW_beltshift_k17_whole_goes_on_as_it_would
set_option Elab.async false
set_option linter.all false
set_option maxRecDepth 100000
namespace Mine
open PySem PyProof.Rows L2
def topS (i : Nat) : Stmt := PySem.Challenge.pw_beltshift_k17_whole_goes_on_as_it_would.main.body.getD i (.Pass ⟨0, 0, 0, 0⟩)
abbrev s_work_order : Stmt := topS 1
abbrev N_work_order : List Str := ["room", "hands", "belts", "loose", "giver", "taker", "things", "owed", "left", "order", "ready", "hand"]
theorem sc_work_order : FnScope N_work_order ["room"] (defScope s_work_order) := ⟨rfl, rfl, rfl, by decide +kernel, rfl, by decide +kernel, by decide +kernel⟩
abbrev s_made_by : Stmt := topS 3
abbrev N_made_by : List Str := ["rule", "things", "word"]
theorem sc_made_by : FnScope N_made_by ["rule", "things"] (defScope s_made_by) := ⟨rfl, rfl, rfl, by decide +kernel, rfl, by decide +kernel, by decide +kernel⟩
abbrev s_made_of_two : Stmt := topS 4
abbrev N_made_of_two : List Str := ["word", "one", "other"]
theorem sc_made_of_two : FnScope N_made_of_two ["word", "one", "other"] (defScope s_made_of_two) := ⟨rfl, rfl, rfl, by decide +kernel, rfl, by decide +kernel, by decide +kernel⟩
abbrev s_comings : Stmt := topS 8
abbrev N_comings : List Str := ["room", "hand", "number", "belt"]
theorem sc_comings : FnScope N_comings ["room", "hand"] (defScope s_comings) := ⟨rfl, rfl, rfl, by decide +kernel, rfl, by decide +kernel, by decide +kernel⟩
abbrev s_doors_in : Stmt := topS 9
abbrev N_doors_in : List Str := ["room", "number", "hand"]
theorem sc_doors_in : FnScope N_doors_in ["room"] (defScope s_doors_in) := ⟨rfl, rfl, rfl, by decide +kernel, rfl, by decide +kernel, by decide +kernel⟩
abbrev s_doors_out : Stmt := topS 10
abbrev N_doors_out : List Str := ["room", "number", "hand"]
theorem sc_doors_out : FnScope N_doors_out ["room"] (defScope s_doors_out) := ⟨rfl, rfl, rfl, by decide +kernel, rfl, by decide +kernel, by decide +kernel⟩
abbrev s_run : Stmt := topS 12
abbrev N_run : List Str := ["room", "rows", "doors", "made"]
theorem sc_run : FnScope N_run ["room", "rows"] (defScope s_run) := ⟨rfl, rfl, rfl, by decide +kernel, rfl, by decide +kernel, by decide +kernel⟩
abbrev s_worked : Stmt := topS 13
abbrev N_worked : List Str := ["room", "rows", "plan", "stands", "told", "things", "made"]
theorem sc_worked : FnScope N_worked ["room", "rows"] (defScope s_worked) := ⟨rfl, rfl, rfl, by decide +kernel, rfl, by decide +kernel, by decide +kernel⟩
abbrev s_standing : Stmt := topS 14
abbrev N_standing : List Str := ["room", "rows", "stands", "made"]
theorem sc_standing : FnScope N_standing ["room", "rows"] (defScope s_standing) := ⟨rfl, rfl, rfl, by decide +kernel, rfl, by decide +kernel, by decide +kernel⟩
abbrev s_picked : Stmt := topS 15
abbrev N_picked : List Str := ["made", "doors", "door"]
theorem sc_picked : FnScope N_picked ["made", "doors"] (defScope s_picked) := ⟨rfl, rfl, rfl, by decide +kernel, rfl, by decide +kernel, by decide +kernel⟩
abbrev s_work_plan : Stmt := topS 16
abbrev N_work_plan : List Str := ["room", "hand"]
theorem sc_work_plan : FnScope N_work_plan ["room"] (defScope s_work_plan) := ⟨rfl, rfl, rfl, by decide +kernel, rfl, by decide +kernel, by decide +kernel⟩
abbrev s_made_at_bell : Stmt := topS 17
abbrev N_made_at_bell : List Str := ["room", "plan", "things", "hands", "belts", "made", "hand", "coming", "taken", "number"]
theorem sc_made_at_bell : FnScope N_made_at_bell ["room", "plan", "things"] (defScope s_made_at_bell) := ⟨rfl, rfl, rfl, by decide +kernel, rfl, by decide +kernel, by decide +kernel⟩
abbrev s_thing_taken : Stmt := topS 18
abbrev N_thing_taken : List Str := ["belt", "made", "giver", "taker", "things"]
theorem sc_thing_taken : FnScope N_thing_taken ["belt", "made"] (defScope s_thing_taken) := ⟨rfl, rfl, rfl, by decide +kernel, rfl, by decide +kernel, by decide +kernel⟩
abbrev s_behind_bell : Stmt := topS 19
abbrev N_behind_bell : List Str := ["room", "made", "hands", "belts", "belt"]
theorem sc_behind_bell : FnScope N_behind_bell ["room", "made"] (defScope s_behind_bell) := ⟨rfl, rfl, rfl, by decide +kernel, rfl, by decide +kernel, by decide +kernel⟩
abbrev s_belt_behind_bell : Stmt := topS 20
abbrev N_belt_behind_bell : List Str := ["belt", "made", "giver", "taker", "things"]
theorem sc_belt_behind_bell : FnScope N_belt_behind_bell ["belt", "made"] (defScope s_belt_behind_bell) := ⟨rfl, rfl, rfl, by decide +kernel, rfl, by decide +kernel, by decide +kernel⟩
abbrev s_Run___init__ : Stmt := inClass (topS 21) 0
abbrev N_Run___init__ : List Str := ["self", "room"]
theorem sc_Run___init__ : FnScope N_Run___init__ ["self", "room"] (defScope s_Run___init__) := ⟨rfl, rfl, rfl, by decide +kernel, rfl, by decide +kernel, by decide +kernel⟩
abbrev s_Run_bell : Stmt := inClass (topS 21) 1
abbrev N_Run_bell : List Str := ["self", "things", "made"]
theorem sc_Run_bell : FnScope N_Run_bell ["self", "things"] (defScope s_Run_bell) := ⟨rfl, rfl, rfl, by decide +kernel, rfl, by decide +kernel, by decide +kernel⟩
abbrev s_Run_bells : Stmt := inClass (topS 21) 2
abbrev N_Run_bells : List Str := ["self"]
theorem sc_Run_bells : FnScope N_Run_bells ["self"] (defScope s_Run_bells) := ⟨rfl, rfl, rfl, by decide +kernel, rfl, by decide +kernel, by decide +kernel⟩
abbrev s_Run_room : Stmt := inClass (topS 21) 3
abbrev N_Run_room : List Str := ["self"]
theorem sc_Run_room : FnScope N_Run_room ["self"] (defScope s_Run_room) := ⟨rfl, rfl, rfl, by decide +kernel, rfl, by decide +kernel, by decide +kernel⟩
abbrev s_law_flow : Stmt := topS 23
abbrev N_law_flow : List Str := ["_law_script"]
theorem sc_law_flow : FnScope N_law_flow ["_law_script"] (defScope s_law_flow) := ⟨rfl, rfl, rfl, by decide +kernel, rfl, by decide +kernel, by decide +kernel⟩
abbrev s_law_pick : Stmt := topS 24
abbrev N_law_pick : List Str := ["_law_flow_here", "_law_many", "_law_cell", "_law_digit"]
theorem sc_law_pick : FnScope N_law_pick ["_law_flow_here", "_law_many"] (defScope s_law_pick) := ⟨rfl, rfl, rfl, by decide +kernel, rfl, by decide +kernel, by decide +kernel⟩
abbrev s_law_thing : Stmt := topS 25
abbrev N_law_thing : List Str := ["_law_flow_here"]
theorem sc_law_thing : FnScope N_law_thing ["_law_flow_here"] (defScope s_law_thing) := ⟨rfl, rfl, rfl, by decide +kernel, rfl, by decide +kernel, by decide +kernel⟩
abbrev s_law_needs : Stmt := topS 26
abbrev N_law_needs : List Str := ["_law_rule_here"]
theorem sc_law_needs : FnScope N_law_needs ["_law_rule_here"] (defScope s_law_needs) := ⟨rfl, rfl, rfl, by decide +kernel, rfl, by decide +kernel, by decide +kernel⟩
abbrev s_law_rule : Stmt := topS 27
abbrev N_law_rule : List Str := ["_law_flow_here", "_law_most", "_law_words", "_law_word"]
theorem sc_law_rule : FnScope N_law_rule ["_law_flow_here", "_law_most"] (defScope s_law_rule) := ⟨rfl, rfl, rfl, by decide +kernel, rfl, by decide +kernel, by decide +kernel⟩
abbrev s_law_shuffled : Stmt := topS 28
abbrev N_law_shuffled : List Str := ["_law_flow_here", "_law_some", "_law_left", "_law_k"]
theorem sc_law_shuffled : FnScope N_law_shuffled ["_law_flow_here", "_law_some"] (defScope s_law_shuffled) := ⟨rfl, rfl, rfl, by decide +kernel, rfl, by decide +kernel, by decide +kernel⟩
abbrev s_law_hands : Stmt := topS 29
abbrev N_law_hands : List Str := ["_law_flow_here", "_law_many", "_law_sorts", "_law_left", "_law_hands_here", "_law_k", "_law_sort", "_law_behind", "_law_other", "_law_rule_here"]
theorem sc_law_hands : FnScope N_law_hands ["_law_flow_here", "_law_many"] (defScope s_law_hands) := ⟨rfl, rfl, rfl, by decide +kernel, rfl, by decide +kernel, by decide +kernel⟩
abbrev s_law_room : Stmt := topS 30
abbrev N_law_room : List Str := ["_law_flow_here", "_law_most", "_law_hands_here", "_law_ranks", "_law_givers", "_law_k", "_law_takers", "_law_belts", "_law_to", "_law_one", "_law_trays"]
theorem sc_law_room : FnScope N_law_room ["_law_flow_here", "_law_most"] (defScope s_law_room) := ⟨rfl, rfl, rfl, by decide +kernel, rfl, by decide +kernel, by decide +kernel⟩
abbrev s_law_rows : Stmt := topS 31
abbrev N_law_rows : List Str := ["_law_flow_here", "_law_room_here", "_law_many", "_law_doors", "_law_hand", "_law_door", "_law_k"]
theorem sc_law_rows : FnScope N_law_rows ["_law_flow_here", "_law_room_here", "_law_many"] (defScope s_law_rows) := ⟨rfl, rfl, rfl, by decide +kernel, rfl, by decide +kernel, by decide +kernel⟩
abbrev s_law_any_room : Stmt := topS 32
abbrev N_law_any_room : List Str := ["_law_flow_here", "_law_way", "_law_hands_here", "_law_k"]
theorem sc_law_any_room : FnScope N_law_any_room ["_law_flow_here"] (defScope s_law_any_room) := ⟨rfl, rfl, rfl, by decide +kernel, rfl, by decide +kernel, by decide +kernel⟩
abbrev s_law_some_rows : Stmt := topS 33
abbrev N_law_some_rows : List Str := ["_law_flow_here", "_law_room_here", "_law_many"]
theorem sc_law_some_rows : FnScope N_law_some_rows ["_law_flow_here", "_law_room_here"] (defScope s_law_some_rows) := ⟨rfl, rfl, rfl, by decide +kernel, rfl, by decide +kernel, by decide +kernel⟩
abbrev s_law_turned_room : Stmt := topS 34
abbrev N_law_turned_room : List Str := ["_law_flow_here", "_law_room_here", "_law_hands_here", "_law_belts", "_law_order", "_law_queues", "_law_belt", "_law_k", "_law_found", "_law_turn", "_law_some", "_law_one", "_law_to", "_law_things"]
theorem sc_law_turned_room : FnScope N_law_turned_room ["_law_flow_here", "_law_room_here"] (defScope s_law_turned_room) := ⟨rfl, rfl, rfl, by decide +kernel, rfl, by decide +kernel, by decide +kernel⟩
abbrev s_law_goes_on : Stmt := topS 35
abbrev N_law_goes_on : List Str := ["_law_room_here", "_law_first", "_law_rest", "_law_there", "_law_begun", "_law_things", "_law_other"]
theorem sc_law_goes_on : FnScope N_law_goes_on ["_law_room_here", "_law_first", "_law_rest"] (defScope s_law_goes_on) := ⟨rfl, rfl, rfl, by decide +kernel, rfl, by decide +kernel, by decide +kernel⟩
abbrev s_law_turned_right : Stmt := topS 36
abbrev N_law_turned_right : List Str := ["_law_room_here", "_law_rows_here", "_law_turned", "_law_order", "_law_doors", "_law_k", "_law_news", "_law_handed", "_law_row", "_law_done", "_law_other", "_law_outs"]
theorem sc_law_turned_right : FnScope N_law_turned_right ["_law_room_here", "_law_rows_here", "_law_turned", "_law_order"] (defScope s_law_turned_right) := ⟨rfl, rfl, rfl, by decide +kernel, rfl, by decide +kernel, by decide +kernel⟩
abbrev s_law : Stmt := topS 37
abbrev N_law : List Str := ["_law_script", "_law_flow_here", "_law_room_here", "_law_rows_here", "_law_cut", "_law_turned", "_law_order"]
theorem sc_law : FnScope N_law ["_law_script"] (defScope s_law) := ⟨rfl, rfl, rfl, by decide +kernel, rfl, by decide +kernel, by decide +kernel⟩

/-- a def of the text stands, binds and is bound -/
def Dd (K : PySem.W.Frag) (mg : Str → Option Value) (name : Str) (st : Stmt) (ps : List Str) : Prop :=
  ∃ (f : Addr) (fd : FuncData), Fun K name name st f fd ∧ Binds K fd ps [] ∧ mg name = some (.ref f)
structure Top (K : PySem.W.Frag) (mg : Str → Option Value) (C : Addr) : Prop where
  d_work_order : Dd K mg "work_order" s_work_order ["room"]
  d_made_by : Dd K mg "made_by" s_made_by ["rule", "things"]
  d_made_of_two : Dd K mg "made_of_two" s_made_of_two ["word", "one", "other"]
  d_comings : Dd K mg "comings" s_comings ["room", "hand"]
  d_doors_in : Dd K mg "doors_in" s_doors_in ["room"]
  d_doors_out : Dd K mg "doors_out" s_doors_out ["room"]
  d_run : Dd K mg "run" s_run ["room", "rows"]
  d_worked : Dd K mg "worked" s_worked ["room", "rows"]
  d_standing : Dd K mg "standing" s_standing ["room", "rows"]
  d_picked : Dd K mg "picked" s_picked ["made", "doors"]
  d_work_plan : Dd K mg "work_plan" s_work_plan ["room"]
  d_made_at_bell : Dd K mg "made_at_bell" s_made_at_bell ["room", "plan", "things"]
  d_thing_taken : Dd K mg "thing_taken" s_thing_taken ["belt", "made"]
  d_behind_bell : Dd K mg "behind_bell" s_behind_bell ["room", "made"]
  d_belt_behind_bell : Dd K mg "belt_behind_bell" s_belt_behind_bell ["belt", "made"]
  d_Run___init__ : ∃ (f : Addr) (fd : FuncData), Fun K "__init__" "Run.__init__" s_Run___init__ f fd ∧ Binds K fd ["self", "room"] [] ∧ Mk K C f
  d_Run_bell : ∃ (f : Addr) (fd : FuncData), Fun K "bell" "Run.bell" s_Run_bell f fd ∧ Binds K fd ["self", "things"] [] ∧ Meth K C "bell" f
  d_Run_bells : ∃ (f : Addr) (fd : FuncData), Fun K "bells" "Run.bells" s_Run_bells f fd ∧ Binds K fd ["self"] [] ∧ Meth K C "bells" f
  d_Run_room : ∃ (f : Addr) (fd : FuncData), Fun K "room" "Run.room" s_Run_room f fd ∧ Binds K fd ["self"] [] ∧ Meth K C "room" f
  d_law_flow : Dd K mg "_law_flow" s_law_flow ["_law_script"]
  d_law_pick : Dd K mg "_law_pick" s_law_pick ["_law_flow_here", "_law_many"]
  d_law_thing : Dd K mg "_law_thing" s_law_thing ["_law_flow_here"]
  d_law_needs : Dd K mg "_law_needs" s_law_needs ["_law_rule_here"]
  d_law_rule : Dd K mg "_law_rule" s_law_rule ["_law_flow_here", "_law_most"]
  d_law_shuffled : Dd K mg "_law_shuffled" s_law_shuffled ["_law_flow_here", "_law_some"]
  d_law_hands : Dd K mg "_law_hands" s_law_hands ["_law_flow_here", "_law_many"]
  d_law_room : Dd K mg "_law_room" s_law_room ["_law_flow_here", "_law_most"]
  d_law_rows : Dd K mg "_law_rows" s_law_rows ["_law_flow_here", "_law_room_here", "_law_many"]
  d_law_any_room : Dd K mg "_law_any_room" s_law_any_room ["_law_flow_here"]
  d_law_some_rows : Dd K mg "_law_some_rows" s_law_some_rows ["_law_flow_here", "_law_room_here"]
  d_law_turned_room : Dd K mg "_law_turned_room" s_law_turned_room ["_law_flow_here", "_law_room_here"]
  d_law_goes_on : Dd K mg "_law_goes_on" s_law_goes_on ["_law_room_here", "_law_first", "_law_rest"]
  d_law_turned_right : Dd K mg "_law_turned_right" s_law_turned_right ["_law_room_here", "_law_rows_here", "_law_turned", "_law_order"]
  m_all : mg "all" = none
  m_dict : mg "dict" = none
  m_enumerate : mg "enumerate" = none
  m_int : mg "int" = none
  m_len : mg "len" = none
  m_list : mg "list" = none
  m_max : mg "max" = none
  m_min : mg "min" = none
  m_range : mg "range" = none
  m_tuple : mg "tuple" = none
  m_zip : mg "zip" = none
  x_in : ∃ aI : Addr, mg "IN_RULE" = some (.ref aI) ∧ ∀ H : Hp, SqT K H aI [.str "in"]
  x_out : ∃ aO : Addr, mg "OUT_RULE" = some (.ref aO) ∧ ∀ H : Hp, SqT K H aO [.str "out"]
  cl : Cls K C
  mgC : mg "Run" = some (.ref C)
  n_stands : NoAttr K C "stands"
  n_plan : NoAttr K C "plan"
  n_doors : NoAttr K C "doors"
  n_many : NoAttr K C "many"

/-! ### heaps -/
def But (f : Addr) (H H' : Hp) : Prop := ∀ b o, H b = some o → b ≠ f → H' b = some o
theorem But.refl {f : Addr} {H : Hp} : But f H H := fun _ _ e _ => e
theorem But.trans {f : Addr} {H H1 H2 : Hp} (a : But f H H1) (b : But f H1 H2) : But f H H2 := fun x o e n => b x o (a x o e n) n
theorem But.upd {f : Addr} {H H1 : Hp} {o : HO} (a : But f H H1) : But f H (upd H1 f o) := fun x u e n => by rw [upd_ne n]; exact a x u e n
theorem But.new {f p : Addr} {H H1 : Hp} {o : HO} (a : But f H H1) (h : H1 p = none) : But f H (L2.upd H1 p o) := fun x u e n => by
  have e1 := a x u e n
  rw [upd_ne (ne_of_none e1 h)]
  exact e1
theorem same_new {H : Hp} {p : Addr} {o : HO} (h : H p = none) : Same H (upd H p o) := fun b u q => by rw [upd_ne (ne_of_none q h)]; exact q
theorem But.same {f : Addr} {H H1 H2 : Hp} (a : But f H H1) (b : Same H1 H2) : But f H H2 := fun x o e n => b x o (a x o e n)
theorem But.seqT {K : PySem.W.Frag} {f a : Addr} {H H1 : Hp} {xs : List V} (b : But f H H1) (h : SqT K H a xs) (n : a ≠ f) : SqT K H1 a xs := by
  rcases h with h | h
  · left
    rcases h with h | ⟨o, h⟩
    · exact .inl (b _ _ h n)
    · exact .inr ⟨o, b _ _ h n⟩
  · exact .inr h
/-- a comprehension without a test -/
theorem yes_in {σ : L2.St} {H : Hp} {A B : Hp → Prop} (h : A H) : tYes σ H (fun b H3 => if b = true then A H3 else B H3) := by
  show (if true = true then A H else B H)
  rw [if_pos rfl]
  exact h
/-! ### the draw -/
/-- the list of the law's draws at f, the script's copy at c -/
def Flow (H : Hp) (f c : Addr) : Prop := ∃ (ns : List Int) (i p q r : Int), H f = some (.lst [.ref c, .int i, .int p, .int q, .int r]) ∧ H c = some (.lst (ns.map V.int)) ∧ 0 ≤ i ∧ 0 ≤ p ∧ 0 ≤ q ∧ q < 2147483647
theorem Flow.new {H : Hp} {f c p : Addr} {o : HO} (h : Flow H f c) (n : H p = none) : Flow (upd H p o) f c := by
  obtain ⟨ns, i, a, q, r, e1, e2, e⟩ := h
  exact ⟨ns, i, a, q, r, same_new n _ _ e1, same_new n _ _ e2, e⟩
theorem Flow.ne {H : Hp} {f c p : Addr} (h : Flow H f c) (n : H p = none) : p ≠ f := by
  obtain ⟨ns, i, a, q, r, e1, _⟩ := h
  exact fun e => by rw [e, e1] at n; cases n
theorem Flow.nec {H : Hp} {f c p : Addr} (h : Flow H f c) (n : H p = none) : p ≠ c := by
  obtain ⟨ns, i, a, q, r, _, e1, _⟩ := h
  exact fun e => by rw [e, e1] at n; cases n
theorem Flow.lst {H : Hp} {f c p : Addr} {o : HO} (h : Flow H f c) (n1 : p ≠ f) (n2 : p ≠ c) : Flow (upd H p o) f c := by
  obtain ⟨ns, i, a, q, r, e1, e2, e⟩ := h
  exact ⟨ns, i, a, q, r, by rw [upd_ne n1.symm]; exact e1, by rw [upd_ne n2.symm]; exact e2, e⟩
theorem Flow.same {H H' : Hp} {f c : Addr} (h : Flow H f c) (s : Same H H') : Flow H' f c := by
  obtain ⟨ns, i, a, q, r, e1, e2, e⟩ := h
  exact ⟨ns, i, a, q, r, s _ _ e1, s _ _ e2, e⟩
theorem Flow.tup {H : Hp} {f c p : Addr} {xs : List V} (h : Flow H f c) (e : H p = some (.tup xs)) : p ≠ f := by
  obtain ⟨ns, i, a, q, r, e1, _⟩ := h
  exact ne_of e e1 (by intro z; cases z)
theorem at_ints {ns : List Int} {i : Int} (h0 : 0 ≤ i) (h1 : i < (ns.length : Int)) : ∃ v : Int, atI (ns.map V.int) i = some (.int v) := by
  have hk : i.toNat < ns.length := by omega
  have ek : i = ((i.toNat : Nat) : Int) := by omega
  have q : atI (ns.map V.int) ((i.toNat : Nat) : Int) = some (.int ns[i.toNat]) := atI_nat (by rw [List.getElem?_map, List.getElem?_eq_getElem hk]; rfl)
  rw [← ek] at q
  exact ⟨_, q⟩
/-- a block by less than it asks -/
theorem PSs.to {X : Cx} {ss : List Stmt} {t : TS} (h : PSs X ss t) (u : TS) (k : ∀ D σ H, u D σ H → t D σ H) : PSs X ss u := ⟨fun pins s σ H D I q => h.run pins s σ H D I (k D σ H q)⟩
theorem if_bl {b : Bool} {A B : Prop} (h1 : b = true → A) (h2 : b = false → B) : if b = true then A else B := by
  cases b
  · rw [if_neg Bool.false_ne_true]; exact h2 rfl
  · rw [if_pos rfl]; exact h1 rfl
/-! ### lists, two by two -/
inductive All2 {α β : Type} (R : α → β → Prop) : List α → List β → Prop
  | nil : All2 R [] []
  | cons {a b as bs} : R a b → All2 R as bs → All2 R (a :: as) (b :: bs)
theorem All2.imp {α β : Type} {R S : α → β → Prop} (h : ∀ a b, R a b → S a b) : ∀ {as bs}, All2 R as bs → All2 S as bs
  | _, _, .nil => .nil
  | _, _, .cons a b => .cons (h _ _ a) (All2.imp h b)
theorem All2.length {α β : Type} {R : α → β → Prop} : ∀ {as bs}, All2 R as bs → as.length = bs.length
  | _, _, .nil => rfl
  | _, _, .cons _ b => congrArg (· + 1) (All2.length b)
theorem All2.snoc {α β : Type} {R : α → β → Prop} {a b} (r : R a b) : ∀ {as bs}, All2 R as bs → All2 R (as ++ [a]) (bs ++ [b])
  | _, _, .nil => .cons r .nil
  | _, _, .cons h t => .cons h (All2.snoc r t)
theorem All2.get {α β : Type} {R : α → β → Prop} {as : List α} {bs : List β} (h : All2 R as bs) : ∀ {i : Nat} {b : β}, bs[i]? = some b → ∃ a, as[i]? = some a ∧ R a b := by
  induction h with
  | nil => intro i b e; cases e
  | cons r t ih =>
    intro i b e
    cases i with
    | zero => cases e; exact ⟨_, rfl, r⟩
    | succ i => exact ih e
theorem All2.getL {α β : Type} {R : α → β → Prop} {as : List α} {bs : List β} (h : All2 R as bs) : ∀ {i : Nat} {a : α}, as[i]? = some a → ∃ b, bs[i]? = some b ∧ R a b := by
  induction h with
  | nil => intro i b e; cases e
  | cons r t ih =>
    intro i b e
    cases i with
    | zero => cases e; exact ⟨_, rfl, r⟩
    | succ i => exact ih e
/-! ### tuples stay -/
def TK (H H' : Hp) : Prop := ∀ b xs, H b = some (.tup xs) → H' b = some (.tup xs)
theorem TK.refl {H : Hp} : TK H H := fun _ _ e => e
theorem TK.trans {H H1 H2 : Hp} (a : TK H H1) (b : TK H1 H2) : TK H H2 := fun x xs e => b x xs (a x xs e)
theorem TK.same {H H' : Hp} (s : Same H H') : TK H H' := fun x xs e => s _ _ e
theorem TK.new {H : Hp} {p : Addr} {o : HO} (n : H p = none) : TK H (upd H p o) := fun x xs e => same_new n _ _ e
theorem TK.lst {H : Hp} {p : Addr} {xs ys : List V} (h : H p = some (.lst xs)) : TK H (upd H p (.lst ys)) := fun x zs e => by
  rw [upd_ne (ne_of e h (by intro z; cases z))]
  exact e
theorem TK.but {H H' : Hp} {f c : Addr} (F : Flow H f c) (b : But f H H') : TK H H' := fun x xs e => b _ _ e (F.tup e)
theorem same_none {H H' : Hp} {p : Addr} (s : Same H H') (n : H' p = none) : H p = none := by
  cases e : H p with
  | none => rfl
  | some o => rw [s _ _ e] at n; cases n
theorem But.none {f p : Addr} {H H' : Hp} (b : But f H H') (n : H' p = Option.none) (h : p ≠ f) : H p = Option.none := by
  cases e : H p with
  | none => rfl
  | some o => rw [b _ _ e h] at n; cases n
theorem But.of {f : Addr} {H H' : Hp} (s : Same H H') : But f H H' := fun _ _ e _ => s _ _ e
/-- a list that was not there is written: what was stays -/
theorem But.own {f p : Addr} {H H1 : Hp} {o : HO} (a : But f H H1) (h : H p = Option.none) : But f H (L2.upd H1 p o) := fun x u e n => by
  rw [upd_ne (ne_of_none e h)]
  exact a x u e n
theorem Same.own {p : Addr} {H H1 : Hp} {o : HO} (a : Same H H1) (h : H p = Option.none) : Same H (L2.upd H1 p o) := fun x u e => by
  rw [upd_ne (ne_of_none e h)]
  exact a x u e
/-! ### loops over any iterator -/
theorem for_it {J : It} {n : Nat} {g : TG} {tb : TS} {D : Ends} {σ : L2.St} {H : Hp} (Pv : Nat → L2.St → Hp → Prop) (h0 : Pv 0 σ H) (go : ∀ i σ H, i < n → Pv i σ H → J.go i H) (st : ∀ σ H, Pv n σ H → J.stop n H)
    (hs : ∀ i x σ H H', i < n → Pv i σ H → J.yld i H x H' → g x σ H' fun σ2 H2 => tb { D with nx := Pv (i + 1), ct := Pv (i + 1), bk := D.nx } σ2 H2) (hd : ∀ σ H, Pv n σ H → D.nx σ H) :
    ∃ W : Nat → Nat → L2.St → Hp → Prop, (∃ m, W 0 m σ H) ∧ ∀ i m σ H, W i m σ H →
      (J.stop i H ∧ D.nx σ H) ∨ (J.go i H ∧ ∃ N : L2.St → Hp → Prop, (∀ σ' H', N σ' H' → ∃ m', m' < m ∧ W (i + 1) m' σ' H') ∧ ∀ x H', J.yld i H x H' → g x σ H' fun σ2 H2 => tb { D with nx := N, ct := N, bk := D.nx } σ2 H2) := by
  refine ⟨fun i m σ H => i + m = n ∧ Pv i σ H, ⟨n, by omega, h0⟩, fun i m σ H ⟨e, p⟩ => ?_⟩
  by_cases k : i < n
  · exact .inr ⟨go i σ H k p, Pv (i + 1), fun σ' H' p' => ⟨m - 1, by omega, by omega, p'⟩, fun x H' y => hs i x σ H H' k p y⟩
  · have z : i = n := by omega
    subst z
    exact .inl ⟨st σ H p, hd σ H p⟩
theorem lc_it {J : It} {n : Nat} {g : TG} {tt : TT} {te : TE} {vs : List Nat} {σ : L2.St} {H1 : Hp} {D : Addr} {Qd : Hp → Prop} (Pv : Nat → Hp → Prop) (h0 : Pv 0 (upd H1 D (.lst []))) (go : ∀ i H, i < n → Pv i H → J.go i H) (st : ∀ H, Pv n H → J.stop n H)
    (hs : ∀ i x H H', i < n → Pv i H → J.yld i H x H' → g x (wipe σ vs) H' fun σ2 H2 => wipe σ2 vs = wipe σ vs ∧ tt σ2 H2 fun b H3 =>
      if b = true then te σ2 H3 fun y H4 => ∃ acc, H4 D = some (.lst acc) ∧ acc.length < sizeLine ∧ Pv (i + 1) (upd H4 D (.lst (acc ++ [y]))) else Pv (i + 1) H3) (hd : ∀ H, Pv n H → Qd H) :
    ∃ W : Nat → Nat → Hp → Prop, (∃ m, W 0 m (upd H1 D (.lst []))) ∧ ∀ i m H, W i m H →
      (J.stop i H ∧ Qd H) ∨ (J.go i H ∧ ∃ Nx : Hp → Prop, (∀ H', Nx H' → ∃ m', m' < m ∧ W (i + 1) m' H') ∧ ∀ x H', J.yld i H x H' → g x (wipe σ vs) H' fun σ2 H2 => wipe σ2 vs = wipe σ vs ∧ tt σ2 H2 fun b H3 =>
        if b = true then te σ2 H3 fun y H4 => ∃ acc, H4 D = some (.lst acc) ∧ acc.length < sizeLine ∧ Nx (upd H4 D (.lst (acc ++ [y]))) else Nx H3) := by
  refine ⟨fun i m H => i + m = n ∧ Pv i H, ⟨n, by omega, h0⟩, fun i m H ⟨e, p⟩ => ?_⟩
  by_cases k : i < n
  · exact .inr ⟨go i H k p, Pv (i + 1), fun H' p' => ⟨m - 1, by omega, by omega, p'⟩, fun x H' y => hs i x H H' k p y⟩
  · have z : i = n := by omega
    subst z
    exact .inl ⟨st H p, hd H p⟩
/-! ### tests -/
theorem if_str {x z : Str} {A B : Prop} (h1 : x = z → A) (h2 : x ≠ z → B) : if decide (V.str x = V.str z) = true then A else B :=
  if_bl (fun e => h1 (V.str.inj (of_decide_eq_true e))) (fun e => h2 (fun q => of_decide_eq_false e (congrArg V.str q)))
theorem inV_strs {x : Str} {zs : List Str} : inV (.str x) (zs.map V.str) = true ↔ x ∈ zs := by
  unfold inV
  induction zs with
  | nil => simp
  | cons z zs ih =>
    rw [List.map_cons, List.any_cons, Bool.or_eq_true, ih, List.mem_cons]
    constructor
    · rintro (h | h)
      · exact .inl (by simpa [eqV] using (show (z == x) = true from h) |> fun k => (eq_of_beq k).symm)
      · exact .inr h
    · rintro (h | h)
      · exact .inl (show (z == x) = true by rw [h]; exact beq_self_eq_true z)
      · exact .inr h
theorem if_in {x : Str} {zs : List Str} {A B : Prop} (h1 : x ∈ zs → A) (h2 : x ∉ zs → B) : if (if false = true then !inV (.str x) (zs.map V.str) else inV (.str x) (zs.map V.str)) = true then A else B := by
  have e : (if false = true then !inV (.str x) (zs.map V.str) else inV (.str x) (zs.map V.str)) = inV (.str x) (zs.map V.str) := if_neg Bool.false_ne_true
  rw [e]
  exact if_bl (fun c => h1 (inV_strs.mp c)) (fun c => h2 (fun k => by rw [inV_strs.mpr k] at c; cases c))
theorem same_seqT {K : PySem.W.Frag} {a : Addr} {H H1 : Hp} {xs : List V} (b : Same H H1) (h : SqT K H a xs) : SqT K H1 a xs := by
  rcases h with h | h
  · left
    rcases h with h | ⟨o, h⟩
    · exact .inl (b _ _ h)
    · exact .inr ⟨o, b _ _ h⟩
  · exact .inr h
theorem little {n : Nat} (h : n ≤ 1000) : n ≤ sizeLine := Nat.le_of_lt (small1000 h)
/-! ### xs[i] op= e -/
def rGetL (K : PySem.W.Frag) : V → V → Hp → VK → Prop := fun o i H Q => ∃ (p : Addr) (xs : List V) (j : Nat) (v : V), o = .ref p ∧ i = .int (j : Nat) ∧ SqL K H p xs ∧ xs[j]? = some v ∧ Q v H
theorem get_list {X : Cx} : PGet X (rGetL X.K) := by
  intro pins st σ H o i ov iv Q J ro ri asked
  obtain ⟨p, xs, j, v, rfl, rfl, hq, hj, now⟩ := asked
  cases ro
  obtain ⟨t, rfl⟩ := ri
  obtain ⟨its, r, pl, hz⟩ := J.list hq
  obtain ⟨u, eu, ru⟩ := r.get hj
  have n1 := (List.getElem?_eq_some_iff.mp hj).1
  have n2 := line63
  exact wpAny_getItem_list pl.isList (by omega) (by omega) (by simpa using eu) ⟨v, H, J, ru, now⟩
/-! ### the same rules, the written part named (so that they fit within comprehensions) -/
section
variable {X : Cx}
theorem ix_listK (K : PySem.W.Frag) (h : X.K = K) : IxR X (rIxL K) := by subst h; exact ix_list
theorem ix_tupK (K : PySem.W.Frag) (h : X.K = K) : IxR X (rIxT K) := by subst h; exact ix_tup
def rLenK (K : PySem.W.Frag) : List V → Hp → VK → Prop := fun xs H Q => ∃ (p : Addr) (ys : List V), xs = [.ref p] ∧ (SqL K H p ys ∨ SqT K H p ys) ∧ Q (.int (ys.length : Nat)) H
theorem call_len_seqK (K : PySem.W.Frag) (h : X.K = K) : CallR X (.builtin "len") (rLenK K) := by subst h; exact call_len_seq
def rListOfK (K : PySem.W.Frag) : List V → Hp → VK → Prop := fun xs H Q => ∃ (p : Addr) (ys : List V), xs = [.ref p] ∧ (SqL K H p ys ∨ SqT K H p ys) ∧ ∀ l, H l = none → Q (.ref l) (upd H l (.lst ys))
theorem call_list_ofK (K : PySem.W.Frag) (h : X.K = K) : CallR X (.type "list") (rListOfK K) := by subst h; exact call_list_of
def rTupOfK (K : PySem.W.Frag) : List V → Hp → VK → Prop := fun xs H Q => ∃ (p : Addr) (ys : List V), xs = [.ref p] ∧ ((SqL K H p ys ∧ ∀ l, H l = none → Q (.ref l) (upd H l (.tup ys))) ∨ (SqT K H p ys ∧ Q (.ref p) H))
theorem call_tuple_ofK (K : PySem.W.Frag) (h : X.K = K) : CallR X (.type "tuple") (rTupOfK K) := by subst h; exact call_tuple_of
theorem op_in_seqK (K : PySem.W.Frag) (h : X.K = K) : OpR X (compareOp .In) (rIn K false) := by subst h; exact op_in_seq
theorem op_notIn_seqK (K : PySem.W.Frag) (h : X.K = K) : OpR X (compareOp .NotIn) (rIn K true) := by subst h; exact op_notIn_seq
theorem sl_listK (K : PySem.W.Frag) (h : X.K = K) : SlR X (rSlL K) := by subst h; exact sl_list
theorem sl_tupAK (K : PySem.W.Frag) (h : X.K = K) : SlR X (rSlA K) := by subst h; exact sl_tupA
theorem op_eqDK (K : PySem.W.Frag) (h : X.K = K) (hu : X.A.units + 64 < cLine) : OpR X (compareOp .Eq) (rEqD K) := by subst h; exact op_eqD hu
theorem op_neDK (K : PySem.W.Frag) (h : X.K = K) (hu : X.A.units + 64 < cLine) : OpR X (compareOp .NotEq) (rNeD K) := by subst h; exact op_neD hu
theorem call_isiKK (K : PySem.W.Frag) (h : X.K = K) : CallR X (.builtin "isinstance") (rIsi K) := by subst h; exact call_isi
theorem cr_allK (K : PySem.W.Frag) (h : X.K = K) (hc : X.calm = true) : CallR X (.builtin "all") (rAll K) := by subst h; exact cr_all hc
theorem cr_anyK (K : PySem.W.Frag) (h : X.K = K) (hc : X.calm = true) : CallR X (.builtin "any") (rAny K) := by subst h; exact cr_any hc
theorem cr_minKK (K : PySem.W.Frag) (h : X.K = K) (hc : X.calm = true) : CallR X (.builtin "min") (rMin K) := by subst h; exact cr_min hc
theorem cr_maxKK (K : PySem.W.Frag) (h : X.K = K) (hc : X.calm = true) : CallR X (.builtin "max") (rMax K) := by subst h; exact cr_max hc
def tTruK (K : PySem.W.Frag) (ta : TE) : TT := fun σ H Q => ta σ H fun x H' => ∃ k, TruV K x H' k ∧ Q k H'
theorem pt_truthK (K : PySem.W.Frag) (h : X.K = K) {a : Expr} {ta : TE} (ha : PE X a ta) (he : ∀ whole, isTrue a X.env whole = (do let v ← whole; standAt a.pos; holding [v] (truthy v))) : PT X a (tTruK K ta) := by subst h; exact pt_truth ha he
theorem get_listK (K : PySem.W.Frag) (h : X.K = K) : PGet X (rGetL K) := by subst h; exact get_list
theorem pg_tupK (K : PySem.W.Frag) (h : X.K = K) {es : List Expr} {k n : Nat} {t : TGs} {pos : Pos} (hc : X.calm = true) (g : PGs X es t)
    (hn : (assignEach es X.env).length = n := by rfl) (hst : (assignEach es X.env).findIdx? (·.1) = none := by rfl) : PG X (.Tuple es k pos) (gTup K n t) := by subst h; exact pg_tup hc g hn hst
theorem pg_unlK (K : PySem.W.Frag) (h : X.K = K) {es : List Expr} {k n : Nat} {t : TGs} {pos : Pos} (hc : X.calm = true) (g : PGs X es t)
    (hn : (assignEach es X.env).length = n := by rfl) (hst : (assignEach es X.env).findIdx? (·.1) = none := by rfl) : PG X (.Tuple es k pos) (gUnl K n t) := by subst h; exact pg_unl hc g hn hst
theorem pi_listK (K : PySem.W.Frag) (h : X.K = K) {tg e : Expr} {te : TE} (he : PE X e te) : PI X tg e (iList K te) := by subst h; exact pi_list he
theorem pi_tupK (K : PySem.W.Frag) (h : X.K = K) {tg e : Expr} {te : TE} (he : PE X e te) : PI X tg e (iTup K te) := by subst h; exact pi_tup he
theorem pe_revLK (K : PySem.W.Frag) (h : X.K = K) {e : Expr} {te : TE} {k : Nat} {p1 p2 p3 pos : Pos} (he : PE X e te) : PE X (.Subscript e (.Slice none none (some (.UnaryOp .USub (.Constant (.int 1) k p1) p2)) p3) pos) (tRevL K te) := by subst h; exact pe_revL he
theorem pe_bmK (K : PySem.W.Frag) (h : X.K = K) {o e : Expr} {es : List Expr} {to : TE} {t : TA} {name : Str} {apos cpos : Pos} {T id : String} {r : V → List V → Hp → VK → Prop}
    (pa : PlainAttrs T) (slot : Slot T name id) (hty : typeOf (.builtin id) = pure (.type "method_descriptor")) (hm : MtR X id r) (ho : PE X o to) (ha : PA X (e :: es) t)
    (n1 : attributeBase o name X.env (eval o X.env) = eval o X.env := by rfl)
    (n2 : ((backTo cpos (starEach (e :: es) X.env)).all (fun x => !x.1) && (backToKw cpos (keywordEach [] X.env)).all (fun x => x.1.isSome) && decide ((e :: es).length + ([] : List Keyword).length + (if ([] : List Keyword).isEmpty then 0 else 1) < 30)) = true := by rfl)
    (n3 : (apos.endLine == cpos.line) = true := by rfl) (n4 : starEach (e :: es) X.env = (false, eval e X.env) :: starEach es X.env := by rfl) (n5 : (backTo cpos (starEach es X.env)).any (·.1) = false := by rfl) :
    PE X (.Call (.Attribute o name apos) (e :: es) [] cpos) (tBM K T r to t) := by subst h; exact pe_bm pa slot hty hm ho ha n1 n2 n3 n4 n5
theorem pe_bm0K (K : PySem.W.Frag) (h : X.K = K) {o : Expr} {to : TE} {name : Str} {apos cpos : Pos} {T id : String} {r : V → List V → Hp → VK → Prop}
    (pa : PlainAttrs T) (slot : Slot T name id) (hty : typeOf (.builtin id) = pure (.type "method_descriptor")) (hm : MtR X id r) (ho : PE X o to)
    (n1 : attributeBase o name X.env (eval o X.env) = eval o X.env := by rfl) (n3 : (apos.endLine == cpos.line) = true := by rfl) : PE X (.Call (.Attribute o name apos) [] [] cpos) (tBM0 K T r to) := by subst h; exact pe_bm0 pa slot hty hm ho n1 n3
theorem op_catAK (K : PySem.W.Frag) (h : X.K = K) : OpR X (binaryOp .Add) (rCatA K) := by subst h; exact op_catA
theorem call_isiTK (K : PySem.W.Frag) (h : X.K = K) : CallR X (.builtin "isinstance") (rIsiT K) := by subst h; exact call_isiT
theorem pi_zipAK (K : PySem.W.Frag) (h : X.K = K) {e e2 : Expr} {ta : TA} {p pos tpos : Pos} {elts : List Expr} {kk : Nat} (hg : Gl X "zip") (hm : X.mg "zip" = none) (ha : PA X [e, e2] ta)
    (hs : starEach [e, e2] X.env = (false, eval e X.env) :: starEach [e2] X.env := by rfl) (hpl : (backTo pos (starEach [e2] X.env)).any (·.1) = false := by rfl) :
    PI X (.Tuple elts kk tpos) (.Call (.Name "zip" p) [e, e2] [] pos) (RZ.iZipA K ta) := by subst h; exact RZ.pi_zipA hg hm ha hs hpl
theorem pi_or {tg e : Expr} {t1 t2 : TI} (h1 : PI X tg e t1) (h2 : PI X tg e t2) : PI X tg e (fun σ H R => t1 σ H R ∨ t2 σ H R) := ⟨fun pins s σ H R I h => h.elim (h1.run pins s σ H R I) (h2.run pins s σ H R I)⟩
theorem pe_fldK (K : PySem.W.Frag) (h : X.K = K) {e : Expr} {ta : TE} {f : Str} {pos : Pos} (he : PE X e ta) (hb : attributeBase e f X.env (eval e X.env) = eval e X.env) : PE X (.Attribute e f pos) (tFld K ta f) := by subst h; exact pe_fld he hb
theorem ps_fldK (K : PySem.W.Frag) (h : X.K = K) {o value : Expr} {ta tv : TE} {f : Str} {pos pos' : Pos} (ha : PE X o ta) (hv : PE X value tv) (hs : swapsWith value (some (.Attribute o f pos')) pos.line X.env = pure false) : PS X (.Assign [.Attribute o f pos'] value pos) (sFld K ta tv f) := by subst h; exact ps_fld ha hv hs
theorem ps_fldaugK (K : PySem.W.Frag) (h : X.K = K) {o value : Expr} {ta tv : TE} {f : Str} {pos tpos : Pos} {op : Operator} {rd : V → V → Hp → VK → Prop} (ha : PE X o ta) (hv : PE X value tv) (hop : InOp X op rd) : PS X (.AugAssign (.Attribute o f tpos) op value pos) (sFldAug K ta tv rd f) := by subst h; exact ps_fldaug ha hv hop
end
/-! ### for i, x in enumerate(t), t a tuple -/
section
open Sem (wp)
open AutoSeq1 (wpAny_loadPart')
theorem enum_of_tup (t : Addr) (its : Array Value) (n : Nat) (dct : Option Addr) (sl : Array (Option Value)) :
    Meets (Builtin.«enumerate.__new__» ⟨[.type "enumerate", .ref t], []⟩) (fun _ R st => st.heap.get? t = some { cls := .type "tuple", dict := dct, data := .seq its n, slots := sl } ∧
      R (.ok (.ret (.ref (st.heap.push { cls := .type "tuple_iterator", data := .fields #[.ref t, .int 0 0] }).objs.size)))
        { st with heap := (st.heap.push { cls := .type "tuple_iterator", data := .fields #[.ref t, .int 0 0] }).push { cls := .type "enumerate", data := .fields #[.none, .bool false, .ref st.heap.objs.size, rawInt 0, .none, .none] } }) :=
  .of_wp fun prog w A R st asked => by
    obtain ⟨hp, g, d, tk, os⟩ := st; obtain ⟨at_, asked⟩ := asked
    have sub := sub_enumerate
    have hT : Heap.IsTuple (Shared.heap ⟨hp, g, d, tk, os⟩) t its := ⟨_, at_, rfl, n, rfl⟩
    wp_walk using wpAny_loadPart' at_
    refine wpAny_stack_any fun stk => wpAny_pure ?_
    split
    · rename_i c _ _ _ _ _
      cases (c == Value.type "enumerate")
      · wp_walk using wpAny_loadPart' at_, wpAny_pyIter_tuple hT
        exact ⟨_, rfl, asked⟩
      · wp_walk using wpAny_loadPart' at_, wpAny_pyIter_tuple hT
        exact ⟨_, rfl, asked⟩
    · wp_walk using wpAny_loadPart' at_, wpAny_pyIter_tuple hT
      exact ⟨_, rfl, asked⟩
theorem call_enum_tup {prog : Program} {w : World} {A : Around} {E : Value → Shared → Prop} {st : Shared} {t : Addr} {its : Array Value} {Q : Value → Shared → Prop} (hT : st.heap.IsTuple t its)
    (now : ∀ h', IsEnum h' (st.heap.objs.size + 1) st.heap.objs.size 0 .none → h'.IsTupleIter st.heap.objs.size t 0 → h'.objs.size = st.heap.objs.size + 2 →
      (∀ b o, st.heap.get? b = some o → h'.get? b = some o) → Q (.ref (st.heap.objs.size + 1)) { st with heap := h' }) :
    wpAny (model prog w) A (call (.type "enumerate") [.ref t]) Q E st := by
  obtain ⟨⟨c, dct, dt, sl⟩, at_, hc, n, hd⟩ := hT
  replace hc : c = .type "tuple" := hc
  replace hd : dt = .seq its n := hd
  subst hc hd
  refine callType_new F.called_enumerate (by decide) (F.typeCall_enumerate_1 _) (F.newCall_enumerate_1 _) (fun obj => F.args_object_init_2 obj _) F.entry_enumerate_new (enum_of_tup t its n dct sl) ⟨at_, ?_⟩
  have size1 : (st.heap.push { cls := .type "tuple_iterator", data := .fields #[.ref t, .int 0 0] }).objs.size = st.heap.objs.size + 1 := Heap.size_push ..
  show _ ∧ _
  rw [size1]
  have made := Heap.get?_push_size (st.heap.push { cls := .type "tuple_iterator", data := .fields #[.ref t, .int 0 0] }) (o := { cls := .type "enumerate", data := .fields #[.none, .bool false, .ref st.heap.objs.size, rawInt 0, .none, .none] }) rfl
  rw [size1] at made
  exact ⟨⟨_, made, rfl⟩, now _ made ⟨_, Heap.get?_push_of_some _ (Heap.get?_push_size _ rfl), rfl, rfl⟩ (by rw [Heap.size_push, size1]) fun b o e => Heap.get?_push_of_some _ (Heap.get?_push_of_some _ e)⟩
end
/-- the tuple at a, each item in a new pair -/
def IteT (K : PySem.W.Frag) (a : Addr) (xs : List V) : It :=
  ⟨fun i H => SqT K H a xs ∧ i < xs.length, fun i H v H' => ∃ T x, v = .ref T ∧ H T = none ∧ H' = upd H T (.tup [.int (i : Nat), x]) ∧ xs[i]? = some x, fun i H => SqT K H a xs ∧ i = xs.length⟩
theorem turn_enumT {P : Program} {w : World} {K : PySem.W.Frag} {elts : List Expr} {kk : Nat} {tpos : Pos} (a e it : Addr) (xs : List V) :
    Turn P w K (.Tuple elts kk tpos) (IteT K a xs) [e, it] e (fun i h => (∃ old, IsEnum h e it ((i : Nat) : Int) old) ∧ h.IsTupleIter it a i ∧ e ≠ it ∧ a ≠ it ∧ a ≠ e) where
  mem := by simp
  obj := fun i h st b hb => by
    obtain ⟨⟨old, he⟩, ⟨o, ho, hc, hd⟩, _⟩ := st
    have either : b = e ∨ b = it := by simpa using hb
    rcases either with z | z
    · rw [z]; exact ⟨_, he, fun v q => nomatch q⟩
    · rw [z]; exact ⟨o, ho, fun v q => by rw [hd] at q; cases q⟩
  keep := fun i h h' st k => let ⟨⟨old, he⟩, hi, apart⟩ := st; ⟨⟨old, k e (by simp) _ he⟩, hi.at fun o q => k it (by simp) o q, apart⟩
  item := by
    intro X hP hw hK hc i pins st σ H E J hf stt going
    subst hP hw hK
    obtain ⟨⟨old, he⟩, hit, n1, n2, n3⟩ := stt
    obtain ⟨hq, hi⟩ := going
    obtain ⟨its, rv, tup, hz⟩ := J.tuple hq
    have len := rv.length
    have el : e < st.heap.objs.size := Heap.lt_size he
    have il : it < st.heap.objs.size := by obtain ⟨_, q, _⟩ := hit; exact Heap.lt_size q
    have D := Draws.tuple (prog := X.prog) (w := X.w) (A := X.A.in1) (J.ok.hd hc) it a n2 its.toArray
    refine wpAny_pyNext_enum_itemD D he ⟨hit, tup⟩ (by rw [List.size_toArray]; omega) n1 (by simp [n1, n3.symm]) fun u h' tk px out stt' new size kp => ?_
    refine ⟨_, rfl, wpAny_letOwnedTupleGo_enum (s := { st with heap := h', toks := tk + 1 }) out fun h'' he' sb => ?_⟩
    obtain ⟨x, hx⟩ : ∃ x, xs[i]? = some x := ⟨_, List.getElem?_eq_getElem hi⟩
    obtain ⟨u', hu', ru⟩ := rv.get hx
    have eu : u' = u := by
      have px : its.toArray[i]? = some u := px
      rw [List.getElem?_toArray, hu'] at px
      exact Option.some.inj px
    subst eu
    have there : h''.get? st.heap.objs.size = some { cls := .type "tuple", data := .seq #[.int i tk, u'] } := (sb.2 _ (Nat.ne_of_gt el)).trans new
    have ok2 : ObjOk X.prog X.w (upd H st.heap.objs.size (.tup [.int (i : Nat), x])) h'' st.heap.objs.size (.tup [.int (i : Nat), x]) :=
      ⟨by show 2 ≤ sizeLine; decide, [.int i tk, u'], .cons ⟨_, rfl⟩ (.cons ru .nil), ⟨_, there, rfl, _, rfl⟩⟩
    have J1 : Inv X pins σ (upd H st.heap.objs.size (.tup [.int (i : Nat), x])) { st with heap := h'', toks := tk + 1 } :=
      J.turnedNew (ch := [e, it]) (fun b ob hb q => (sb.2 b (fun z => hb (by simp [z]))).trans (kp b ob (fun z => hb (by simp [z])) (fun z => hb (by simp [z])) q)) hf (Nat.le_refl _) ok2
    refine ⟨.ref st.heap.objs.size, _, J1, rfl, ⟨_, x, rfl, J.hok.fresh (Nat.le_refl _), rfl, hx⟩, ⟨⟨u', ?_⟩, stt'.1.at fun o q => (sb.2 it (Ne.symm n1)).trans q, n1, n2, n3⟩, fun b hb => ?_⟩
    · rw [show ((i + 1 : Nat) : Int) = (i : Int) + 1 by omega]
      exact he'
    · have bl : b < st.heap.objs.size := by
        have either : b = e ∨ b = it := by simpa using hb
        rcases either with z | z
        · rw [z]; exact el
        · rw [z]; exact il
      rw [upd_ne (Nat.ne_of_lt bl)]
      exact (hf b hb).1
  done := by
    intro X hP hw hK hc i pins st σ H E J hf stt over
    subst hP hw hK
    obtain ⟨⟨old, he⟩, hit, n1, n2, n3⟩ := stt
    obtain ⟨hq, hi⟩ := over
    obtain ⟨its, rv, tup, hz⟩ := J.tuple hq
    obtain ⟨f0, f1, f2, f3, f4, f5⟩ := hf it (by simp)
    have len := rv.length
    have D := Draws.tuple (prog := X.prog) (w := X.w) (A := X.A.in1) (J.ok.hd hc) it a n2 its.toArray
    have ei : its.toArray.size = i := by rw [List.size_toArray]; omega
    exact wpAny_pyNext_enum_endD D he ⟨by rw [ei]; exact hit, tup⟩ fun h' eb => ⟨rfl, J.turned (t' := st.toks) (fun b o hb q => eb b o hb q) f0 f1 f3 f4 f5⟩
  self := fun A i st Q E stt now => let ⟨⟨_, he⟩, _⟩ := stt; wpAny_pyIter_enum he now
def iEnumT (K : PySem.W.Frag) (ta : TA) : TI := fun σ H R => ta σ H fun vs H1 => ∃ a xs, vs = [.ref a] ∧ SqT K H1 a xs ∧ R (IteT K a xs) H1
theorem pi_enumT (K : PySem.W.Frag) {X : Cx} (hk : X.K = K) {e : Expr} {ta : TA} {p pos tpos : Pos} {elts : List Expr} {kk : Nat} (hg : Gl X "enumerate") (hm : X.mg "enumerate" = none) (ha : PA X [e] ta) (hs : starEach [e] X.env = [(false, eval e X.env)] := by rfl) :
    PI X (.Tuple elts kk tpos) (.Call (.Name "enumerate" p) [e] [] pos) (iEnumT K ta) := by
  subst hk
  refine ⟨fun pins st σ H R J asked => ?_⟩
  refine Call_ (ld_blt J hg hm boot_enumerate (PyProof.Rows.callWith_type1 (thn (ha.run pos pins st σ H _ J asked) fun us st1 ⟨vs, H1, J1, rel, now⟩ => ?_) hs rfl))
  obtain ⟨a, xs, ex, hq, now⟩ := now
  subst ex
  obtain ⟨u, rfl, ru⟩ := vals1 rel
  obtain rfl : u = Value.ref a := ru
  obtain ⟨its, rv, tup, hz⟩ := J1.tuple hq
  have al : a < st1.heap.objs.size := by obtain ⟨o, ho, _⟩ := tup; exact Heap.lt_size ho
  refine call_enum_tup tup fun h' he hit size kp => wpAny_pyIter_enum he ?_
  have J2 : Inv X pins σ H1 { st1 with heap := h' } := J1.kept (t' := st1.toks) kp
  refine ⟨st1.heap.objs.size + 1, [st1.heap.objs.size + 1, st1.heap.objs.size], _, _, H1, rfl, J2, turn_enumT a (st1.heap.objs.size + 1) st1.heap.objs.size xs, ⟨⟨.none, he⟩, hit, Nat.succ_ne_self _, Nat.ne_of_lt al, Nat.ne_of_lt (Nat.lt_succ_of_lt al)⟩, fun b hb => ?_, now⟩
  have either : b = st1.heap.objs.size + 1 ∨ b = st1.heap.objs.size := by simpa using hb
  have low : st1.heap.objs.size ≤ b := by
    rcases either with z | z
    · rw [z]; exact Nat.le_add_right _ _
    · rw [z]; exact Nat.le_refl _
  exact J1.fpOk low (J1.hok.fresh low)
/-! ### dict(zip(xs, ys)), xs a list, ys a tuple -/
section
open Sem (wp)
variable {prog : Program} {w : World} {A : Around} {E : Value → Shared → Prop} {st : Shared} {z TI TO T i1 i2 : Addr} {fp1 fp2 : List Addr} {n1 n2 i : Nat} {P1 P2 : Nat → Value → Prop} {S1 S2 : Nat → Heap → Prop} {f : Bool} {oT : Obj}
theorem out_next (S : ZipSep2 z TI TO i1 i2 fp1 fp2) (D1 : Draws prog w A i1 fp1 n1 P1 S1) (D2 : Draws prog w A i2 fp2 n2 P2 S2) {Q : Value → Shared → Prop}
    (out : IsZipHeld st.heap z TI TO T f) (hT : st.heap.get? T = some oT) (both : IsTupOf2 st.heap TI (.ref i1) (.ref i2)) (at1 : S1 i st.heap) (at2 : S2 i st.heap) (l1 : i < n1) (l2 : i < n2)
    (now : ∀ x y h' tk, P1 i x → P2 i y → IsZipHeld h' z TI TO T true → S1 (i + 1) h' → S2 (i + 1) h' → IsTupOf2 h' st.heap.objs.size x y → (∀ c o, c ≠ z → c ≠ i1 → c ≠ i2 → st.heap.get? c = some o → h'.get? c = some o) → Q (.ref st.heap.objs.size) { st with heap := h', toks := tk }) :
    wpAny (model prog w) A (Builtin.«zip.__next__» ⟨[.ref z], []⟩) (fun fin s' => ∃ v, fin = .done (.ret v) ∧ Q v s') E st := by
  obtain ⟨hp, g, d, tk0, os⟩ := st
  show wpAny _ _ (field (.ref z) 2 >>= _) _ _ _; refine wpAny_bind (wpAny_field out rfl (x := .bool false) rfl ?_)
  show wpAny _ _ (field (.ref z) 3 >>= _) _ _ _; refine wpAny_bind (wpAny_field out rfl (x := .ref TI) rfl ?_)
  refine wpAny_bind (wpAny_seqItems both rfl ?_); show wpAny _ _ (Builtin.SmallTypes.ownedTupleIsFree (.ref z) >>= _) _ _ _
  refine wpAny_bind (wpAny_tupleHeld_zip out hT fun g1 out1 b1 => ?_)
  replace b1 : Heap.SameBut z hp g1 := b1
  simp only [Bool.false_eq_true, if_false]; refine wpAny_bind ?_; rw [← Array.forIn_toList]; simp only [List.forIn_cons, List.forIn_nil]
  refine wpAny_bind (wpAny_bind (wpAny_holding ?_)); show wpAny _ _ (Builtin.SmallTypes.nextOf (.ref i1) >>= _) _ _ ⟨g1, g, d, tk0, os⟩
  refine wpAny_bind (D1.item i _ _ _ l1 (D1.over at1 b1 S.zf1) fun x g2 tk1 px n1' b2 => wpAny_pure ?_)
  replace b2 : Heap.SameBut i1 g1 g2 := b2
  refine wpAny_pure ?_; refine wpAny_bind (wpAny_bind (wpAny_holding ?_)); show wpAny _ _ (Builtin.SmallTypes.nextOf (.ref i2) >>= _) _ _ ⟨g2, g, d, tk1, os⟩
  refine wpAny_bind (D2.item i _ _ _ l2 (D2.over (D2.over at2 b1 S.zf2) b2 S.sep1_2) fun y g3 tk2 py n2' b3 => wpAny_pure ?_)
  replace b3 : Heap.SameBut i2 g2 g3 := b3
  refine wpAny_pure (wpAny_pure ?_); show wpAny _ _ (newTuple [x, y] >>= _) _ _ ⟨g3, g, d, tk2, os⟩
  refine wpAny_bind (wpAny_newTuple ?_); refine wpAny_pure ⟨_, rfl, ?_⟩
  have size : g3.objs.size = hp.objs.size := by rw [b3.1, b2.1, b1.1]
  have out3 : IsZipHeld g3 z TI TO T true := b3.extBut _ _ S.zi2 (b2.extBut _ _ S.zi1 out1)
  have new : IsTupOf2 (g3.push { cls := .type "tuple", data := .seq #[x, y] }) g3.objs.size x y := Heap.get?_push_size _ rfl
  show Q (.ref g3.objs.size) _
  rw [size] at new ⊢
  exact now x y _ tk2 px py (Heap.get?_push_of_some _ out3) (D1.frame _ _ _ (D1.over n1' b3 S.sep2_1) fun _ _ _ q => Heap.get?_push_of_some _ q) (D2.frame _ _ _ n2' fun _ _ _ q => Heap.get?_push_of_some _ q) new
    fun c o c1 c2 c3 q => Heap.get?_push_of_some _ (b3.extBut _ _ c3 (b2.extBut _ _ c2 (b1.extBut _ _ c1 q)))
theorem out_end (S : ZipSep2 z TI TO i1 i2 fp1 fp2) (D1 : Draws prog w A i1 fp1 n1 P1 S1) (D2 : Draws prog w A i2 fp2 n2 P2 S2) {Q : Fin → Shared → Prop}
    (out : IsZipHeld st.heap z TI TO T f) (hT : st.heap.get? T = some oT) (both : IsTupOf2 st.heap TI (.ref i1) (.ref i2)) (at1 : S1 i st.heap) (at2 : S2 i st.heap) (l1 : i ≤ n1) (l2 : i ≤ n2) (last : i = n1 ∨ i = n2)
    (now : ∀ h' tk e, (∀ c o, c ≠ z → c ≠ i1 → c ≠ i2 → st.heap.get? c = some o → h'.get? c = some o) → (∃ o, h'.get? e = some o ∧ o.cls = .type "StopIteration") → E (.ref e) { st with heap := h', toks := tk }) :
    wpAny (model prog w) A (Builtin.«zip.__next__» ⟨[.ref z], []⟩) Q E st := by
  obtain ⟨hp, g, d, tk0, os⟩ := st
  show wpAny _ _ (field (.ref z) 2 >>= _) _ _ _; refine wpAny_bind (wpAny_field out rfl (x := .bool false) rfl ?_)
  show wpAny _ _ (field (.ref z) 3 >>= _) _ _ _; refine wpAny_bind (wpAny_field out rfl (x := .ref TI) rfl ?_)
  refine wpAny_bind (wpAny_seqItems both rfl ?_); show wpAny _ _ (Builtin.SmallTypes.ownedTupleIsFree (.ref z) >>= _) _ _ _
  refine wpAny_bind (wpAny_tupleHeld_zip out hT fun g1 out1 b1 => ?_)
  replace b1 : Heap.SameBut z hp g1 := b1
  simp only [Bool.false_eq_true, if_false]; refine wpAny_bind ?_; rw [← Array.forIn_toList]; simp only [List.forIn_cons, List.forIn_nil]
  refine wpAny_bind (wpAny_bind (wpAny_holding ?_)); show wpAny _ _ (Builtin.SmallTypes.nextOf (.ref i1) >>= _) _ _ ⟨g1, g, d, tk0, os⟩
  by_cases more : i < n1
  · refine wpAny_bind (D1.item i _ _ _ more (D1.over at1 b1 S.zf1) fun x g2 tk1 px n1' b2 => wpAny_pure ?_)
    replace b2 : Heap.SameBut i1 g1 g2 := b2
    refine wpAny_pure ?_; refine wpAny_bind (wpAny_bind (wpAny_holding ?_)); show wpAny _ _ (Builtin.SmallTypes.nextOf (.ref i2) >>= _) _ _ ⟨g2, g, d, tk1, os⟩
    have e2 : i = n2 := by omega
    subst e2
    refine wpAny_bind (D2.done _ _ _ (D2.over (D2.over at2 b1 S.zf2) b2 S.sep1_2) fun g3 e b3 he => ?_)
    exact now g3 tk1 e (fun c o c1 c2 c3 q => b3 _ _ c3 (b2.extBut _ _ c2 (b1.extBut _ _ c1 q))) he
  · have e1 : i = n1 := by omega
    subst e1
    refine wpAny_bind (D1.done _ _ _ (D1.over at1 b1 S.zf1) fun g3 e b3 he => ?_)
    exact now g3 tk0 e (fun c o c1 c2 c3 q => b3 _ _ c2 (b1.extBut _ _ c1 q)) he
theorem out_pyNext (S : ZipSep2 z TI TO i1 i2 fp1 fp2) (D1 : Draws prog w A.in1 i1 fp1 n1 P1 S1) (D2 : Draws prog w A.in1 i2 fp2 n2 P2 S2) {Q : Option Value → Shared → Prop}
    (out : IsZipHeld st.heap z TI TO T f) (hT : st.heap.get? T = some oT) (both : IsTupOf2 st.heap TI (.ref i1) (.ref i2)) (at1 : S1 i st.heap) (at2 : S2 i st.heap) (l1 : i < n1) (l2 : i < n2)
    (now : ∀ x y h' tk, P1 i x → P2 i y → IsZipHeld h' z TI TO T true → S1 (i + 1) h' → S2 (i + 1) h' → IsTupOf2 h' st.heap.objs.size x y → (∀ c o, c ≠ z → c ≠ i1 → c ≠ i2 → st.heap.get? c = some o → h'.get? c = some o) → Q (some (.ref st.heap.objs.size)) { st with heap := h', toks := tk }) :
    wpAny (model prog w) A (pyNext (.ref z)) Q E st := by
  have ty : st.TypeIs (.ref z) "zip" := ⟨_, out, rfl⟩
  unfold pyNext
  refine wpAny_bind (wpAny_attempt (wpAny_callSpecial?_slot (name := Str.ofString "__next__") ty F.slot_zip_next (wpAny_call_entry F.slot_zip_next ty F.entry_zip_next (out_next S D1 D2 out hT both at1 at2 l1 l2 ?_) (F.args_zip_next_1 _))))
  exact fun x y h' tk a b c d e g k => wpAny_pure (now x y h' tk a b c d e g k)
theorem out_pyNext_end (S : ZipSep2 z TI TO i1 i2 fp1 fp2) (D1 : Draws prog w A.in1 i1 fp1 n1 P1 S1) (D2 : Draws prog w A.in1 i2 fp2 n2 P2 S2) {Q : Option Value → Shared → Prop}
    (out : IsZipHeld st.heap z TI TO T f) (hT : st.heap.get? T = some oT) (both : IsTupOf2 st.heap TI (.ref i1) (.ref i2)) (at1 : S1 i st.heap) (at2 : S2 i st.heap) (l1 : i ≤ n1) (l2 : i ≤ n2) (last : i = n1 ∨ i = n2)
    (now : ∀ h' tk, (∀ c o, c ≠ z → c ≠ i1 → c ≠ i2 → st.heap.get? c = some o → h'.get? c = some o) → Q none { st with heap := h', toks := tk }) :
    wpAny (model prog w) A (pyNext (.ref z)) Q E st := by
  have ty : st.TypeIs (.ref z) "zip" := ⟨_, out, rfl⟩
  unfold pyNext
  refine wpAny_bind (wpAny_attempt (wpAny_callSpecial?_slot (name := Str.ofString "__next__") ty F.slot_zip_next (wpAny_call_entry F.slot_zip_next ty F.entry_zip_next (out_end S D1 D2 out hT both at1 at2 l1 l2 last ?_) (F.args_zip_next_1 _))))
  rintro h' tk e kp ⟨o, ho, hc⟩
  exact wpAny_bind (wpAny_isInstance (T := "StopIteration") (b := true) ⟨o, ho, hc⟩ isSubtype_stop (wpAny_pure (now _ _ kp)))
/-- the zip of the list l and the tuple t, begun -/
def ZipLT (h : Heap) (z TI TO i1 i2 l t : Addr) (xs ys : Array Value) (n : Nat) : Prop := IsTupOf2 h TI (.ref i1) (.ref i2) ∧ (h.IsListIter i1 l n ∧ h.IsList l xs) ∧ (h.IsTupleIter i2 t n ∧ h.IsTuple t ys)
theorem ZipLT.keep {h h' : Heap} {z TI TO i1 i2 l t : Addr} {xs ys : Array Value} {n : Nat} (q : ZipLT h z TI TO i1 i2 l t xs ys n) (k : ∀ b, b = TI ∨ b = i1 ∨ b = i2 ∨ b = l ∨ b = t → ∀ o, h.get? b = some o → h'.get? b = some o) : ZipLT h' z TI TO i1 i2 l t xs ys n :=
  ⟨k _ (.inl rfl) _ q.1, ⟨q.2.1.1.at fun o e => k _ (.inr (.inl rfl)) o e, q.2.1.2.at fun o e => k _ (.inr (.inr (.inr (.inl rfl)))) o e⟩, ⟨q.2.2.1.at fun o e => k _ (.inr (.inr (.inl rfl))) o e, q.2.2.2.at fun o e => k _ (.inr (.inr (.inr (.inr rfl)))) o e⟩⟩
theorem pairs_LT (z TI TO i1 i2 l t : Addr) (S : ZipSep2 z TI TO i1 i2 [i1, l] [i2, t]) (hl : l ≠ i1) (ht : t ≠ i2) (xs ys : Array Value) :
    PairArg prog w "zip" z [z, TI, TO, i1, i2, l, t] [z, TO, i1, i2] (min xs.size ys.size) (fun i k v => xs[i]? = some k ∧ ys[i]? = some v)
      (fun h => IsZip h z TI TO .none ∧ (∃ a b, IsTupOf2 h TO a b) ∧ ZipLT h z TI TO i1 i2 l t xs ys 0) where
  type := fun s ok => ⟨_, ok.1, rfl⟩
  notDict := by decide
  keep := fun h h' ok k => by
    obtain ⟨a1, ⟨a, b, a2⟩, a3⟩ := ok
    exact ⟨k _ _ a1, ⟨a, b, k _ _ a2⟩, a3.keep fun b _ o e => k b o e⟩
  there := fun h ok b hb => by
    obtain ⟨a1, ⟨a, c, a2⟩, a3, ⟨⟨o1, e1, _⟩, ⟨o2, e2, _⟩⟩, ⟨⟨o3, e3, _⟩, ⟨o4, e4, _⟩⟩⟩ := ok
    have either : b = z ∨ b = TI ∨ b = TO ∨ b = i1 ∨ b = i2 ∨ b = l ∨ b = t := by simpa using hb
    rcases either with q | q | q | q | q | q | q <;> subst q
    · exact ⟨_, a1⟩
    · exact ⟨_, a3⟩
    · exact ⟨_, a2⟩
    · exact ⟨_, e1⟩
    · exact ⟨_, e3⟩
    · exact ⟨_, e2⟩
    · exact ⟨_, e4⟩
  sub := fun b hb => by
    have either : b = z ∨ b = TO ∨ b = i1 ∨ b = i2 := by simpa using hb
    rcases either with q | q | q | q <;> subst q <;> simp
  noKeys := fun A s Q E hA ok now => getAttrOr_miss_zip ok.1 rfl rfl rfl zip_no_keys (by decide +kernel) hA now
  iter := fun A s d Q E hA ok dlt dfar now => by
    obtain ⟨a1, ⟨a, b, a2⟩, a3⟩ := ok
    have far : d ≠ z ∧ d ≠ TI ∧ d ≠ TO ∧ d ≠ i1 ∧ d ≠ i2 ∧ d ≠ l ∧ d ≠ t := by simpa using dfar
    obtain ⟨d1, d2, d3, d4, d5, d6, d7⟩ := far
    have D1 := Draws.list (prog := prog) (w := w) (A := A.in1) hA i1 l hl xs
    have D2 := Draws.tuple (prog := prog) (w := w) (A := A.in1) hA i2 t ht ys
    refine wpAny_pyIter_zip a1 (now z [z, TO, i1, i2] (fun n h => ZipLT h z TI TO i1 i2 l t xs ys n ∧ ((IsZip h z TI TO .none ∧ ∃ a b, IsTupOf2 h TO a b) ∨ ∃ T f oT, IsZipHeld h z TI TO T f ∧ h.get? T = some oT ∧ T ≠ z ∧ T ≠ i1 ∧ T ≠ i2 ∧ T ≠ d)) s.heap s.toks ?_ ⟨a3, .inl ⟨a1, a, b, a2⟩⟩ (fun _ _ e => e) fun b hb => .inl hb)
    refine ⟨fun hm => ?_, fun n h h' q k => ?_, fun n s1 Q1 E1 hn q dl now1 => ?_, fun s1 Q1 E1 q now1 => ?_⟩
    · have either : d = z ∨ d = TO ∨ d = i1 ∨ d = i2 := by simpa using hm
      rcases either with q | q | q | q
      · exact d1 q
      · exact d3 q
      · exact d4 q
      · exact d5 q
    · refine ⟨q.1.keep fun b hb o e => k b o (fun y => ?_) e, ?_⟩
      · rcases hb with q | q | q | q | q <;> rw [q] at y
        · exact d2 y.symm
        · exact d4 y.symm
        · exact d5 y.symm
        · exact d6 y.symm
        · exact d7 y.symm
      · rcases q.2 with ⟨q1, a, b, q2⟩ | ⟨T, f, oT, q1, q2, r1, r2, r3, r4⟩
        · exact .inl ⟨k _ _ (Ne.symm d1) q1, a, b, k _ _ (Ne.symm d3) q2⟩
        · exact .inr ⟨T, f, oT, k _ _ (Ne.symm d1) q1, k _ _ r4 q2, r1, r2, r3, r4⟩
    · obtain ⟨⟨both, at1, at2⟩, q⟩ := q
      have m1 : n < xs.size := Nat.lt_of_lt_of_le hn (Nat.min_le_left ..)
      have m2 : n < ys.size := Nat.lt_of_lt_of_le hn (Nat.min_le_right ..)
      have lt : ∀ {c o}, s1.heap.get? c = some o → s1.heap.objs.size ≠ c := fun e => Nat.ne_of_gt (Heap.lt_size e)
      have j1 : s1.heap.objs.size ≠ i1 := let ⟨_, e⟩ := D1.live _ _ at1; lt e
      have j2 : s1.heap.objs.size ≠ i2 := let ⟨_, e⟩ := D2.live _ _ at2; lt e
      rcases q with ⟨q1, a, b, q2⟩ | ⟨T, f, oT, q1, q2, r1, r2, r3, r4⟩
      · refine wpAny_pyNext_zipD2_item S D1 D2 q1 both q2 at1 at2 m1 m2 fun x y h' tk px py b1 b2 b3 b4 b5 b6 k => ?_
        exact now1 s1.heap.objs.size x y h' tk ⟨px, py⟩ (.inl ⟨_, b5, rfl, _, rfl⟩) ⟨⟨k _ _ S.TIz S.TITO S.TIi1 S.TIi2 both, b3, b4⟩, .inr ⟨_, false, _, b1, b5, lt q1, j1, j2, Nat.ne_of_gt dl⟩⟩
          fun c o hc e => k c o (fun y => hc (by simp [y])) (fun y => hc (by simp [y])) (fun y => hc (by simp [y])) (fun y => hc (by simp [y])) e
      · refine out_pyNext S D1 D2 q1 q2 both at1 at2 m1 m2 fun x y h' tk px py b1 b3 b4 b5 k => ?_
        exact now1 s1.heap.objs.size x y h' tk ⟨px, py⟩ (.inl ⟨_, b5, rfl, _, rfl⟩) ⟨⟨k _ _ S.TIz S.TIi1 S.TIi2 both, b3, b4⟩, .inr ⟨T, true, oT, b1, k _ _ r1 r2 r3 q2, r1, r2, r3, r4⟩⟩
          fun c o hc e => k c o (fun y => hc (by simp [y])) (fun y => hc (by simp [y])) (fun y => hc (by simp [y])) e
    · obtain ⟨⟨both, at1, at2⟩, q⟩ := q
      rcases q with ⟨q1, a, b, q2⟩ | ⟨T, f, oT, q1, q2, r1, r2, r3, r4⟩
      · exact wpAny_pyNext_zipD2_end S D1 D2 q1 both q2 at1 at2 (Nat.min_le_left ..) (Nat.min_le_right ..) (by omega) fun h' tk k => now1 h' tk fun c o hc e => k c o (fun y => hc (by simp [y])) (fun y => hc (by simp [y])) (fun y => hc (by simp [y])) (fun y => hc (by simp [y])) e
      · exact out_pyNext_end S D1 D2 q1 q2 both at1 at2 (Nat.min_le_left ..) (Nat.min_le_right ..) (by omega) fun h' tk k => now1 h' tk fun c o hc e => k c o (fun y => hc (by simp [y])) (fun y => hc (by simp [y])) (fun y => hc (by simp [y])) e
end
/-- dict(zip(e1, e2)): keys from a list, values from a tuple -/
def eDictZip (K : PySem.W.Frag) (ta : TA) : TE := fun σ H Q => ta σ H fun vs H1 => ∃ (a b : Addr) (ks : List Key) (xs : List V), vs = [.ref a, .ref b] ∧ SqL K H1 a (ks.map kV) ∧ SqT K H1 b xs ∧ ∀ p, H1 p = none → Q (.ref p) (upd H1 p (.dK (mergeK [] (ks.zip xs))))
theorem pe_dictZip (K : PySem.W.Frag) {X : Cx} (hk : X.K = K) (hcalm : X.calm = true) {e e2 : Expr} {ta : TA} {p p2 pos pos2 : Pos} (hd : Gl X "dict") (md : X.mg "dict" = none) (hg : Gl X "zip") (hm : X.mg "zip" = none) (ha : PA X [e, e2] ta)
    (hs : starEach [e, e2] X.env = (false, eval e X.env) :: starEach [e2] X.env := by rfl) (hpl : (backTo pos2 (starEach [e2] X.env)).any (·.1) = false := by rfl)
    (hs1 : starEach [.Call (.Name "zip" p2) [e, e2] [] pos2] X.env = [(false, eval (.Call (.Name "zip" p2) [e, e2] [] pos2) X.env)] := by rfl) :
    PE X (.Call (.Name "dict" p) [.Call (.Name "zip" p2) [e, e2] [] pos2] [] pos) (eDictZip K ta) := by
  subst hk
  refine ⟨fun pins st σ H Q J asked => ?_⟩
  refine Call_ (ld_blt J hd md boot_dict (PyProof.Rows.callWith_type1 (args_cons (Call_ (ld_blt J hg hm boot_zip (PyProof.Rows.callWith_type1 (thn (ha.run pos2 pins st σ H _ J asked) fun us st1 ⟨vs, H1, J1, rel, now⟩ => ?_) hs hpl))) hs1) hs1 rfl))
  obtain ⟨a, b, ks, xs, ex, hq1, hq2, now⟩ := now
  subst ex
  cases rel with
  | cons r1 rel =>
  cases rel with
  | cons r2 rel =>
  cases rel
  cases r1
  cases r2
  obtain ⟨its, rv, p1, z1⟩ := J1.list hq1
  obtain ⟨its2, rv2, p2, z2⟩ := J1.tuple hq2
  have al : a < st1.heap.objs.size := p1.lt
  have bl : b < st1.heap.objs.size := by obtain ⟨o, ho, _⟩ := p2; exact Heap.lt_size ho
  have B1 := begins_list a its.toArray
  have B2 := begins_tuple b its2.toArray
  refine zip_begins2 B1 B2 p1.isList p2 fun h' c1 c2 c3 c4 c5 size kp => args_nil ?_
  have S := zip_sep2 (N := st1.heap.objs.size) (fp1 := [a]) (fp2 := [b]) (by simpa using al) (by simpa using bl)
  have P := pairs_LT (prog := X.prog) (w := X.w) _ _ _ _ _ a b S (Nat.ne_of_lt al) (Nat.ne_of_lt (Nat.lt_succ_of_lt bl)) its.toArray its2.toArray
  have n1 := rv.length
  have n2 := rv2.length
  rw [List.length_map] at n1 z1
  have all : ∀ (ks : List Key) (xs : List V) (us vs : List Value), Vals (ks.map kV) us → Vals xs vs → ∃ rs : List (Key × Value), KV (ks.zip xs) rs ∧ rs.length = min us.length vs.length ∧ ∀ (i : Nat) (k v : Value), us[i]? = some k → vs[i]? = some v → ∃ q, rs[i]? = some (q, v) ∧ (mixKind X.prog X.w).is q k = true := by
    intro ks
    induction ks with
    | nil => intro xs us vs r1 r2; cases r1; exact ⟨[], .nil, by simp, fun i k v e => nomatch e⟩
    | cons k ks ih =>
      intro xs us vs r1 r2
      cases r1 with
      | cons h1 t1 =>
      cases r2 with
      | nil => exact ⟨[], .nil, by simp, fun i k v _ e => nomatch e⟩
      | cons h2 t2 =>
        obtain ⟨rs, e1, e2, e3⟩ := ih _ _ _ t1 t2
        refine ⟨(k, _) :: rs, .cons ⟨rfl, h2⟩ e1, by simp only [List.length_cons, e2]; omega, fun i q v e f => ?_⟩
        cases i with
        | zero => cases e; cases f; exact ⟨k, rfl, kV_is h1⟩
        | succ i => exact e3 i q v e f
  obtain ⟨rs, e1, e2, e3⟩ := all ks xs its its2 rv rv2
  have PH : PairsHave (mixKind X.prog X.w) (min its.toArray.size its2.toArray.size) (fun i k v => its.toArray[i]? = some k ∧ its2.toArray[i]? = some v) rs :=
    ⟨by simpa using e2, fun i k v q => e3 i k v (by simpa using q.1) (by simpa using q.2)⟩
  refine _root_.PySem.call_dict_pairs (s := { st1 with heap := h' }) P (J1.ok.hd hcalm) ⟨c1, ⟨_, _, c3⟩, c2, ⟨⟨_, c4, rfl, rfl⟩, B1.keeps _ _ p1.isList kp⟩, ⟨⟨_, c5, rfl, rfl⟩, B2.keeps _ _ p2 kp⟩⟩ PH (by have := n1; have := n2; simp only [List.size_toArray]; omega) fun h2 tk isd kp2 => ?_
  replace isd : h2.DictOf (mixKind X.prog X.w) h'.objs.size (merged [] rs) := isd
  have low : st1.heap.objs.size ≤ h'.objs.size := by rw [size]; exact Nat.le_add_right _ _
  have big : sysModules < h'.objs.size := Nat.lt_of_lt_of_le J1.big low
  have ne : (h'.objs.size == sysModules) = false := beq_eq_false_iff_ne.mpr (Nat.ne_of_gt big)
  have few : (mergeK [] (ks.zip xs)).length ≤ sizeLine := by
    refine Nat.le_trans (length_mergeK _ []) ?_
    rw [List.length_nil, Nat.zero_add, List.length_zip]
    omega
  refine ⟨.ref h'.objs.size, upd H1 h'.objs.size (.dK (mergeK [] (ks.zip xs))), J1.laid (t' := tk) (fun c o q => kp2 c o (fun hm => ?_) (kp c o q)) low (show ObjOk X.prog X.w _ _ _ (.dK (mergeK [] (ks.zip xs))) from ⟨few, ne, merged [] rs, KV.merge e1 .nil, isd⟩), rfl, now _ (J1.hok.fresh low)⟩
  have cl := Heap.lt_size q
  have either : c = st1.heap.objs.size + 4 ∨ c = st1.heap.objs.size + 3 ∨ c = st1.heap.objs.size ∨ c = st1.heap.objs.size + 1 := by simpa using hm
  rcases either with y | y | y | y <;> rw [y] at cl
  · exact absurd cl (Nat.not_lt.mpr (Nat.le_add_right _ _))
  · exact absurd cl (Nat.not_lt.mpr (Nat.le_add_right _ _))
  · exact absurd cl (Nat.lt_irrefl _)
  · exact absurd cl (Nat.not_lt.mpr (Nat.le_add_right _ _))
theorem one_at {K : PySem.W.Frag} {a : Addr} {od : Option Addr} {z : Str} {t1 : Tok} {n : Nat} {sl : Array (Option Value)} (l : K.lookup a = some ⟨.type "tuple", od, .seq #[.str z t1] n, sl⟩) (H : Hp) : SqT K H a [.str z] :=
  .inr ⟨_, _, _, l, rfl, rfl, (show 1 ≤ sizeLine by decide), .cons ⟨_, rfl⟩ .nil⟩
section
variable {P : Program} {w : World} {K : PySem.W.Frag} {mg : Str → Option Value} {base : Heap}
def sp_law_flow (K : PySem.W.Frag) : Sp := fun vs H Q _ => ∃ (a : Addr) (ns : List Int), vs = [.ref a] ∧ SqL K H a (ns.map V.int) ∧ ∀ (f c : Addr) (H' : Hp), H f = none → H c = none → Flow H' f c → Same H H' → Q (.ref f) H'
theorem ok_law_flow {f : Addr} {fd : FuncData} (F : Fun K "_law_flow" "_law_flow" s_law_flow f fd) {C : Addr} (T : Top K mg C) : FnOk P w K mg base CX0 1 f fd ["_law_script"] (sp_law_flow K) := by
  refine F.ok sc_law_flow (fun vs H Q E h => ?_) (fun cdv A outer s H vs Q E hr h => ?_)
  · obtain ⟨a, ns, rfl, _⟩ := h
    rfl
  obtain ⟨a, ns, rfl, hS, q⟩ := h
  refine ⟨_, (pss_one (ps_ret (pe_lst (pa_cons (pe_callTy (call_list_ofK K rfl) (by rfl) T.m_list (by decide +kernel) (pa_cons (pv 0) pa_nil)) (pa_cons pe_int (pa_cons pe_int (pa_cons pe_int (pa_cons pe_int pa_nil)))))))), ?_⟩
  refine ⟨_, rfl, a, _, rfl, .inl hS, fun c hc => ?_⟩
  refine ⟨(by show 5 ≤ sizeLine; decide), fun f hf => ?_⟩
  have nf : H f = none := by
    cases e : H f with
    | none => rfl
    | some o => rw [same_new hc _ _ e] at hf; cases hf
  have s1 := same_new (o := .lst (ns.map V.int)) hc
  refine q f c _ nf hc ⟨ns, 0, 0, 1, 0, upd_same, same_new hf _ _ upd_same, by decide, by decide, by decide, by decide⟩ fun b o e => same_new hf _ _ (s1 _ _ e)
def sp_law_pick (K : PySem.W.Frag) : Sp := fun vs H Q _ => ∃ (f c : Addr) (m : Int), vs = [.ref f, .int m] ∧ 0 < m ∧ m.natAbs.log2 < 9000 ∧ Flow H f c ∧
  ∀ (v : Int) (H' : Hp), 0 ≤ v → v < m → Flow H' f c → But f H H' → Q (.int v) H'
theorem ok_law_pick {f : Addr} {fd : FuncData} (F : Fun K "_law_pick" "_law_pick" s_law_pick f fd) {C : Addr} (T : Top K mg C) : FnOk P w K mg base CX0 1 f fd ["_law_flow_here", "_law_many"] (sp_law_pick K) := by
  refine F.ok sc_law_pick (fun vs H Q E h => ?_) (fun cdv A outer s H vs Q E hr h => ?_)
  · obtain ⟨f, c, m, rfl, _⟩ := h
    rfl
  obtain ⟨f, c, m, rfl, m0, m9, hF, q⟩ := h
  obtain ⟨ns, i, p, z, r, hf, hc, hi, hp, hz, hz2⟩ := hF
  have ncf : c ≠ f := ne_of hc hf (by intro e; injection e with e; cases ns with | nil => cases e | cons x l => cases e)
  let R1 : TS := fun D' σ' H' => D'.rt = Q ∧ ∃ x2 : Option V, σ' = [some (.ref f), some (.int m), x2, none] ∧ (∃ (i p z r : Int), H' f = some (.lst [.ref c, .int i, .int p, .int z, .int r]) ∧ H' c = some (.lst (ns.map V.int)) ∧ 0 ≤ i ∧ 0 ≤ p ∧ 0 ≤ z ∧ z < 2147483647) ∧ But f H H'
  refine ⟨_, (pss_cons (ps_if (PW.pt (pw_and (pt_cmpR op_eq (pe_ix (ix_listK K rfl) (pv 0) pe_int (fun _ _ => rfl)) pe_int (nomark _)) (pw_and1 (pt_cmpR op_lt (pe_ix (ix_listK K rfl) (pv 0) pe_int (fun _ _ => rfl)) (pe_callB (call_len_seqK K rfl) (by rfl) T.m_len (by decide +kernel) (pa_cons (pe_ix (ix_listK K rfl) (pv 0) pe_int (fun _ _ => rfl)) pa_nil)) (nomark _))))) (pss_cons (ps_set (i := 2) sc_law_pick.nd rfl (Or.inl rfl) (pe_ix (ix_listK K rfl) (pe_ix (ix_listK K rfl) (pv 0) pe_int (fun _ _ => rfl)) (pe_ix (ix_listK K rfl) (pv 0) pe_int (fun _ _ => rfl)) (fun _ _ => rfl)))
      (pss_cons (ps_asg (pe_op op_add (pe_ix (ix_listK K rfl) (pv 0) pe_int (fun _ _ => rfl)) pe_int) (pg_sub (pv 0) pe_int set_list))
      (pss_one (ps_if (pt_cmpR op_ge (pv 2) (pe_op op_pow pe_int pe_int) (nomark _)) (pss_one (ps_asg (pv 2) (pg_sub (pv 0) pe_int set_list))) (pss_one (ps_asg (pe_op op_mod (pe_op op_add (pe_op op_add (pe_op op_mul (pe_ix (ix_listK K rfl) (pv 0) pe_int (fun _ _ => rfl)) pe_int) (pe_op op_mod (pv 2) pe_int)) pe_int) pe_int) (pg_sub (pv 0) pe_int set_list))))))) pss_nil)
      (PSs.to (pss_cons (ps_if (pt_cmpR op_gt (pe_ix (ix_listK K rfl) (pv 0) pe_int (fun _ _ => rfl)) pe_int (nomark _)) (pss_cons (ps_set (i := 3) sc_law_pick.nd rfl (Or.inl rfl) (pe_op op_mod (pe_ix (ix_listK K rfl) (pv 0) pe_int (fun _ _ => rfl)) (pv 1)))
      (pss_cons (ps_asg (pe_op op_fdivW (pe_ix (ix_listK K rfl) (pv 0) pe_int (fun _ _ => rfl)) (pv 1)) (pg_sub (pv 0) pe_int set_list))
      (pss_one (ps_ret (pv 3))))) pss_nil)
      (pss_cons (ps_asg (pe_op op_add (pe_ix (ix_listK K rfl) (pv 0) pe_int (fun _ _ => rfl)) pe_int) (pg_sub (pv 0) pe_int set_list))
      (pss_cons (ps_asg (pe_op op_mod (pe_op op_add (pe_op op_add (pe_op op_mul (pe_ix (ix_listK K rfl) (pv 0) pe_int (fun _ _ => rfl)) pe_int) pe_int) (pe_ix (ix_listK K rfl) (pv 0) pe_int (fun _ _ => rfl))) pe_int) (pg_sub (pv 0) pe_int set_list))
      (pss_one (ps_ret (pe_op op_mod (pe_op op_fdiv (pe_op op_mod (pe_op op_mul (pe_op op_add (pe_op op_mod (pe_ix (ix_listK K rfl) (pv 0) pe_int (fun _ _ => rfl)) pe_int) pe_int) (pe_op op_add (pe_op op_fdiv (pe_ix (ix_listK K rfl) (pv 0) pe_int (fun _ _ => rfl)) pe_int) pe_int)) pe_int) pe_int) (pv 1))))))) R1 ?tail1)), ?_⟩
  case tail1 =>
    rintro D' σ' H1 ⟨eD, x2, rfl, ⟨i, p, z, r, hf, hc, hi, hp, hz, hz2⟩, bt⟩
    refine ⟨_, rfl, f, _, _, _, rfl, rfl, SqL.of hf, atI_nat (j := 2) rfl, _, _, rfl, rfl, _, rfl, if_bl (fun c1 => ?_) (fun c1 => ?_)⟩
    · refine ⟨_, rfl, f, _, _, _, rfl, rfl, SqL.of hf, atI_nat (j := 2) rfl, _, rfl, _, _, rfl, rfl, m0, ?_⟩
      refine ⟨_, rfl, f, _, _, _, rfl, rfl, SqL.of hf, atI_nat (j := 2) rfl, _, rfl, _, _, rfl, rfl, ⟨m0, m9⟩, _, rfl, f, _, _, 2, rfl, rfl, hf, rfl, ?_⟩
      refine ⟨_, rfl, ?_⟩
      rw [eD]
      exact q _ _ (Int.emod_nonneg _ (by omega)) (Int.emod_lt_of_pos _ m0) ⟨ns, i, p / m, z, r, upd_same, (by rw [upd_ne ncf]; exact hc), hi, Int.ediv_nonneg hp (by omega), hz, hz2⟩ bt.upd
    · refine ⟨_, rfl, f, _, _, _, rfl, rfl, SqL.of hf, atI_nat (j := 4) rfl, _, _, rfl, rfl, _, rfl, f, _, _, 4, rfl, rfl, hf, rfl, ?_⟩
      have hf2 : upd H1 f (.lst ([V.ref c, V.int i, V.int p, V.int z, V.int r].set 4 (V.int (r + 1)))) f = some (.lst [.ref c, .int i, .int p, .int z, .int (r + 1)]) := upd_same
      refine ⟨_, rfl, f, _, _, _, rfl, rfl, SqL.of hf2, atI_nat (j := 3) rfl, _, _, rfl, rfl, .inl ⟨by omega, by omega⟩, _, _, rfl, rfl, _, rfl, f, _, _, _, rfl, rfl, SqL.of hf2, atI_nat (j := 4) rfl, _, _, rfl, rfl, _, _, rfl, rfl, (by show (0 : Int) < 2147483647; decide), _, rfl, f, _, _, 3, rfl, rfl, hf2, rfl, ?_⟩
      have z0 : 0 ≤ (z * 48271 + 12820163 + (r + 1)) % 2147483647 := Int.emod_nonneg _ (by decide)
      have z1 : (z * 48271 + 12820163 + (r + 1)) % 2147483647 < 2147483647 := Int.emod_lt_of_pos _ (by decide)
      have hf3 : upd (upd H1 f (.lst ([V.ref c, V.int i, V.int p, V.int z, V.int r].set 4 (V.int (r + 1))))) f (.lst ([V.ref c, V.int i, V.int p, V.int z, V.int (r + 1)].set 3 (V.int ((z * 48271 + 12820163 + (r + 1)) % 2147483647)))) f =
        some (.lst [.ref c, .int i, .int p, .int ((z * 48271 + 12820163 + (r + 1)) % 2147483647), .int (r + 1)]) := upd_same
      have hc3 : upd (upd H1 f (.lst ([V.ref c, V.int i, V.int p, V.int z, V.int r].set 4 (V.int (r + 1))))) f (.lst ([V.ref c, V.int i, V.int p, V.int z, V.int (r + 1)].set 3 (V.int ((z * 48271 + 12820163 + (r + 1)) % 2147483647)))) c = some (.lst (ns.map V.int)) := by
        rw [upd_ne ncf, upd_ne ncf]
        exact hc
      refine ⟨_, rfl, f, _, _, _, rfl, rfl, SqL.of hf3, atI_nat (j := 3) rfl, _, _, rfl, rfl, (by show (0 : Int) < 65521; decide), _, _, rfl, rfl, _, rfl, f, _, _, _, rfl, rfl, SqL.of hf3, atI_nat (j := 3) rfl, _, _, rfl, rfl, ⟨by decide, by decide⟩, _, _, rfl, rfl, _, _, rfl, rfl, .inl ⟨?_, ?_⟩, _, _, rfl, rfl, (by show (0 : Int) < 1000003; decide), _, _, rfl, rfl, ⟨by decide, by decide⟩, _, rfl, _, _, rfl, rfl, m0, ?_⟩
      · omega
      · omega
      · rw [eD]
        exact q _ _ (Int.emod_nonneg _ (by omega)) (Int.emod_lt_of_pos _ m0) ⟨ns, i, p, _, r + 1, hf3, hc3, hi, hp, z0, z1⟩ bt.upd.upd
  refine ⟨_, rfl, f, _, _, _, rfl, rfl, SqL.of hf, atI_nat (j := 2) rfl, rfl, _, rfl, if_bl (fun c1 => ?_) (fun c1 => ?_)⟩
  · refine ⟨_, rfl, f, _, _, _, rfl, rfl, SqL.of hf, atI_nat (j := 1) rfl, _, rfl, f, _, _, _, rfl, rfl, SqL.of hf, atI_nat (j := 0) rfl, c, _, rfl, .inl (SqL.of hc), _, _, rfl, rfl, _, rfl, if_bl (fun c2 => ?_) (fun c2 => ?_)⟩
    · have c3 : i < ((ns.map V.int).length : Int) := of_decide_eq_true c2
      rw [List.length_map] at c3
      obtain ⟨v, hv⟩ := at_ints hi c3
      refine ⟨_, rfl, f, _, _, _, rfl, rfl, SqL.of hf, atI_nat (j := 0) rfl, _, rfl, f, _, _, _, rfl, rfl, SqL.of hf, atI_nat (j := 1) rfl, c, _, i, _, rfl, rfl, SqL.of hc, hv, ?_⟩
      refine ⟨_, rfl, f, _, _, _, rfl, rfl, SqL.of hf, atI_nat (j := 1) rfl, _, _, rfl, rfl, _, rfl, f, _, _, 1, rfl, rfl, hf, rfl, ?_⟩
      have hf2 : upd H f (.lst ([V.ref c, V.int i, V.int p, V.int z, V.int r].set 1 (V.int (i + 1)))) f = some (.lst [.ref c, .int (i + 1), .int p, .int z, .int r]) := upd_same
      refine ⟨_, rfl, _, _, rfl, rfl, ⟨by decide, by decide, by decide⟩, _, _, rfl, rfl, _, rfl, if_bl (fun c4 => ?_) (fun c4 => ?_)⟩
      · have c5 : (10 : Int) ^ (18 : Int).toNat ≤ v := of_decide_eq_true c4
        have c6 : (0 : Int) ≤ (10 : Int) ^ (18 : Int).toNat := by decide
        refine ⟨_, rfl, _, rfl, f, _, _, 2, rfl, rfl, hf2, rfl, rfl, _, rfl, ⟨i + 1, v, z, r, upd_same, ?_, by omega, by omega, hz, hz2⟩, But.refl.upd.upd⟩
        rw [upd_ne ncf, upd_ne ncf]
        exact hc
      · refine ⟨_, rfl, f, _, _, _, rfl, rfl, SqL.of hf2, atI_nat (j := 3) rfl, _, _, rfl, rfl, .inl ⟨by omega, by omega⟩, _, rfl, _, _, rfl, rfl, (by show (0 : Int) < 1000003; decide), _, _, rfl, rfl, _, _, rfl, rfl, _, _, rfl, rfl, (by show (0 : Int) < 2147483647; decide), _, rfl, f, _, _, 3, rfl, rfl, hf2, rfl, rfl, _, rfl, ⟨i + 1, p, _, r, upd_same, ?_, by omega, hp, Int.emod_nonneg _ (by decide), Int.emod_lt_of_pos _ (by decide)⟩, But.refl.upd.upd⟩
        rw [upd_ne ncf, upd_ne ncf]
        exact hc
    · exact ⟨rfl, _, rfl, ⟨i, p, z, r, hf, hc, hi, hp, hz, hz2⟩, But.refl⟩
  · exact ⟨rfl, _, rfl, ⟨i, p, z, r, hf, hc, hi, hp, hz, hz2⟩, But.refl⟩
end
/-! ### rooms: what they are -/
/-- a hand: its rule's word, its number if it has one, its moments -/
structure HR where
  wd : Str
  no : Option Int
  mom : Int
/-- a belt -/
structure BR where
  one : Nat
  to : Nat
  th : List Int
abbrev ruleL (h : HR) : List V := .str h.wd :: (match h.no with | none => [] | some n => [.int n])
def HandAt (H : Hp) (v : V) (h : HR) : Prop := ∃ t r : Addr, v = .ref t ∧ H t = some (.tup [.ref r, .int h.mom]) ∧ H r = some (.tup (ruleL h))
def BeltAt (H : Hp) (v : V) (b : BR) : Prop := ∃ t g : Addr, v = .ref t ∧ H t = some (.tup [.int (b.one : Nat), .int (b.to : Nat), .ref g]) ∧ H g = some (.tup (b.th.map V.int))
theorem HandAt.keep {H H' : Hp} {v : V} {h : HR} (a : HandAt H v h) (k : TK H H') : HandAt H' v h := by
  obtain ⟨t, r, e, e1, e2⟩ := a
  exact ⟨t, r, e, k _ _ e1, k _ _ e2⟩
theorem BeltAt.keep {H H' : Hp} {v : V} {b : BR} (a : BeltAt H v b) (k : TK H H') : BeltAt H' v b := by
  obtain ⟨t, r, e, e1, e2⟩ := a
  exact ⟨t, r, e, k _ _ e1, k _ _ e2⟩
def nine : List Str := ["always", "same", "times", "sum", "gap", "below", "most", "least", "pick"]
def needs (wd : Str) : Int := if wd ∈ (["in", "always"] : List Str) then 0 else if wd ∈ (["out", "same", "times"] : List Str) then 1 else 2 + (if wd = "pick" then 1 else 0)
/-- a rule of one of the nine words -/
structure GoodRule (h : HR) : Prop where
  wd : h.wd ∈ nine
  no : h.no.isSome = true ↔ h.wd = "times" ∨ h.wd = "always"
  big : ∀ n, h.no = some n → -1000000 ≤ n ∧ n ≤ 1000000
def GoodHand (h : HR) : Prop := (GoodRule h ∨ ((h.wd = "in" ∨ h.wd = "out") ∧ h.no = none)) ∧ 0 ≤ h.mom ∧ h.mom ≤ 30
def Small (v : Int) : Prop := -1000000 ≤ v ∧ v ≤ 1000000
section
variable {P : Program} {w : World} {K : PySem.W.Frag} {mg : Str → Option Value} {base : Heap}
def sp_law_thing (K : PySem.W.Frag) : Sp := fun vs H Q _ => ∃ f c : Addr, vs = [.ref f] ∧ Flow H f c ∧ ∀ (v : Int) (H' : Hp), Small v → Flow H' f c → But f H H' → Q (.int v) H'
theorem ok_law_thing {f : Addr} {fd : FuncData} (F : Fun K "_law_thing" "_law_thing" s_law_thing f fd) {C : Addr} (T : Top K mg C) : FnOk P w K mg base CX0 2 f fd ["_law_flow_here"] (sp_law_thing K) := by
  obtain ⟨f_law_pick, fd_law_pick, F_law_pick, b_law_pick, m_law_pick⟩ := T.d_law_pick
  have G_law_pick := ok_law_pick (P := P) (w := w) (base := base) F_law_pick T
  refine F.ok sc_law_thing (fun vs H Q E h => ?_) (fun cdv A outer s H vs Q E hr h => ?_)
  · obtain ⟨f, c, rfl, _⟩ := h
    rfl
  obtain ⟨f, c, rfl, hF, q⟩ := h
  refine ⟨_, (pss_cons (ps_if (pt_cmpR op_gt (pe_call G_law_pick (hr.mono (by decide)) (by rfl) m_law_pick F_law_pick.kp b_law_pick .nil pass0 (pa_cons (pv 0) (pa_cons pe_int pa_nil))) pe_int (nomark _)) (pss_one (ps_ret (pe_op op_sub (pe_call G_law_pick (hr.mono (by decide)) (by rfl) m_law_pick F_law_pick.kp b_law_pick .nil pass0 (pa_cons (pv 0) (pa_cons pe_int pa_nil))) pe_int))) pss_nil)
      (pss_one (ps_ret (pe_op op_sub (pe_call G_law_pick (hr.mono (by decide)) (by rfl) m_law_pick F_law_pick.kp b_law_pick .nil pass0 (pa_cons (pv 0) (pa_cons pe_int pa_nil))) pe_int)))), ?_⟩
  refine ⟨_, rfl, f, c, 3, rfl, by decide, by decide +kernel, hF, fun v1 H1 a1 b1 F1 B1 => ⟨_, _, rfl, rfl, _, rfl, if_bl (fun _ => ?_) (fun _ => ?_)⟩⟩
  · exact ⟨_, rfl, f, c, 7, rfl, by decide, by decide +kernel, F1, fun v2 H2 a2 b2 F2 B2 => ⟨_, _, rfl, rfl, q _ _ ⟨by omega, by omega⟩ F2 (B1.trans B2)⟩⟩
  · exact ⟨_, rfl, f, c, 2000001, rfl, by decide, by decide +kernel, F1, fun v2 H2 a2 b2 F2 B2 => ⟨_, _, rfl, rfl, q _ _ ⟨by omega, by omega⟩ F2 (B1.trans B2)⟩⟩
def sp_law_needs (K : PySem.W.Frag) : Sp := fun vs H Q _ => ∃ (r : Addr) (wd : Str) (l : List V), vs = [.ref r] ∧ SqT K H r (.str wd :: l) ∧ ∀ H', Same H H' → Q (.int (needs wd)) H'
theorem ok_law_needs {f : Addr} {fd : FuncData} (F : Fun K "_law_needs" "_law_needs" s_law_needs f fd) {C : Addr} (T : Top K mg C) : FnOk P w K mg base CX0 1 f fd ["_law_rule_here"] (sp_law_needs K) := by
  refine F.ok sc_law_needs (fun vs H Q E h => ?_) (fun cdv A outer s H vs Q E hr h => ?_)
  · obtain ⟨r, wd, l, rfl, _⟩ := h
    rfl
  obtain ⟨r, wd, l, rfl, hR, q⟩ := h
  unfold needs at q
  refine ⟨_, (pss_cons (ps_if (pt_cmpR (op_in_seqK K rfl) (pe_ix (ix_tupK K rfl) (pv 0) pe_int (fun _ _ => rfl)) (pe_tup (pa_cons pe_str (pa_cons pe_str pa_nil))) (by with_unfolding_all rfl)) (pss_one (ps_ret pe_int)) pss_nil)
      (pss_cons (ps_if (pt_cmpR (op_in_seqK K rfl) (pe_ix (ix_tupK K rfl) (pv 0) pe_int (fun _ _ => rfl)) (pe_tup (pa_cons pe_str (pa_cons pe_str (pa_cons pe_str pa_nil)))) (by with_unfolding_all rfl)) (pss_one (ps_ret pe_int)) pss_nil)
      (pss_one (ps_ret (pe_op op_add pe_int (pe_callTy call_int1 (by rfl) T.m_int (by decide +kernel) (pa_cons (pe_cmpR op_eq (pe_ix (ix_tupK K rfl) (pv 0) pe_int (fun _ _ => rfl)) pe_str (nomark _)) pa_nil))))))), ?_⟩
  refine ⟨_, rfl, r, _, _, _, rfl, rfl, hR, atI_nat (j := 0) rfl, (by show 2 ≤ sizeLine; decide), fun p np => ⟨p, _, rfl, .inr (SqT.of upd_same), rfl, rfl, _, rfl, if_in (zs := ["in", "always"]) (fun e => ?_) (fun e => ?_)⟩⟩
  · have q := q _ (same_new (o := .tup [V.str "in", V.str "always"]) np)
    rw [if_pos e] at q
    exact q
  have s1 := same_new (o := .tup [V.str "in", V.str "always"]) np
  refine ⟨_, rfl, r, _, _, _, rfl, rfl, same_seqT s1 hR, atI_nat (j := 0) rfl, (by show 3 ≤ sizeLine; decide), fun p2 np2 => ⟨p2, _, rfl, .inr (SqT.of upd_same), rfl, rfl, _, rfl, if_in (zs := ["out", "same", "times"]) (fun e2 => ?_) (fun e2 => ?_)⟩⟩
  · have q := q _ (s1.trans (same_new (o := .tup [V.str "out", V.str "same", V.str "times"]) np2))
    rw [if_neg e, if_pos e2] at q
    exact q
  have s2 := s1.trans (same_new (o := .tup [V.str "out", V.str "same", V.str "times"]) np2)
  have q := q _ s2
  rw [if_neg e, if_neg e2] at q
  refine ⟨_, rfl, r, _, _, _, rfl, rfl, same_seqT s2 hR, atI_nat (j := 0) rfl, rfl, .inr ⟨_, rfl, _, _, rfl, rfl, ?_⟩⟩
  by_cases k : wd = "pick"
  · rw [if_pos k] at q
    rw [decide_eq_true (show V.str wd = V.str "pick" by rw [k])]
    exact q
  · rw [if_neg k] at q
    rw [decide_eq_false (show ¬ V.str wd = V.str "pick" from fun z => k (V.str.inj z))]
    exact q
theorem nine_at {m : Int} (h0 : 0 ≤ m) (h9 : m < 9) : ∃ wd : Str, wd ∈ nine ∧ atI (nine.map V.str) m = some (.str wd) ∧ (m < 1 → needs wd ≤ 0) ∧ (m < 3 → needs wd ≤ 1) ∧ (m < 8 → needs wd ≤ 2) ∧ needs wd ≤ 3 ∧ 0 ≤ needs wd := by
  have : m = 0 ∨ m = 1 ∨ m = 2 ∨ m = 3 ∨ m = 4 ∨ m = 5 ∨ m = 6 ∨ m = 7 ∨ m = 8 := by omega
  rcases this with rfl | rfl | rfl | rfl | rfl | rfl | rfl | rfl | rfl
  · exact ⟨"always", by decide +kernel, rfl, by decide +kernel, by decide +kernel, by decide +kernel, by decide +kernel, by decide +kernel⟩
  · exact ⟨"same", by decide +kernel, rfl, by decide +kernel, by decide +kernel, by decide +kernel, by decide +kernel, by decide +kernel⟩
  · exact ⟨"times", by decide +kernel, rfl, by decide +kernel, by decide +kernel, by decide +kernel, by decide +kernel, by decide +kernel⟩
  · exact ⟨"sum", by decide +kernel, rfl, by decide +kernel, by decide +kernel, by decide +kernel, by decide +kernel, by decide +kernel⟩
  · exact ⟨"gap", by decide +kernel, rfl, by decide +kernel, by decide +kernel, by decide +kernel, by decide +kernel, by decide +kernel⟩
  · exact ⟨"below", by decide +kernel, rfl, by decide +kernel, by decide +kernel, by decide +kernel, by decide +kernel, by decide +kernel⟩
  · exact ⟨"most", by decide +kernel, rfl, by decide +kernel, by decide +kernel, by decide +kernel, by decide +kernel, by decide +kernel⟩
  · exact ⟨"least", by decide +kernel, rfl, by decide +kernel, by decide +kernel, by decide +kernel, by decide +kernel, by decide +kernel⟩
  · exact ⟨"pick", by decide +kernel, rfl, by decide +kernel, by decide +kernel, by decide +kernel, by decide +kernel, by decide +kernel⟩
def sp_law_rule (K : PySem.W.Frag) : Sp := fun vs H Q _ => ∃ (f c : Addr) (m : Int), vs = [.ref f, .int m] ∧ 0 ≤ m ∧ Flow H f c ∧
  ∀ (r : Addr) (h : HR) (H' : Hp), H' r = some (.tup (ruleL h)) → GoodRule h → needs h.wd ≤ m → 0 ≤ needs h.wd → h.mom = 0 → Flow H' f c → But f H H' → Q (.ref r) H'
theorem ok_law_rule {f : Addr} {fd : FuncData} (F : Fun K "_law_rule" "_law_rule" s_law_rule f fd) {C : Addr} (T : Top K mg C) : FnOk P w K mg base CX0 3 f fd ["_law_flow_here", "_law_most"] (sp_law_rule K) := by
  obtain ⟨f_law_pick, fd_law_pick, F_law_pick, b_law_pick, m_law_pick⟩ := T.d_law_pick
  have G_law_pick := ok_law_pick (P := P) (w := w) (base := base) F_law_pick T
  obtain ⟨f_law_thing, fd_law_thing, F_law_thing, b_law_thing, m_law_thing⟩ := T.d_law_thing
  have G_law_thing := ok_law_thing (P := P) (w := w) (base := base) F_law_thing T
  refine F.ok sc_law_rule (fun vs H Q E h => ?_) (fun cdv A outer s H vs Q E hr h => ?_)
  · obtain ⟨f, c, m, rfl, _⟩ := h
    rfl
  obtain ⟨f, c, m, rfl, m0, hF, q⟩ := h
  refine ⟨_, (pss_cons (ps_set (i := 2) sc_law_rule.nd rfl (Or.inl rfl) (pe_lst (pa_cons pe_str (pa_cons pe_str (pa_cons pe_str (pa_cons pe_str (pa_cons pe_str (pa_cons pe_str (pa_cons pe_str (pa_cons pe_str (pa_cons pe_str pa_nil)))))))))))
      (pss_cons (ps_set (i := 3) sc_law_rule.nd rfl (Or.inl rfl) (pe_ix (ix_listK K rfl) (pv 2) (pe_call G_law_pick (hr.mono (by decide)) (by rfl) m_law_pick F_law_pick.kp b_law_pick .nil pass0 (pa_cons (pv 0) (pa_cons (pe_ix (ix_listK K rfl) (pe_lst (pa_cons pe_int (pa_cons pe_int (pa_cons pe_int (pa_cons pe_int pa_nil))))) (pe_callB (call_min2 rfl) (by rfl) T.m_min (by decide +kernel) (pa_cons pe_int (pa_cons (pv 1) pa_nil))) (fun _ _ => rfl)) pa_nil))) (fun _ _ => rfl)))
      (pss_cons (ps_if (pt_cmpR op_eq (pv 3) pe_str (nomark _)) (pss_one (ps_ret (pe_tup (pa_cons (pv 3) (pa_cons (pe_op op_sub (pe_call G_law_pick (hr.mono (by decide)) (by rfl) m_law_pick F_law_pick.kp b_law_pick .nil pass0 (pa_cons (pv 0) (pa_cons pe_int pa_nil))) pe_int) pa_nil))))) pss_nil)
      (pss_cons (ps_if (pt_cmpR op_eq (pv 3) pe_str (nomark _)) (pss_one (ps_ret (pe_tup (pa_cons (pv 3) (pa_cons (pe_call G_law_thing (hr.mono (by decide)) (by rfl) m_law_thing F_law_thing.kp b_law_thing .nil pass0 (pa_cons (pv 0) pa_nil)) pa_nil))))) pss_nil)
      (pss_one (ps_ret (pe_tup (pa_cons (pv 3) pa_nil)))))))), ?_⟩
  refine ⟨(by show 9 ≤ sizeLine; decide), fun wl nwl => ?_⟩
  have F1 : Flow (upd H wl (.lst (nine.map V.str))) f c := hF.new nwl
  refine ⟨_, rfl, _, rfl, (by show 4 ≤ sizeLine; decide), fun cl ncl => ?_⟩
  have F2 : Flow (upd (upd H wl (.lst (nine.map V.str))) cl (.lst [V.int 1, V.int 3, V.int 8, V.int 9])) f c := F1.new ncl
  have B2 : But f H (upd (upd H wl (.lst (nine.map V.str))) cl (.lst [V.int 1, V.int 3, V.int 8, V.int 9])) := (But.refl.new nwl).new ncl
  obtain ⟨j, hj, j1, j9, jn⟩ : ∃ j : Int, atI [V.int 1, V.int 3, V.int 8, V.int 9] (if m < 3 then m else 3) = some (.int j) ∧ 1 ≤ j ∧ j ≤ 9 ∧ ((j = 1 ∧ m = 0) ∨ (j = 3 ∧ m = 1) ∨ (j = 8 ∧ m = 2) ∨ (j = 9 ∧ 3 ≤ m)) := by
    by_cases k : m < 3
    · rw [if_pos k]
      have : m = 0 ∨ m = 1 ∨ m = 2 := by omega
      rcases this with rfl | rfl | rfl
      · exact ⟨1, rfl, by decide, by decide, by decide⟩
      · exact ⟨3, rfl, by decide, by decide, by decide⟩
      · exact ⟨8, rfl, by decide, by decide, by decide⟩
    · rw [if_neg k]
      exact ⟨9, rfl, by decide, by decide, by omega⟩
  refine ⟨_, rfl, _, _, rfl, cl, _, _, _, rfl, rfl, SqL.of upd_same, hj, f, c, j, rfl, by omega, ?_, F2, fun v H1 v0 v1 F3 B3 => ?_⟩
  · have : j = 1 ∨ j = 3 ∨ j = 8 ∨ j = 9 := by omega
    rcases this with rfl | rfl | rfl | rfl <;> decide +kernel
  obtain ⟨wd, hw, hat, n1, n3, n8, n9, n0⟩ := nine_at v0 (by omega)
  have hn : needs wd ≤ m := by
    rcases jn with ⟨rfl, rfl⟩ | ⟨rfl, rfl⟩ | ⟨rfl, rfl⟩ | ⟨rfl, k⟩
    · exact n1 v1
    · exact n3 v1
    · exact n8 v1
    · omega
  have hwl : H1 wl = some (.lst (nine.map V.str)) := B3 _ _ (same_new ncl _ _ upd_same) (hF.ne nwl)
  refine ⟨wl, _, _, _, rfl, rfl, SqL.of hwl, hat, ?_⟩
  have BB := B2.trans B3
  refine ⟨_, rfl, rfl, _, rfl, if_str (fun e => ?_) (fun e => ?_)⟩
  · refine ⟨_, rfl, _, rfl, f, c, 19, rfl, by decide, by decide +kernel, F3, fun v2 H2 a2 b2 F4 B4 => ⟨_, _, rfl, rfl, (by show 2 ≤ sizeLine; decide), fun r nr => ?_⟩⟩
    exact q r ⟨wd, some (v2 - 9), 0⟩ _ upd_same ⟨hw, ⟨fun _ => .inl e, fun _ => rfl⟩, fun n en => by cases en; exact ⟨by omega, by omega⟩⟩ hn n0 rfl (F4.new nr) ((BB.trans B4).new nr)
  refine ⟨_, rfl, rfl, _, rfl, if_str (fun e2 => ?_) (fun e2 => ?_)⟩
  · refine ⟨_, rfl, _, rfl, f, c, rfl, F3, fun v2 H2 s2 F4 B4 => ⟨(by show 2 ≤ sizeLine; decide), fun r nr => ?_⟩⟩
    exact q r ⟨wd, some v2, 0⟩ _ upd_same ⟨hw, ⟨fun _ => .inr e2, fun _ => rfl⟩, fun n en => by cases en; exact s2⟩ hn n0 rfl (F4.new nr) ((BB.trans B4).new nr)
  · refine ⟨_, rfl, (by show 1 ≤ sizeLine; decide), fun r nr => ?_⟩
    exact q r ⟨wd, none, 0⟩ _ upd_same ⟨hw, ⟨(fun z => nomatch z), fun z => absurd z (fun z => z.elim e e2)⟩, (fun n en => nomatch en)⟩ hn n0 rfl (F3.new nr) (BB.new nr)
def sp_law_shuffled (K : PySem.W.Frag) : Sp := fun vs H Q _ => ∃ (f c l : Addr) (xs : List V), vs = [.ref f, .ref l] ∧ SqL K H l xs ∧ l ≠ f ∧ xs.length ≤ 500 ∧ Flow H f c ∧
  ∀ (p : Addr) (ys : List V) (H' : Hp), ys.Perm xs → H p = none → H' p = some (.lst ys) → Flow H' f c → But f H H' → Q (.ref p) H'
theorem But.seqL {K : PySem.W.Frag} {f a : Addr} {H H1 : Hp} {xs : List V} (b : But f H H1) (h : SqL K H a xs) (n : a ≠ f) : SqL K H1 a xs := by
  rcases h with h | h
  · left
    rcases h with h | ⟨o, h⟩
    · exact .inl (b _ _ h n)
    · exact .inr ⟨o, b _ _ h n⟩
  · exact .inr h
theorem same_seqL {K : PySem.W.Frag} {a : Addr} {H H1 : Hp} {xs : List V} (b : Same H H1) (h : SqL K H a xs) : SqL K H1 a xs := by
  rcases h with h | h
  · left
    rcases h with h | ⟨o, h⟩
    · exact .inl (b _ _ h)
    · exact .inr ⟨o, b _ _ h⟩
  · exact .inr h
theorem log_small {m : Nat} (h : m ≤ 500) : ((m : Int)).natAbs.log2 < 9000 := by
  rw [Int.natAbs_natCast]
  exact Nat.lt_of_le_of_lt (Nat.log2_le_self m) (by omega)
theorem perm_erase {α : Type} : ∀ {l : List α} {j : Nat} {y : α}, l[j]? = some y → (y :: l.eraseIdx j).Perm l
  | [], _, _, h => nomatch h
  | a :: l, 0, y, h => by
    cases h
    exact List.Perm.refl _
  | a :: l, j + 1, y, h => by
    have ih : (y :: l.eraseIdx j).Perm l := perm_erase h
    exact (List.Perm.swap a y _).trans (ih.cons a)
theorem ok_law_shuffled {f : Addr} {fd : FuncData} (F : Fun K "_law_shuffled" "_law_shuffled" s_law_shuffled f fd) {C : Addr} (T : Top K mg C) : FnOk P w K mg base CX0 2 f fd ["_law_flow_here", "_law_some"] (sp_law_shuffled K) := by
  obtain ⟨f_law_pick, fd_law_pick, F_law_pick, b_law_pick, m_law_pick⟩ := T.d_law_pick
  have G_law_pick := ok_law_pick (P := P) (w := w) (base := base) F_law_pick T
  refine F.ok sc_law_shuffled (fun vs H Q E h => ?_) (fun cdv A outer s H vs Q E hr h => ?_)
  · obtain ⟨f, c, l, xs, rfl, _⟩ := h
    rfl
  obtain ⟨f, c, l, xs, rfl, hL, nl, hlen, hF, q⟩ := h
  refine ⟨_, (pss_cons (ps_set (i := 2) sc_law_shuffled.nd rfl (Or.inr rfl) (pe_callTy (call_list_ofK K rfl) (by rfl) T.m_list (by decide +kernel) (pa_cons (pv 1) pa_nil)))
      (pss_one (ps_ret (pe_lc (own := [("_law_k", 3)]) (g := gName 3) (tt := tYes) (by rfl) sc_law_shuffled.nd (pi_range1 (by rfl) T.m_range (pa_cons (pe_callB (call_len_seqK K rfl) (by rfl) T.m_len (by decide +kernel) (pa_cons (pv 1) pa_nil)) pa_nil)) (blkOk_by (own := [("_law_k", 3)]) (N := N_law_shuffled) (sc := defScope s_law_shuffled) (by decide +kernel)) (fun _ _ _ _ _ => (pg_name (i := 3) sc_law_shuffled.nd rfl (Or.inl rfl))) (fun _ _ _ _ _ => pts_nil) (fun _ _ _ _ _ => (pe_bmK K rfl PySem.F.plainAttrs_list PySem.F.slot_list_pop PySem.F.type_list_pop mt_popAt (pv 2) (pa_cons (pe_call G_law_pick (hr.mono (by decide)) (by rfl) m_law_pick F_law_pick.kp b_law_pick .nil pass0 (pa_cons (pv 0) (pa_cons (pe_callB (call_len_seqK K rfl) (by rfl) T.m_len (by decide +kernel) (pa_cons (pv 2) pa_nil)) pa_nil))) pa_nil))))))), ?_⟩
  refine ⟨_, rfl, l, _, rfl, .inl hL, fun lf nlf => ?_⟩
  refine ⟨_, rfl, l, _, rfl, .inl (same_seqL (same_new nlf) hL), _, rfl, by omega, (by omega), fun D nD => ?_⟩
  have F1 : Flow (upd H lf (.lst xs)) f c := hF.new nlf
  have dl : D ≠ lf := (ne_of_none upd_same nD).symm
  refine lc_range (lo := 0) (n := xs.length) (fun i H5 => ∃ acc rest : List V, H5 D = some (.lst acc) ∧ H5 lf = some (.lst rest) ∧ acc.length = i ∧ rest.length + i = xs.length ∧ (acc ++ rest).Perm xs ∧ Flow H5 f c ∧ But f H H5)
    ⟨[], xs, upd_same, by rw [upd_ne dl.symm]; exact upd_same, rfl, by omega, List.Perm.refl _, F1.new nD, (But.refl.new nlf).new nD⟩ ?_ ?_
  · rintro i H5 hi ⟨acc, rest, hD, hl, ha, hr2, hp, F5, B5⟩
    refine ⟨rfl, yes_in ?_⟩
    refine ⟨_, rfl, .inl ⟨rfl, _, SqL.of hl⟩, _, rfl, _, rfl, lf, _, rfl, .inl (SqL.of hl), f, c, ((rest.length : Nat) : Int), rfl, by omega, log_small (by omega), F5, fun v H6 v0 v1 F6 B6 => ?_⟩
    have hl6 := B6 _ _ hl (hF.ne nlf)
    have hv : v.toNat < rest.length := by omega
    have e1 : seqIndex? v rest.length = some v.toNat := by
      rw [seqIndex_of v0 (by omega)]
    refine ⟨lf, rest, v, v.toNat, rest[v.toNat], rfl, rfl, hl6, by omega, by omega, e1, List.getElem?_eq_getElem hv, ?_⟩
    have hD6 := B6 _ _ hD (fun e => by rw [e] at nD; rw [show upd H lf (.lst xs) f = H f from upd_ne (hF.ne nlf).symm] at nD; obtain ⟨_, _, _, _, _, e1, _⟩ := hF; rw [e1] at nD; cases nD)
    refine ⟨acc, by rw [upd_ne dl]; exact hD6, small1000 (by omega), acc ++ [rest[v.toNat]], rest.eraseIdx v.toNat, upd_same, by rw [upd_ne dl.symm]; exact upd_same, by rw [List.length_append, ha]; rfl, ?_, ?_, ?_, ?_⟩
    · rw [List.length_eraseIdx, if_pos hv]
      omega
    · refine List.Perm.trans ?_ hp
      rw [List.append_assoc]
      exact List.Perm.append_left acc (perm_erase (List.getElem?_eq_getElem hv))
    · have dc : D ≠ c := fun e => by
        rw [e] at nD
        obtain ⟨_, _, _, _, _, _, e1, _⟩ := F1
        rw [e1] at nD
        cases nD
      exact (F6.lst (hF.ne nlf) (hF.nec nlf)).lst (F1.ne nD) dc
    · exact ((B5.trans B6).own nlf).own (same_none (same_new nlf) nD)
  · rintro H5 ⟨acc, rest, hD, hl, ha, hr2, hp, F5, B5⟩
    have er : rest = [] := by
      cases rest with
      | nil => rfl
      | cons a l => simp at hr2
    subst er
    rw [List.append_nil] at hp
    exact q D acc H5 hp (same_none (same_new nlf) nD) hD F5 B5
end
/-! ### the hands of a drawn room -/
def unS : V → Str
  | .str s => s
  | _ => ""
theorem perm_strs {ys : List V} {zs : List Str} (h : ys.Perm (zs.map V.str)) : ∃ ss : List Str, ys = ss.map V.str ∧ ss.Perm zs := by
  refine ⟨ys.map unS, ?_, ?_⟩
  · rw [List.map_map]
    symm
    refine (List.map_congr_left (g := id) fun y hy => ?_).trans (List.map_id _)
    obtain ⟨z, _, e⟩ := List.mem_map.mp (h.mem_iff.mp hy)
    subst e
    rfl
  · have q := h.map unS
    rw [List.map_map] at q
    have e : zs.map (unS ∘ V.str) = zs := (List.map_congr_left (g := id) fun z _ => rfl).trans (List.map_id _)
    rw [e] at q
    exact q
theorem flat_rep {α : Type} (x : α) : ∀ n : Nat, (List.replicate n [x]).flatten = List.replicate n x
  | 0 => rfl
  | n + 1 => by
    rw [List.replicate_succ, List.flatten_cons, flat_rep x n]
    rfl
def cnt (ss : List Str) : Nat := (ss.filter fun s => !decide (s = ("in" : Str))).length
theorem cnt_le (ss : List Str) : cnt ss ≤ ss.length := List.length_filter_le ..
theorem cut_drop (xs : List V) (k : Nat) : cutV xs (some ((k : Nat) : Int)) none = xs.drop k := by
  unfold cutV
  rw [HT.sIx_nat, HT.sIx_none]
  by_cases h : k ≤ xs.length
  · rw [Nat.min_eq_left h]
    exact List.take_of_length_le (by rw [List.length_drop]; exact Nat.le_refl _)
  · rw [Nat.min_eq_right (by omega), Nat.sub_self, List.take_zero, List.drop_eq_nil_of_le (by omega)]
structure HInv (f c sl hh : Addr) (ss : List Str) (H0 H : Hp) (i : Nat) (vs : List V) (hs : List HR) (left : Int) : Prop where
  fl : Flow H f c
  bt : But f H0 H
  hsl : H sl = some (.lst (ss.map V.str))
  hhh : H hh = some (.lst vs)
  al : All2 (HandAt H) vs hs
  len : hs.length = i
  good : ∀ h ∈ hs, GoodHand h
  lf : (cnt (ss.drop i) : Int) ≤ left
  sum : (hs.map fun h => needs h.wd).sum + left = 20
  nz : ∀ h ∈ hs, 0 ≤ needs h.wd
  one : ("hand" : Str) ∈ ss.take i → ∃ h ∈ hs, h.wd ≠ "out"
  n1 : sl ≠ f
  n2 : sl ≠ hh
  n3 : hh ≠ f
  n4 : hh ≠ c
  n5 : H0 hh = none
section
variable {f c sl hh : Addr} {ss : List Str} {H0 H H' : Hp} {i : Nat} {vs : List V} {hs : List HR} {left : Int}
theorem HInv.but (s : HInv f c sl hh ss H0 H i vs hs left) (F : Flow H' f c) (b : But f H H') : HInv f c sl hh ss H0 H' i vs hs left :=
  { s with fl := F, bt := s.bt.trans b, hsl := b _ _ s.hsl s.n1, hhh := b _ _ s.hhh s.n3, al := s.al.imp fun _ _ k => k.keep (TK.but s.fl b) }
theorem HInv.new {p : Addr} {o : HO} (s : HInv f c sl hh ss H0 H i vs hs left) (n : H p = none) : HInv f c sl hh ss H0 (upd H p o) i vs hs left :=
  { s with fl := s.fl.new n, bt := s.bt.new n, hsl := same_new n _ _ s.hsl, hhh := same_new n _ _ s.hhh, al := s.al.imp fun _ _ k => k.keep (TK.new n) }
theorem HInv.same (s : HInv f c sl hh ss H0 H i vs hs left) (k : Same H H') : HInv f c sl hh ss H0 H' i vs hs left :=
  { s with fl := s.fl.same k, bt := s.bt.same k, hsl := k _ _ s.hsl, hhh := k _ _ s.hhh, al := s.al.imp fun _ _ z => z.keep (TK.same k) }
theorem HInv.step {x : V} {h : HR} {sd : Str} (s : HInv f c sl hh ss H0 H i vs hs left) (hx : HandAt H x h) (g : GoodHand h) (z : 0 ≤ needs h.wd) (k : needs h.wd + (cnt (ss.drop (i + 1)) : Int) ≤ left) (e : ss[i]? = some sd) (o : sd = "hand" → h.wd ≠ "out") :
    HInv f c sl hh ss H0 (upd H hh (.lst (vs ++ [x]))) (i + 1) (vs ++ [x]) (hs ++ [h]) (left - needs h.wd) := by
  refine { s with fl := s.fl.lst s.n3 s.n4, bt := s.bt.own s.n5, hsl := by rw [upd_ne s.n2]; exact s.hsl, hhh := upd_same, al := (s.al.snoc hx).imp fun _ _ z => z.keep (TK.lst s.hhh), len := by rw [List.length_append, s.len]; rfl, good := ?_, lf := by omega, sum := ?_, nz := ?_, one := ?_ }
  · intro y hy
    rcases List.mem_append.mp hy with hy | hy
    · exact s.good y hy
    · obtain rfl : y = h := by simpa using hy
      exact g
  · have := s.sum
    rw [List.map_append, List.sum_append]
    simp only [List.map_cons, List.map_nil, List.sum_cons, List.sum_nil]
    omega
  · intro y hy
    rcases List.mem_append.mp hy with hy | hy
    · exact s.nz y hy
    · obtain rfl : y = h := by simpa using hy
      exact z
  · intro hm
    rw [List.take_add_one, e] at hm
    rcases List.mem_append.mp hm with hm | hm
    · obtain ⟨y, h1, h2⟩ := s.one hm
      exact ⟨y, List.mem_append_left _ h1, h2⟩
    · have e2 : ("hand" : Str) = sd := by simpa using hm
      exact ⟨h, List.mem_append_right _ (by simp), o e2.symm⟩
end
theorem cnt_cons {ss : List Str} {i : Nat} {sd : Str} (e : ss[i]? = some sd) : cnt (ss.drop i) = (if sd = "in" then 0 else 1) + cnt (ss.drop (i + 1)) := by
  have hi := (List.getElem?_eq_some_iff.mp e).1
  have e2 : ss.drop i = sd :: ss.drop (i + 1) := by
    rw [List.drop_eq_getElem_cons hi, (List.getElem?_eq_some_iff.mp e).2]
  rw [e2]
  unfold cnt
  rw [List.filter_cons]
  by_cases k : sd = "in"
  · rw [if_pos k, decide_eq_true k]
    simp
  · rw [if_neg k, decide_eq_false k]
    simp only [Bool.not_false, if_true, List.length_cons]
    omega
section
variable {P : Program} {w : World} {K : PySem.W.Frag} {mg : Str → Option Value} {base : Heap}
structure HandsOk (hs : List HR) : Prop where
  len : hs.length ≤ 12
  good : ∀ h ∈ hs, GoodHand h
  sum : (hs.map fun h => needs h.wd).sum ≤ 20
  nz : ∀ h ∈ hs, 0 ≤ needs h.wd
  one : ∃ h ∈ hs, h.wd ≠ "out"
def sp_law_hands (K : PySem.W.Frag) : Sp := fun vs H Q _ => ∃ (f c : Addr) (m : Int), vs = [.ref f, .int m] ∧ 1 ≤ m ∧ m ≤ 8 ∧ Flow H f c ∧
  ∀ (p : Addr) (xs : List V) (hs : List HR) (H' : Hp), H p = none → H' p = some (.lst xs) → All2 (HandAt H') xs hs → HandsOk hs → Flow H' f c → But f H H' → Q (.ref p) H'
theorem ok_law_hands {f : Addr} {fd : FuncData} (F : Fun K "_law_hands" "_law_hands" s_law_hands f fd) {C : Addr} (T : Top K mg C) : FnOk P w K mg base CX0 4 f fd ["_law_flow_here", "_law_many"] (sp_law_hands K) := by
  obtain ⟨f_law_shuffled, fd_law_shuffled, F_law_shuffled, b_law_shuffled, m_law_shuffled⟩ := T.d_law_shuffled
  have G_law_shuffled := ok_law_shuffled (P := P) (w := w) (base := base) F_law_shuffled T
  obtain ⟨f_law_rule, fd_law_rule, F_law_rule, b_law_rule, m_law_rule⟩ := T.d_law_rule
  have G_law_rule := ok_law_rule (P := P) (w := w) (base := base) F_law_rule T
  obtain ⟨f_law_needs, fd_law_needs, F_law_needs, b_law_needs, m_law_needs⟩ := T.d_law_needs
  have G_law_needs := ok_law_needs (P := P) (w := w) (base := base) F_law_needs T
  obtain ⟨f_law_pick, fd_law_pick, F_law_pick, b_law_pick, m_law_pick⟩ := T.d_law_pick
  have G_law_pick := ok_law_pick (P := P) (w := w) (base := base) F_law_pick T
  refine F.ok sc_law_hands (fun vs H Q E h => ?_) (fun cdv A outer s H vs Q E hr h => ?_)
  · obtain ⟨f, c, m, rfl, _⟩ := h
    rfl
  obtain ⟨f, c, m, rfl, m1, m8, hF, q⟩ := h
  let R1 : TS := fun D' σ' H' => D'.rt = Q ∧ ∃ (sl : Addr) (ss : List Str), σ' = [some (.ref f), some (.int m), some (.ref sl), none, none, none, none, none, none, none] ∧ H' sl = some (.lst (ss.map V.str)) ∧ sl ≠ f ∧ ss.length ≤ 12 ∧ ("hand" : Str) ∈ ss ∧ (∀ s ∈ ss, s = "in" ∨ s = "out" ∨ s = "hand") ∧ Flow H' f c ∧ But f H H'
  refine ⟨_, (pss_cons (ps_set (i := 2) sc_law_hands.nd rfl (Or.inl rfl) (pe_op op_cat (pe_op op_cat (pe_op op_rep (pe_lst (pa_cons pe_str pa_nil)) (pe_call G_law_pick (hr.mono (by decide)) (by rfl) m_law_pick F_law_pick.kp b_law_pick .nil pass0 (pa_cons (pv 0) (pa_cons pe_int pa_nil)))) (pe_op op_rep (pe_lst (pa_cons pe_str pa_nil)) (pe_call G_law_pick (hr.mono (by decide)) (by rfl) m_law_pick F_law_pick.kp b_law_pick .nil pass0 (pa_cons (pv 0) (pa_cons pe_int pa_nil))))) (pe_op op_rep (pe_lst (pa_cons pe_str pa_nil)) (pv 1))))
      (pss_cons (ps_set (i := 2) sc_law_hands.nd rfl (Or.inl rfl) (pe_call G_law_shuffled (hr.mono (by decide)) (by rfl) m_law_shuffled F_law_shuffled.kp b_law_shuffled .nil pass0 (pa_cons (pv 0) (pa_cons (pv 2) pa_nil))))
      (PSs.to (pss_cons (ps_set (i := 3) sc_law_hands.nd rfl (Or.inl rfl) pe_int)
      (pss_cons (ps_set (i := 4) sc_law_hands.nd rfl (Or.inl rfl) (pe_lst pa_nil))
      (pss_cons (ps_for PassesOwn.never rfl (pi_enum (by rfl) T.m_enumerate (pa_cons (pv 2) pa_nil)) (pg_tupK K rfl rfl (pgs_cons (pg_name (i := 5) sc_law_hands.nd rfl (Or.inl rfl)) (pgs_cons (pg_name (i := 6) sc_law_hands.nd rfl (Or.inl rfl)) pgs_nil)))
        (pss_cons (ps_if (pt_cmpR op_eq (pv 6) pe_str (nomark _)) (pss_cons (ps_set (i := 7) sc_law_hands.nd rfl (Or.inl rfl) (pe_callB (call_len_seqK K rfl) (by rfl) T.m_len (by decide +kernel) (pa_cons (pe_lc (own := [("_law_other", 8)]) (g := gName 8) (by rfl) sc_law_hands.nd (pi_listK K rfl (pe_slice (sl_listK K rfl) (pv 2) (po_some (pe_op op_add (pv 5) pe_int)) po_none)) (blkOk_by (own := [("_law_other", 8)]) (N := N_law_hands) (sc := defScope s_law_hands) (by decide +kernel)) (fun _ _ _ _ _ => (pg_name (i := 8) sc_law_hands.nd rfl (Or.inl rfl))) (fun _ _ _ _ _ => pts_one (pt_cmpR op_ne (pv 8) pe_str (nomark _))) (fun _ _ _ _ _ => (pv 8))) pa_nil)))
      (pss_cons (ps_set (i := 9) sc_law_hands.nd rfl (Or.inl rfl) (pe_call G_law_rule (hr.mono (by decide)) (by rfl) m_law_rule F_law_rule.kp b_law_rule .nil pass0 (pa_cons (pv 0) (pa_cons (pe_op op_sub (pv 3) (pv 7)) pa_nil))))
      (pss_one (ps_expr (pe_bmK K rfl PySem.F.plainAttrs_list PySem.F.slot_list_append PySem.F.type_list_append mt_append (pv 4) (pa_cons (pe_tup (pa_cons (pv 9) (pa_cons (pe_call G_law_pick (hr.mono (by decide)) (by rfl) m_law_pick F_law_pick.kp b_law_pick .nil pass0 (pa_cons (pv 0) (pa_cons (pe_ix (ix_listK K rfl) (pe_lst (pa_cons pe_int (pa_cons pe_int (pa_cons pe_int pa_nil)))) (pe_call G_law_pick (hr.mono (by decide)) (by rfl) m_law_pick F_law_pick.kp b_law_pick .nil pass0 (pa_cons (pv 0) (pa_cons pe_int pa_nil))) (fun _ _ => rfl)) pa_nil))) pa_nil))) pa_nil)))))) (pss_one (ps_expr (pe_bmK K rfl PySem.F.plainAttrs_list PySem.F.slot_list_append PySem.F.type_list_append mt_append (pv 4) (pa_cons (pe_tup (pa_cons (pe_tup (pa_cons (pv 6) pa_nil)) (pa_cons pe_int pa_nil))) pa_nil)))))
      (pss_one (ps_set (i := 3) sc_law_hands.nd rfl (Or.inl rfl) (pe_op op_sub (pv 3) (pe_call G_law_needs (hr.mono (by decide)) (by rfl) m_law_needs F_law_needs.kp b_law_needs .nil pass0 (pa_cons (pe_ix (ix_tupK K rfl) (pe_ix (ix_listK K rfl) (pv 4) (pe_un un_neg pe_int) (fun _ _ => rfl)) pe_int (fun _ _ => rfl)) pa_nil)))))))
      (pss_one (ps_ret (pv 4)))))) R1 ?tail1))), ?_⟩
  case tail1 =>
    rintro D' σ' H1 ⟨eD, sl, ss, rfl, hsl, nsl, hlen, hhand, hall, F1, B1⟩
    refine ⟨(by show 0 ≤ sizeLine; decide), fun hh nhh => ?_⟩
    have I0 : HInv f c sl hh ss H (upd H1 hh (.lst [])) 0 [] [] 20 :=
      { fl := F1.new nhh, bt := B1.new nhh, hsl := same_new nhh _ _ hsl, hhh := upd_same, al := .nil, len := rfl, good := (fun _ h => nomatch h), lf := by have := cnt_le (ss.drop 0); rw [List.length_drop] at this; omega, sum := rfl, nz := (fun _ h => nomatch h), one := (fun h => nomatch h), n1 := nsl, n2 := ne_of_none hsl nhh, n3 := F1.ne nhh, n4 := F1.nec nhh, n5 := B1.none nhh (F1.ne nhh) }
    refine ⟨_, rfl, sl, _, rfl, SqL.of I0.hsl, for_it (n := ss.length) (fun i σ H2 => ∃ (vs : List V) (hs : List HR) (left : Int) (v5 v6 v7 v8 v9 : Option V), σ = [some (.ref f), some (.int m), some (.ref sl), some (.int left), some (.ref hh), v5, v6, v7, v8, v9] ∧ HInv f c sl hh ss H H2 i vs hs left)
      ⟨[], [], 20, none, none, none, none, none, rfl, I0⟩ ?_ ?_ ?_ ?_⟩
    · rintro i σ H2 hi ⟨vs, hs, left, v5, v6, v7, v8, v9, rfl, I⟩
      exact ⟨_, _, SqL.of I.hsl, by rw [List.getElem?_map, List.getElem?_eq_getElem hi]; rfl⟩
    · rintro σ H2 ⟨vs, hs, left, v5, v6, v7, v8, v9, rfl, I⟩
      exact ⟨_, SqL.of I.hsl, by rw [List.length_map]; exact Nat.le_refl _⟩
    · rintro i x σ H2 H3 hi ⟨vs, hs, left, v5, v6, v7, v8, v9, rfl, I⟩ ⟨t, y, rfl, nt, rfl, fy⟩
      have ei : ss[i]? = some ss[i] := List.getElem?_eq_getElem hi
      obtain ⟨sd, hsd⟩ : ∃ sd, sd = ss[i] := ⟨_, rfl⟩
      rw [← hsd] at ei
      have ey : y = V.str sd := by
        have := fy _ (SqL.of I.hsl)
        rw [List.getElem?_map, ei] at this
        exact (Option.some.inj this).symm
      subst ey
      have I1 := I.new (o := .tup [V.int ((i : Nat) : Int), V.str sd]) nt
      have hc1 := cnt_cons ei
      have hl := I.lf
      have sz : vs.length < sizeLine := small1000 (by rw [I.al.length, I.len]; omega)
      refine ⟨t, _, rfl, SqT.of upd_same, rfl, _, _, rfl, _, _, rfl, rfl, ?_⟩
      refine ⟨_, rfl, rfl, _, rfl, if_str (fun e => ?_) (fun e => ?_)⟩
      · -- a hand
        refine ⟨_, rfl, _, rfl, _, _, rfl, rfl, _, rfl, sl, _, rfl, SqL.of I1.hsl, fun cp ncp => ?_⟩
        have I2 := I1.new (o := .lst (cutV (ss.map V.str) (some (((i : Nat) : Int) + 1)) none)) ncp
        have ecut : cutV (ss.map V.str) (some (((i : Nat) : Int) + 1)) none = (ss.drop (i + 1)).map V.str := by
          rw [show ((i : Nat) : Int) + 1 = ((i + 1 : Nat) : Int) by omega, cut_drop, List.map_drop]
        refine ⟨cp, rfl, ⟨_, SqL.of upd_same⟩, fun D nD => lc_list (K := K) (a := cp) (xs := cutV (ss.map V.str) (some (((i : Nat) : Int) + 1)) none) (fun j H5 => ∃ acc : List V, H5 D = some (.lst acc) ∧ acc.length = cnt ((ss.drop (i + 1)).take j) ∧ H5 cp = some (.lst (cutV (ss.map V.str) (some (((i : Nat) : Int) + 1)) none)) ∧ HInv f c sl hh ss H H5 i vs hs left ∧ D ≠ cp ∧ D ≠ f ∧ D ≠ c ∧ D ≠ sl ∧ D ≠ hh ∧ H D = Option.none)
          ⟨[], upd_same, rfl, same_new nD _ _ upd_same, I2.new nD, (ne_of_none upd_same nD).symm, I2.fl.ne nD, I2.fl.nec nD, (ne_of_none I2.hsl nD).symm, (ne_of_none I2.hhh nD).symm, I2.bt.none nD (I2.fl.ne nD)⟩ (fun j H5 _ ⟨_, _, _, h, _⟩ => SqL.of h) ?_ ?_⟩
        · rintro j z H5 hz ⟨acc, hD, hacc, hcp, I5, d1, d2, d3, d4, d5, d6⟩
          rw [ecut, List.getElem?_map] at hz
          cases ez : (ss.drop (i + 1))[j]? with
          | none => rw [ez] at hz; cases hz
          | some so =>
            rw [ez] at hz
            obtain rfl : V.str so = z := Option.some.inj hz
            refine ⟨rfl, _, rfl, rfl, _, rfl, if_bl (fun k => ?_) (fun k => ?_)⟩
            · have k2 : ¬ so = "in" := fun y => by
                rw [y] at k
                exact absurd k (by decide +kernel)
              refine ⟨_, rfl, acc, hD, ?_, acc ++ [V.str so], upd_same, ?_, by rw [upd_ne d1.symm]; exact hcp, ?_, d1, d2, d3, d4, d5, d6⟩
              · rw [hacc]
                have := cnt_le ((ss.drop (i + 1)).take j)
                rw [List.length_take, List.length_drop] at this
                exact small1000 (by omega)
              · rw [List.length_append, hacc, List.take_add_one, ez]
                unfold cnt
                rw [List.filter_append, List.length_append]
                simp [k2]
              · exact { I5 with fl := I5.fl.lst d2 d3, bt := I5.bt.own d6, hsl := by rw [upd_ne d4.symm]; exact I5.hsl, hhh := by rw [upd_ne d5.symm]; exact I5.hhh, al := I5.al.imp fun _ _ y => y.keep (TK.lst hD) }
            · have k2 : so = "in" := by
                by_cases y : so = "in"
                · exact y
                · have k3 : (!decide (V.str so = V.str "in")) = false := k
                  rw [decide_eq_false (fun y2 => y (V.str.inj y2))] at k3
                  cases k3
              refine ⟨acc, hD, ?_, hcp, I5, d1, d2, d3, d4, d5, d6⟩
              rw [hacc, List.take_add_one, ez]
              unfold cnt
              rw [List.filter_append, List.length_append]
              simp [k2]
        · rintro H5 ⟨acc, hD, hacc, hcp, I5, d1, d2, d3, d4, d5, d6⟩
          have hacc2 : acc.length = cnt (ss.drop (i + 1)) := by
            rw [hacc, List.take_of_length_le]
            rw [ecut, List.length_map]
            exact Nat.le_refl _
          have hm0 : 0 ≤ left - ((acc.length : Nat) : Int) := by
            have hne : ¬ sd = "in" := by rw [e]; decide +kernel
            rw [hacc2]
            rw [hc1, if_neg hne] at hl
            omega
          refine ⟨D, _, rfl, .inl (SqL.of hD), ?_⟩
          refine ⟨_, rfl, _, rfl, _, rfl, _, _, rfl, rfl, f, c, _, rfl, hm0, I5.fl, fun r hR H6 hr6 gR n1 n0 mo F6 B6 => ?_⟩
          have I6 := I5.but F6 B6
          refine ⟨_, rfl, .inl ⟨rfl, _, SqL.of I6.hhh⟩, _, rfl, _, rfl, (by show 3 ≤ sizeLine; decide), fun ml nml => ?_⟩
          have I7 := I6.new (o := .lst [V.int 5, V.int 5, V.int 31]) nml
          refine ⟨_, rfl, f, c, 3, rfl, by decide, by decide +kernel, I7.fl, fun z H8 z0 z3 F8 B8 => ?_⟩
          have I8 := I7.but F8 B8
          have hml := B8 _ _ upd_same (I6.fl.ne nml)
          obtain ⟨mm, hmm, mk⟩ : ∃ mm : Int, atI [V.int 5, V.int 5, V.int 31] z = some (.int mm) ∧ (mm = 5 ∨ mm = 31) := by
            have : z = 0 ∨ z = 1 ∨ z = 2 := by omega
            rcases this with rfl | rfl | rfl
            · exact ⟨5, rfl, .inl rfl⟩
            · exact ⟨5, rfl, .inl rfl⟩
            · exact ⟨31, rfl, .inr rfl⟩
          refine ⟨ml, _, _, _, rfl, rfl, SqL.of hml, hmm, f, c, mm, rfl, by omega, (by rcases mk with rfl | rfl <;> decide +kernel), I8.fl, fun mo2 H9 o0 o1 F9 B9 => ?_⟩
          have I9 := I8.but F9 B9
          refine ⟨(by show 2 ≤ sizeLine; decide), fun t2 nt2 => ?_⟩
          have I10 := I9.new (o := .tup [V.ref r, V.int mo2]) nt2
          have sz10 : vs.length < sizeLine := sz
          refine ⟨hh, _, _, rfl, rfl, I10.hhh, sz10, ?_⟩
          have k9 : TK H6 H9 := ((TK.new nml).trans (TK.but I7.fl B8)).trans (TK.but I8.fl B9)
          have hx : HandAt (upd H9 t2 (.tup [V.ref r, V.int mo2])) (V.ref t2) ⟨hR.wd, hR.no, mo2⟩ := ⟨t2, r, rfl, upd_same, TK.new nt2 _ _ (k9 _ _ hr6)⟩
          have gd : GoodHand ⟨hR.wd, hR.no, mo2⟩ := ⟨.inl ⟨gR.wd, gR.no, gR.big⟩, o0, (show mo2 ≤ 30 by omega)⟩
          have nout : hR.wd ≠ "out" := fun y => by
            have := gR.wd
            rw [y] at this
            exact absurd this (by decide +kernel)
          have I11 := I10.step (h := ⟨hR.wd, hR.no, mo2⟩) hx gd n0 (by show needs hR.wd + _ ≤ left; rw [hacc2] at n1; omega) ei (fun _ => nout)
          refine ⟨_, rfl, _, rfl, 1, rfl, hh, _, -1, _, rfl, rfl, SqL.of I11.hhh, atI_last _ _, t2, _, _, _, rfl, rfl, SqT.of (TK.lst I10.hhh _ _ upd_same), atI_nat (j := 0) rfl, r, hR.wd, _, rfl, SqT.of (TK.lst I10.hhh _ _ (TK.new nt2 _ _ (k9 _ _ hr6))), fun H12 s12 => ⟨_, _, rfl, rfl, ?_⟩⟩
          exact ⟨_, _, _, _, _, _, _, _, rfl, I11.same s12⟩
      · -- a door
        refine ⟨_, rfl, .inl ⟨rfl, _, SqL.of I1.hhh⟩, _, rfl, (by show 1 ≤ sizeLine; decide), fun r nr => ⟨(by show 2 ≤ sizeLine; decide), fun t2 nt2 => ?_⟩⟩
        have I2 := (I1.new (o := .tup [V.str sd]) nr).new (o := .tup [V.ref r, V.int 0]) nt2
        refine ⟨hh, _, _, rfl, rfl, I2.hhh, sz, ?_⟩
        have hsd2 : sd = "in" ∨ sd = "out" := by
          rcases hall sd (List.mem_of_getElem? ei) with y | y | y
          · exact .inl y
          · exact .inr y
          · exact absurd y e
        have hn : needs sd = (if sd = "in" then 0 else 1) := by
          rcases hsd2 with y | y <;> rw [y] <;> decide +kernel
        have hx : HandAt (upd (upd (upd H2 t (.tup [V.int ((i : Nat) : Int), V.str sd])) r (.tup [V.str sd])) t2 (.tup [V.ref r, V.int 0])) (V.ref t2) ⟨sd, none, 0⟩ := ⟨t2, r, rfl, upd_same, same_new nt2 _ _ upd_same⟩
        have I3 := I2.step (h := ⟨sd, none, 0⟩) hx ⟨.inr ⟨hsd2, rfl⟩, (show (0 : Int) ≤ 0 by decide), (show (0 : Int) ≤ 30 by decide)⟩ (by show 0 ≤ needs sd; rw [hn]; split <;> decide) (by
          show needs sd + _ ≤ left
          rw [hn]
          rw [hc1] at hl
          by_cases y : sd = "in"
          · rw [if_pos y] at hl ⊢; omega
          · rw [if_neg y] at hl ⊢; omega) ei (fun y => absurd y e)
        refine ⟨_, rfl, _, rfl, 1, rfl, hh, _, -1, _, rfl, rfl, SqL.of I3.hhh, atI_last _ _, t2, _, _, _, rfl, rfl, SqT.of (TK.lst I2.hhh _ _ upd_same), atI_nat (j := 0) rfl, r, sd, _, rfl, SqT.of (TK.lst I2.hhh _ _ (same_new nt2 _ _ upd_same)), fun H12 s12 => ⟨_, _, rfl, rfl, ?_⟩⟩
        exact ⟨_, _, _, _, _, _, _, _, rfl, I3.same s12⟩
    · rintro σ H2 ⟨vs, hs, left, v5, v6, v7, v8, v9, rfl, I⟩
      refine ⟨_, rfl, ?_⟩
      rw [eD]
      refine q hh vs hs H2 I.n5 I.hhh I.al ⟨by rw [I.len]; exact hlen, I.good, ?_, I.nz, I.one (by rw [List.take_length]; exact hhand)⟩ I.fl I.bt
      have := I.sum
      have := I.lf
      omega
  refine ⟨(by show 1 ≤ sizeLine; decide), fun l1 nl1 => ?_⟩
  refine ⟨_, rfl, f, c, 3, rfl, by decide, by decide +kernel, hF.new nl1, fun v1 H1 a1 b1 F1 B1 => ?_⟩
  have g1 := B1 _ _ upd_same (hF.ne nl1)
  have small : ∀ v : Int, 0 ≤ v → v ≤ 8 → [V.str "in"].length * v.toNat ≤ sizeLine := fun v v0 v8 => little (by show 1 * v.toNat ≤ 1000; omega)
  refine ⟨l1, v1, _, rfl, rfl, g1, by omega, by omega, small v1 a1 (by omega), fun p1 np1 => ?_⟩
  rw [flat_rep]
  have F2 := F1.new (o := .lst (List.replicate v1.toNat (V.str "in"))) np1
  refine ⟨(by show 1 ≤ sizeLine; decide), fun l2 nl2 => ?_⟩
  refine ⟨_, rfl, f, c, 3, rfl, by decide, by decide +kernel, F2.new nl2, fun v2 H3 a2 b2 F3 B3 => ?_⟩
  have g2 := B3 _ _ upd_same (F2.ne nl2)
  have h1 := B3 _ _ (same_new nl2 _ _ upd_same) (F1.ne np1)
  refine ⟨l2, v2, _, rfl, rfl, g2, by omega, by omega, small v2 a2 (by omega), fun p2 np2 => ?_⟩
  rw [flat_rep]
  have F4 := F3.new (o := .lst (List.replicate v2.toNat (V.str "out"))) np2
  refine ⟨p1, p2, _, _, rfl, rfl, same_new np2 _ _ h1, upd_same, ?_, fun p3 np3 => ?_⟩
  · rw [List.length_replicate, List.length_replicate]; exact little (by omega)
  have F5 := F4.new (o := .lst (List.replicate v1.toNat (V.str "in") ++ List.replicate v2.toNat (V.str "out"))) np3
  refine ⟨(by show 1 ≤ sizeLine; decide), fun l4 nl4 => ⟨_, rfl, l4, m, _, rfl, rfl, upd_same, by omega, by omega, small m (by omega) m8, fun p5 np5 => ?_⟩⟩
  rw [flat_rep]
  have F6 := F5.new (o := .lst [V.str "hand"]) nl4
  have F7 := F6.new (o := .lst (List.replicate m.toNat (V.str "hand"))) np5
  refine ⟨p3, p5, _, _, rfl, rfl, same_new np5 _ _ (same_new nl4 _ _ upd_same), upd_same, ?_, fun p6 np6 => ?_⟩
  · rw [List.length_append, List.length_replicate, List.length_replicate, List.length_replicate]; exact little (by omega)
  refine ⟨_, rfl, _, rfl, f, c, p6, _, rfl, SqL.of upd_same, F7.ne np6, ?_, F7.new np6, fun p ys H8 hp np hy F8 B8 => ?_⟩
  · rw [List.length_append, List.length_append, List.length_replicate, List.length_replicate, List.length_replicate]; omega
  have ez : (List.replicate v1.toNat (V.str "in") ++ List.replicate v2.toNat (V.str "out")) ++ List.replicate m.toNat (V.str "hand") = ((List.replicate v1.toNat ("in" : Str) ++ List.replicate v2.toNat ("out" : Str)) ++ List.replicate m.toNat ("hand" : Str)).map V.str := by
    rw [List.map_append, List.map_append, List.map_replicate, List.map_replicate, List.map_replicate]
  rw [ez] at hp
  obtain ⟨ss, rfl, hss⟩ := perm_strs hp
  have pf : p ≠ f := fun y => by
    rw [y] at np
    obtain ⟨_, _, _, _, _, e1, _⟩ := F7.new (o := .lst ((List.replicate v1.toNat (V.str "in") ++ List.replicate v2.toNat (V.str "out")) ++ List.replicate m.toNat (V.str "hand"))) np6
    rw [e1] at np
    cases np
  refine ⟨rfl, p, ss, rfl, hy, pf, ?_, ?_, ?_, F8, But.trans ((((((((((But.refl.new nl1).trans B1).new np1).new nl2).trans B3).new np2).new np3).new nl4).new np5).new np6) B8⟩
  · rw [hss.length_eq, List.length_append, List.length_append, List.length_replicate, List.length_replicate, List.length_replicate]; omega
  · refine hss.mem_iff.mpr (List.mem_append_right _ (List.mem_replicate.mpr ⟨by omega, rfl⟩))
  · intro s hs
    rcases List.mem_append.mp (hss.mem_iff.mp hs) with hs | hs
    · rcases List.mem_append.mp hs with hs | hs
      · exact .inl (List.mem_replicate.mp hs).2
      · exact .inr (.inl (List.mem_replicate.mp hs).2)
    · exact .inr (.inr (List.mem_replicate.mp hs).2)
end
/-! ### rules as data -/
abbrev ruleD (h : HR) : List PyData := .str h.wd :: (match h.no with | none => [] | some n => [.int n])
theorem rule_dp {K : PySem.W.Frag} {H : Hp} {r : Addr} {h : HR} (e : H r = some (.tup (ruleL h))) : Dp K H (.ref r) (.tuple (ruleD h)) := by
  obtain ⟨wd, no, mom⟩ := h
  cases no with
  | none => exact .tup (SqT.of e) (.cons (.str _) .nil)
  | some n => exact .tup (SqT.of e) (.cons (.str _) (.cons (.int _) .nil))
theorem rule_shaped {h : HR} (k : PyData.canLay0 (.str h.wd) = true) : SeqAt.shaped (.tuple (ruleD h)) = true := by
  obtain ⟨wd, no, mom⟩ := h
  have k : PyData.canLay0 (.str wd) = true := k
  cases no <;> simp [SeqAt.shaped, PyData.canLay0, PyData.canLayAll0, PyData.depth, PyData.depthAll] <;> simpa [PyData.canLay0] using k
theorem GoodHand.lay {h : HR} (g : GoodHand h) : PyData.canLay0 (.str h.wd) = true := by
  have : h.wd ∈ nine ∨ h.wd = "in" ∨ h.wd = "out" := g.1.elim (fun k => .inl k.wd) (fun k => .inr k.1)
  rcases this with k | k | k
  · unfold nine at k
    simp only [List.mem_cons, List.not_mem_nil, or_false] at k
    rcases k with k | k | k | k | k | k | k | k | k <;> rw [k] <;> decide +kernel
  · rw [k]; decide +kernel
  · rw [k]; decide +kernel
theorem one_shaped {z : Str} (k : PyData.canLay0 (.str z) = true) : SeqAt.shaped (.tuple [.str z]) = true := rule_shaped (h := ⟨z, none, 0⟩) k
theorem at0 {xs : List V} {i : Nat} {v : V} (h : xs[i]? = some v) : atI xs (0 + ((i : Nat) : Int)) = some v := by
  rw [Int.zero_add]
  exact atI_nat h
theorem rule_eqv (h : HR) (z : Str) : PyData.eqv (.tuple (ruleD h)) (.tuple [.str z]) = (decide (h.wd = z) && h.no.isNone) := by
  obtain ⟨wd, no, mom⟩ := h
  have e : (wd == z) = decide (wd = z) := by
    by_cases k : wd = z
    · rw [k, decide_eq_true rfl]; exact beq_self_eq_true z
    · rw [decide_eq_false k]; exact beq_eq_false_iff_ne.mpr k
  cases no with
  | none =>
    show (wd == z && true) = (decide (wd = z) && true)
    rw [e]
  | some n =>
    show (wd == z && false) = (decide (wd = z) && false)
    rw [Bool.and_false, Bool.and_false]
theorem GoodHand.door {h : HR} (g : GoodHand h) (z : Str) (hz : z = "in" ∨ z = "out") : (decide (h.wd = z) && h.no.isNone) = decide (h.wd = z) := by
  by_cases k : h.wd = z
  · rw [decide_eq_true k, Bool.true_and]
    rcases g.1 with g | g
    · have := g.wd
      rw [k] at this
      rcases hz with rfl | rfl <;> exact absurd this (by decide +kernel)
    · rw [g.2]; rfl
  · rw [decide_eq_false k]; rfl
/-! ### numbers in lists -/
abbrev nV (n : Nat) : V := .int (n : Nat)
def unN : V → Nat
  | .int i => i.toNat
  | _ => 0
def unI : V → Int
  | .int i => i
  | _ => 0
theorem perm_inv {α : Type} {f : α → V} {g : V → α} (k : ∀ a, g (f a) = a) {ys : List V} {zs : List α} (h : ys.Perm (zs.map f)) : ∃ ss : List α, ys = ss.map f ∧ ss.Perm zs := by
  refine ⟨ys.map g, ?_, ?_⟩
  · rw [List.map_map]
    symm
    refine (List.map_congr_left (g := id) fun y hy => ?_).trans (List.map_id _)
    obtain ⟨z, _, e⟩ := List.mem_map.mp (h.mem_iff.mp hy)
    subst e
    show f (g (f z)) = f z
    rw [k]
  · have q := h.map g
    rw [List.map_map] at q
    have e : zs.map (g ∘ f) = zs := (List.map_congr_left (g := id) fun z _ => k z).trans (List.map_id _)
    rw [e] at q
    exact q
def nd (hs : List HR) (j : Nat) : Nat := match hs[j]? with | some h => (needs h.wd).toNat | none => 0
def tkTo (hs : List HR) : Nat → List Nat
  | 0 => []
  | n + 1 => tkTo hs n ++ List.replicate (nd hs n) n
theorem tk_count (hs : List HR) (k : Nat) : ∀ n, (tkTo hs n).count k = if k < n then nd hs k else 0
  | 0 => by simp [tkTo]
  | n + 1 => by
    unfold tkTo
    rw [List.count_append, tk_count hs k n, List.count_replicate]
    by_cases h1 : k < n
    · have h2 : ¬ (n == k) = true := by simp; omega
      rw [if_pos h1, if_neg h2, if_pos (show k < n + 1 by omega), Nat.add_zero]
    · by_cases h2 : n = k
      · subst h2
        rw [if_neg h1, if_pos (beq_self_eq_true n), if_pos (show n < n + 1 by omega), Nat.zero_add]
      · have h3 : ¬ (n == k) = true := by simpa using h2
        rw [if_neg h1, if_neg h3, if_neg (show ¬ k < n + 1 by omega)]
theorem tk_mem (hs : List HR) : ∀ n k, k ∈ tkTo hs n → k < n
  | 0, k, h => nomatch h
  | n + 1, k, h => by
    rcases List.mem_append.mp h with h | h
    · exact Nat.lt_succ_of_lt (tk_mem hs n k h)
    · rw [(List.mem_replicate.mp h).2]; exact Nat.lt_succ_self n
theorem tk_len (hs : List HR) (z : ∀ h ∈ hs, 0 ≤ needs h.wd) : ∀ n, n ≤ hs.length → ((tkTo hs n).length : Int) = ((hs.take n).map fun h => needs h.wd).sum
  | 0, _ => rfl
  | n + 1, hn => by
    have e : hs[n]? = some hs[n] := List.getElem?_eq_getElem (by omega)
    unfold tkTo
    rw [List.length_append, List.length_replicate, List.take_add_one, e, List.map_append, List.sum_append, Int.natCast_add, tk_len hs z n (by omega)]
    unfold nd
    rw [e]
    have := z hs[n] (List.getElem_mem _)
    simp only [Option.toList, List.map_cons, List.map_nil, List.sum_cons, List.sum_nil]
    omega
structure RoomOk (hs : List HR) (bs : List BR) : Prop where
  hands : hs.length ≤ 12
  good : ∀ h ∈ hs, GoodHand h
  ends : ∀ b ∈ bs, b.one < hs.length ∧ b.to < hs.length
  out : ∀ b ∈ bs, ∀ h, hs[b.one]? = some h → h.wd ≠ "out"
  th : ∀ b ∈ bs, b.th.length ≤ 6 ∧ True
  rank : ∃ rk : Nat → Int, ∀ b ∈ bs, b.th = [] → rk b.one < rk b.to
  count : ∀ k h, hs[k]? = some h → (((bs.map BR.to).count k : Nat) : Int) = needs h.wd
  many : bs.length ≤ 20
structure RoomAt (H : Hp) (r : Addr) (hs : List HR) (bs : List BR) : Prop where
  ex : ∃ (ha ba : Addr) (hv bv : List V), H r = some (.tup [.ref ha, .ref ba]) ∧ H ha = some (.tup hv) ∧ H ba = some (.tup bv) ∧ All2 (HandAt H) hv hs ∧ All2 (BeltAt H) bv bs
theorem RoomAt.keep {H H' : Hp} {r : Addr} {hs : List HR} {bs : List BR} (a : RoomAt H r hs bs) (k : TK H H') : RoomAt H' r hs bs := by
  obtain ⟨ha, ba, hv, bv, e1, e2, e3, a1, a2⟩ := a.ex
  exact ⟨ha, ba, hv, bv, k _ _ e1, k _ _ e2, k _ _ e3, a1.imp fun _ _ z => z.keep k, a2.imp fun _ _ z => z.keep k⟩
section
variable {P : Program} {w : World} {K : PySem.W.Frag} {mg : Str → Option Value} {base : Heap}
def sp_law_room (K : PySem.W.Frag) : Sp := fun vs H Q _ => ∃ (f c : Addr) (m : Int), vs = [.ref f, .int m] ∧ 1 ≤ m ∧ m ≤ 8 ∧ Flow H f c ∧
  ∀ (r : Addr) (hs : List HR) (bs : List BR) (H' : Hp), RoomAt H' r hs bs → RoomOk hs bs → Flow H' f c → But f H H' → Q (.ref r) H'
/-- what stands while a room is drawn: the draws, the list of its hands -/
structure RI (f c hh : Addr) (H0 H : Hp) (xs : List V) (hs : List HR) : Prop where
  fl : Flow H f c
  bt : But f H0 H
  lh : H hh = some (.lst xs)
  al : All2 (HandAt H) xs hs
  n1 : hh ≠ f
  n2 : H0 hh = none
section
variable {f c hh : Addr} {H0 H H' : Hp} {xs : List V} {hs : List HR}
theorem RI.but (s : RI f c hh H0 H xs hs) (F : Flow H' f c) (b : But f H H') : RI f c hh H0 H' xs hs :=
  { s with fl := F, bt := s.bt.trans b, lh := b _ _ s.lh s.n1, al := s.al.imp fun _ _ k => k.keep (TK.but s.fl b) }
theorem RI.new {p : Addr} {o : HO} (s : RI f c hh H0 H xs hs) (n : H p = none) : RI f c hh H0 (upd H p o) xs hs :=
  { s with fl := s.fl.new n, bt := s.bt.new n, lh := same_new n _ _ s.lh, al := s.al.imp fun _ _ k => k.keep (TK.new n) }
theorem RI.same (s : RI f c hh H0 H xs hs) (k : Same H H') : RI f c hh H0 H' xs hs :=
  { s with fl := s.fl.same k, bt := s.bt.same k, lh := k _ _ s.lh, al := s.al.imp fun _ _ z => z.keep (TK.same k) }
theorem RI.lst {D : Addr} {as bs : List V} (s : RI f c hh H0 H xs hs) (h : H D = some (.lst as)) (d1 : D ≠ f) (d2 : D ≠ c) (d3 : D ≠ hh) (d4 : H0 D = none) : RI f c hh H0 (upd H D (.lst bs)) xs hs :=
  { s with fl := s.fl.lst d1 d2, bt := s.bt.own d4, lh := by rw [upd_ne d3.symm]; exact s.lh, al := s.al.imp fun _ _ z => z.keep (TK.lst h) }
end
theorem ok_law_room {f : Addr} {fd : FuncData} (F : Fun K "_law_room" "_law_room" s_law_room f fd) {C : Addr} (T : Top K mg C) : FnOk P w K mg base CX0 5 f fd ["_law_flow_here", "_law_most"] (sp_law_room K) := by
  obtain ⟨f_law_hands, fd_law_hands, F_law_hands, b_law_hands, m_law_hands⟩ := T.d_law_hands
  have G_law_hands := ok_law_hands (P := P) (w := w) (base := base) F_law_hands T
  obtain ⟨f_law_shuffled, fd_law_shuffled, F_law_shuffled, b_law_shuffled, m_law_shuffled⟩ := T.d_law_shuffled
  have G_law_shuffled := ok_law_shuffled (P := P) (w := w) (base := base) F_law_shuffled T
  obtain ⟨f_law_pick, fd_law_pick, F_law_pick, b_law_pick, m_law_pick⟩ := T.d_law_pick
  have G_law_pick := ok_law_pick (P := P) (w := w) (base := base) F_law_pick T
  obtain ⟨f_law_needs, fd_law_needs, F_law_needs, b_law_needs, m_law_needs⟩ := T.d_law_needs
  have G_law_needs := ok_law_needs (P := P) (w := w) (base := base) F_law_needs T
  obtain ⟨f_law_thing, fd_law_thing, F_law_thing, b_law_thing, m_law_thing⟩ := T.d_law_thing
  have G_law_thing := ok_law_thing (P := P) (w := w) (base := base) F_law_thing T
  refine F.ok sc_law_room (fun vs H Q E h => ?_) (fun cdv A outer s H vs Q E hr h => ?_)
  · obtain ⟨f, c, m, rfl, _⟩ := h
    rfl
  obtain ⟨f, c, m, rfl, m1, m8, hF, q⟩ := h
  have hm9 : m.natAbs.log2 < 9000 := by
    obtain ⟨j, rfl⟩ : ∃ j : Nat, m = (j : Int) := ⟨m.toNat, by omega⟩
    exact log_small (by omega)
  let R1 : TS := fun D' σ' H' => D'.rt = Q ∧ ∃ (hh rk gv : Addr) (xs : List V) (hs : List HR) (is : List Int) (gs : List Nat), σ' = [some (.ref f), some (.int m), some (.ref hh), some (.ref rk), some (.ref gv), none, none, none, none, none, none] ∧ RI f c hh H H' xs hs ∧ HandsOk hs ∧ H' rk = some (.lst (is.map V.int)) ∧ is.length = hs.length ∧ H' gv = some (.lst (gs.map nV)) ∧ gs ≠ [] ∧ gs.length ≤ 12 ∧ (∀ k ∈ gs, ∃ h, hs[k]? = some h ∧ h.wd ≠ "out") ∧ rk ≠ f ∧ gv ≠ f
  let R2 : TS := fun D' σ' H' => D'.rt = Q ∧ ∃ (hh rk gv tk : Addr) (xs : List V) (hs : List HR) (is : List Int) (gs ts : List Nat) (v5 : Option V), σ' = [some (.ref f), some (.int m), some (.ref hh), some (.ref rk), some (.ref gv), v5, some (.ref tk), none, none, none, none] ∧ RI f c hh H H' xs hs ∧ HandsOk hs ∧ H' rk = some (.lst (is.map V.int)) ∧ is.length = hs.length ∧ H' gv = some (.lst (gs.map nV)) ∧ gs ≠ [] ∧ gs.length ≤ 12 ∧ (∀ k ∈ gs, ∃ h, hs[k]? = some h ∧ h.wd ≠ "out") ∧ rk ≠ f ∧ gv ≠ f ∧ tk ≠ f ∧ H' tk = some (.lst (ts.map nV)) ∧ ts = tkTo hs hs.length
  refine ⟨_, (pss_cons (ps_set (i := 2) sc_law_room.nd rfl (Or.inr rfl) (pe_call G_law_hands (hr.mono (by decide)) (by rfl) m_law_hands F_law_hands.kp b_law_hands .nil pass0 (pa_cons (pv 0) (pa_cons (pe_op op_add pe_int (pe_call G_law_pick (hr.mono (by decide)) (by rfl) m_law_pick F_law_pick.kp b_law_pick .nil pass0 (pa_cons (pv 0) (pa_cons (pv 1) pa_nil)))) pa_nil))))
      (pss_cons (ps_set (i := 3) sc_law_room.nd rfl (Or.inl rfl) (pe_call G_law_shuffled (hr.mono (by decide)) (by rfl) m_law_shuffled F_law_shuffled.kp b_law_shuffled .nil pass0 (pa_cons (pv 0) (pa_cons (pe_listRg rfl (by rfl) T.m_list (prg_1 (by rfl) T.m_range (pe_callB (call_len_seqK K rfl) (by rfl) T.m_len (by decide +kernel) (pa_cons (pv 2) pa_nil)))) pa_nil))))
      (pss_cons (ps_setLc (i := 4) (own := [("_law_k", 5)]) (g := gName 5) (by rfl) sc_law_room.nd rfl rfl (sw_true rfl rfl rfl (by decide +kernel)) (pi_range1 (by rfl) T.m_range (pa_cons (pe_callB (call_len_seqK K rfl) (by rfl) T.m_len (by decide +kernel) (pa_cons (pv 2) pa_nil)) pa_nil)) (blkOk_by (own := [("_law_k", 5)]) (N := N_law_room) (sc := defScope s_law_room) (by decide +kernel)) (fun _ _ _ _ _ => (pg_name (i := 5) sc_law_room.nd rfl (Or.inl rfl))) (fun _ _ _ _ _ => pts_one (pt_cmpR (op_neDK K rfl hr.units) (pe_ix (ix_tupK K rfl) (pe_ix (ix_listK K rfl) (pv 2) (pv 5) (fun _ _ => rfl)) pe_int (fun _ _ => rfl)) (pe_tup (pa_cons pe_str pa_nil)) (nomark _))) (fun _ _ _ _ _ => (pv 5)))
      (PSs.to (pss_cons (ps_set (i := 6) sc_law_room.nd rfl (Or.inl rfl) (pe_lst pa_nil))
      (pss_cons (ps_for PassesOwn.never rfl (pi_range1 (by rfl) T.m_range (pa_cons (pe_callB (call_len_seqK K rfl) (by rfl) T.m_len (by decide +kernel) (pa_cons (pv 2) pa_nil)) pa_nil)) (pg_name (i := 5) sc_law_room.nd rfl (Or.inl rfl))
        (pss_one (ps_set (i := 6) sc_law_room.nd rfl (Or.inl rfl) (pe_op op_cat (pv 6) (pe_op op_rep (pe_lst (pa_cons (pv 5) pa_nil)) (pe_call G_law_needs (hr.mono (by decide)) (by rfl) m_law_needs F_law_needs.kp b_law_needs .nil pass0 (pa_cons (pe_ix (ix_tupK K rfl) (pe_ix (ix_listK K rfl) (pv 2) (pv 5) (fun _ _ => rfl)) pe_int (fun _ _ => rfl)) pa_nil)))))))
      (PSs.to (pss_cons (ps_set (i := 7) sc_law_room.nd rfl (Or.inl rfl) (pe_lst pa_nil))
      (pss_cons (ps_for PassesOwn.never rfl (pi_listK K rfl (pe_call G_law_shuffled (hr.mono (by decide)) (by rfl) m_law_shuffled F_law_shuffled.kp b_law_shuffled .nil pass0 (pa_cons (pv 0) (pa_cons (pv 6) pa_nil)))) (pg_name (i := 8) sc_law_room.nd rfl (Or.inl rfl))
        (pss_cons (ps_set (i := 9) sc_law_room.nd rfl (Or.inl rfl) (pe_ix (ix_listK K rfl) (pv 4) (pe_call G_law_pick (hr.mono (by decide)) (by rfl) m_law_pick F_law_pick.kp b_law_pick .nil pass0 (pa_cons (pv 0) (pa_cons (pe_callB (call_len_seqK K rfl) (by rfl) T.m_len (by decide +kernel) (pa_cons (pv 4) pa_nil)) pa_nil))) (fun _ _ => rfl)))
      (pss_cons (ps_set (i := 10) sc_law_room.nd rfl (Or.inl rfl) (pe_ix (ix_listK K rfl) (pe_lst (pa_cons pe_int (pa_cons pe_int (pa_cons pe_int (pa_cons pe_int (pa_cons pe_int (pa_cons pe_int (pa_cons pe_int (pa_cons pe_int pa_nil))))))))) (pe_call G_law_pick (hr.mono (by decide)) (by rfl) m_law_pick F_law_pick.kp b_law_pick .nil pass0 (pa_cons (pv 0) (pa_cons pe_int pa_nil))) (fun _ _ => rfl)))
      (pss_cons (ps_if (pt_cmpR op_ge (pe_ix (ix_listK K rfl) (pv 3) (pv 9) (fun _ _ => rfl)) (pe_ix (ix_listK K rfl) (pv 3) (pv 8) (fun _ _ => rfl)) (nomark _)) (pss_one (ps_set (i := 10) sc_law_room.nd rfl (Or.inl rfl) (pe_callB (call_max2 rfl) (by rfl) T.m_max (by decide +kernel) (pa_cons pe_int (pa_cons (pv 10) pa_nil))))) pss_nil)
      (pss_one (ps_expr (pe_bmK K rfl PySem.F.plainAttrs_list PySem.F.slot_list_append PySem.F.type_list_append mt_append (pv 7) (pa_cons (pe_tup (pa_cons (pv 9) (pa_cons (pv 8) (pa_cons (pe_callTy (call_tuple_ofK K rfl) (by rfl) T.m_tuple (by decide +kernel) (pa_cons (pe_lc (own := [("_law_k", 5)]) (g := gName 5) (tt := tYes) (by rfl) sc_law_room.nd (pi_range1 (by rfl) T.m_range (pa_cons (pv 10) pa_nil)) (blkOk_by (own := [("_law_k", 5)]) (N := N_law_room) (sc := defScope s_law_room) (by decide +kernel)) (fun _ _ _ _ _ => (pg_name (i := 5) sc_law_room.nd rfl (Or.inl rfl))) (fun _ _ _ _ _ => pts_nil) (fun _ _ _ _ _ => (pe_call G_law_thing (hr.mono (by decide)) (by rfl) m_law_thing F_law_thing.kp b_law_thing .nil pass0 (pa_cons (pv 0) pa_nil)))) pa_nil)) pa_nil)))) pa_nil))))))))
      (pss_one (ps_ret (pe_tup (pa_cons (pe_callTy (call_tuple_ofK K rfl) (by rfl) T.m_tuple (by decide +kernel) (pa_cons (pv 2) pa_nil)) (pa_cons (pe_callTy (call_tuple_ofK K rfl) (by rfl) T.m_tuple (by decide +kernel) (pa_cons (pv 7) pa_nil)) pa_nil))))))) R2 ?tail2))) R1 ?tail1)))), ?_⟩
  case tail2 =>
    rintro D' σ' H1 ⟨eD, hh, rk, gv, tk, xs, hs, is, gs, ts, v5, rfl, I1, ok, hrk, lis, hgv, gne, glen, gok, nrk, ngv, ntk, htk, ets⟩
    have hx : xs.length = hs.length := I1.al.length
    have len12 := ok.len
    have lts : ts.length ≤ 20 := by
      have a := tk_len hs ok.nz hs.length (Nat.le_refl _)
      rw [List.take_length, ← ets] at a
      have := ok.sum
      omega
    refine ⟨(by show 0 ≤ sizeLine; decide), fun bl nbl => ?_⟩
    have I2 := I1.new (o := .lst []) nbl
    refine ⟨_, rfl, _, rfl, f, c, tk, _, rfl, SqL.of (same_new nbl _ _ htk), ntk, by rw [List.length_map]; omega, I2.fl, fun sh ys H3 hp nsh hsh F3 B3 => ?_⟩
    obtain ⟨tt, rfl, htt⟩ := perm_inv (f := nV) (g := unN) (fun n => by show ((n : Nat) : Int).toNat = n; omega) hp
    have I3 := I2.but F3 B3
    have bf : bl ≠ f := I1.fl.ne nbl
    have bc : bl ≠ c := I1.fl.nec nbl
    have hbl3 := B3 _ _ upd_same bf
    have bsh : bl ≠ sh := fun e => by rw [← e, upd_same] at nsh; cases nsh
    have bnone : H bl = Option.none := I1.bt.none nbl bf
    have rank : Nat → Int := fun k => is.getD k 0
    refine ⟨sh, rfl, ⟨_, SqL.of hsh⟩, for_list (K := K) (a := sh) (xs := tt.map nV) (fun i σ H4 => ∃ (bv : List V) (bs : List BR) (v5 v8 v9 v10 : Option V), σ = [some (.ref f), some (.int m), some (.ref hh), some (.ref rk), some (.ref gv), v5, some (.ref tk), some (.ref bl), v8, v9, v10] ∧ RI f c hh H H4 xs hs ∧ H4 rk = some (.lst (is.map V.int)) ∧ H4 gv = some (.lst (gs.map nV)) ∧ H4 sh = some (.lst (tt.map nV)) ∧ H4 bl = some (.lst bv) ∧ All2 (BeltAt H4) bv bs ∧ bs.map BR.to = tt.take i ∧
        (∀ b ∈ bs, b.one < hs.length ∧ (∀ h, hs[b.one]? = some h → h.wd ≠ "out") ∧ b.th.length ≤ 6 ∧ (∀ x ∈ b.th, Small x) ∧ (b.th = [] → is.getD b.one 0 < is.getD b.to 0)))
      ⟨[], [], v5, none, none, none, rfl, I3, B3 _ _ (same_new nbl _ _ hrk) nrk, B3 _ _ (same_new nbl _ _ hgv) ngv, hsh, hbl3, .nil, rfl, (fun _ h => nomatch h)⟩ (fun i σ H4 _ ⟨_, _, _, _, _, _, _, _, _, _, h, _⟩ => SqL.of h) ?_ ?_⟩
    · rintro i y σ H4 hi ⟨bv, bs, v5, v8, v9, v10, rfl, I4, hrk4, hgv4, hsh4, hbl4, al, em, hb⟩
      rw [List.getElem?_map] at hi
      cases et : tt[i]? with
      | none => rw [et] at hi; cases hi
      | some to =>
      rw [et] at hi
      obtain rfl : nV to = y := Option.some.inj hi
      have toL : to < hs.length := tk_mem hs _ _ (by rw [← ets]; exact htt.mem_iff.mp (List.mem_of_getElem? et))
      have il : i < 20 := by have := (List.getElem?_eq_some_iff.mp et).1; rw [htt.length_eq] at this; omega
      have lb : bs.length = i := by
        have := congrArg List.length em
        rw [List.length_map, List.length_take, Nat.min_eq_left (Nat.le_of_lt (List.getElem?_eq_some_iff.mp et).1)] at this
        exact this
      have g0 : 0 < gs.length := List.length_pos_iff.mpr gne
      refine ⟨_, rfl, _, rfl, _, rfl, gv, _, rfl, .inl (SqL.of hgv4), f, c, _, rfl, (by rw [List.length_map]; omega), (by rw [List.length_map]; exact log_small (by omega)), I4.fl, fun z H5 z0 z1 F5 B5 => ?_⟩
      rw [List.length_map] at z1
      have I5 := I4.but F5 B5
      have hgv5 := B5 _ _ hgv4 ngv
      obtain ⟨one, eo, ho⟩ : ∃ one, atI (gs.map nV) z = some (nV one) ∧ one ∈ gs := by
        have hk : z.toNat < gs.length := by omega
        have ek : z = ((z.toNat : Nat) : Int) := by omega
        refine ⟨gs[z.toNat], ?_, List.getElem_mem _⟩
        have q2 : atI (gs.map nV) ((z.toNat : Nat) : Int) = some (nV gs[z.toNat]) := atI_nat (by rw [List.getElem?_map, List.getElem?_eq_getElem hk]; rfl)
        rw [← ek] at q2
        exact q2
      obtain ⟨ho1, eh1, hout⟩ := gok one ho
      have oneL : one < hs.length := (List.getElem?_eq_some_iff.mp eh1).1
      refine ⟨gv, _, _, _, rfl, rfl, SqL.of hgv5, eo, ?_⟩
      refine ⟨(by show 8 ≤ sizeLine; decide), fun tl ntl => ?_⟩
      have I6 := I5.new (o := .lst [V.int 0, V.int 0, V.int 0, V.int 1, V.int 1, V.int 2, V.int 3, V.int 6]) ntl
      refine ⟨_, rfl, f, c, 8, rfl, by decide, by decide +kernel, I6.fl, fun y2 H7 y0 y8 F7 B7 => ?_⟩
      have I7 := I6.but F7 B7
      have htl := B7 _ _ upd_same (I5.fl.ne ntl)
      obtain ⟨tr, htr, tr0, tr6⟩ : ∃ tr : Int, atI [V.int 0, V.int 0, V.int 0, V.int 1, V.int 1, V.int 2, V.int 3, V.int 6] y2 = some (.int tr) ∧ 0 ≤ tr ∧ tr ≤ 6 := by
        have : y2 = 0 ∨ y2 = 1 ∨ y2 = 2 ∨ y2 = 3 ∨ y2 = 4 ∨ y2 = 5 ∨ y2 = 6 ∨ y2 = 7 := by omega
        rcases this with rfl | rfl | rfl | rfl | rfl | rfl | rfl | rfl
        · exact ⟨0, rfl, by decide, by decide⟩
        · exact ⟨0, rfl, by decide, by decide⟩
        · exact ⟨0, rfl, by decide, by decide⟩
        · exact ⟨1, rfl, by decide, by decide⟩
        · exact ⟨1, rfl, by decide, by decide⟩
        · exact ⟨2, rfl, by decide, by decide⟩
        · exact ⟨3, rfl, by decide, by decide⟩
        · exact ⟨6, rfl, by decide, by decide⟩
      refine ⟨tl, _, _, _, rfl, rfl, SqL.of htl, htr, ?_⟩
      have k7 : But f H4 H7 := (B5.new ntl).trans B7
      have hrk7 := k7 _ _ hrk4 nrk
      have hgv7 := k7 _ _ hgv4 ngv
      have shf : sh ≠ f := fun e => by rw [e] at nsh; obtain ⟨_, _, _, _, _, e1, _⟩ := I2.fl; rw [e1] at nsh; cases nsh
      have hsh7 := k7 _ _ hsh4 shf
      have hbl7 := k7 _ _ hbl4 bf
      have tk7 : TK H4 H7 := (TK.but I4.fl B5).trans ((TK.new ntl).trans (TK.but I6.fl B7))
      have al7 : All2 (BeltAt H7) bv bs := al.imp fun _ _ z => z.keep tk7
      have r1 : (is.map V.int)[one]? = some (.int (is.getD one 0)) := by
        rw [List.getElem?_map, List.getD_eq_getElem?_getD, List.getElem?_eq_getElem (by omega)]; rfl
      have r2 : (is.map V.int)[to]? = some (.int (is.getD to 0)) := by
        rw [List.getElem?_map, List.getD_eq_getElem?_getD, List.getElem?_eq_getElem (by omega)]; rfl
      have bvl : bv.length = i := by rw [al.length, lb]
      -- the end of a turn, with so many trays
      refine ⟨_, rfl, _, rfl, rk, _, _, _, rfl, rfl, SqL.of hrk7, atI_nat r1, _, rfl, _, rfl, rk, _, _, _, rfl, rfl, SqL.of hrk7, atI_nat r2, _, _, rfl, rfl, _, rfl, if_bl (fun kk => ?_) (fun kk => ?_)⟩
      · refine ⟨_, rfl, _, _, rfl, ?_⟩
        generalize ht : (if tr > 1 then tr else 1) = tn
        have tn0 : 0 ≤ tn := by rw [← ht]; split <;> omega
        have tn6 : tn ≤ 6 := by rw [← ht]; split <;> omega
        have ttt : tn.toNat = 0 → is.getD one 0 < is.getD to 0 := fun e => by
          exfalso
          have : 1 ≤ tn := by rw [← ht]; split <;> omega
          omega
        refine ⟨_, rfl, .inl ⟨rfl, _, SqL.of hbl7⟩, _, rfl, _, rfl, _, rfl, _, rfl, by omega, by omega, fun D nD => lc_range (lo := 0) (n := tn.toNat) (fun j H8 => ∃ vs : List Int, vs.length = j ∧ H8 D = some (.lst (vs.map V.int)) ∧ (∀ x ∈ vs, Small x) ∧ RI f c hh H H8 xs hs ∧ But f H7 H8 ∧ TK H7 H8 ∧ D ≠ f ∧ D ≠ c ∧ D ≠ hh ∧ H D = Option.none ∧ H7 D = Option.none)
          ⟨[], rfl, upd_same, (fun _ h => nomatch h), I7.new nD, But.refl.new nD, TK.new nD, I7.fl.ne nD, I7.fl.nec nD, (ne_of_none I7.lh nD).symm, I7.bt.none nD (I7.fl.ne nD), nD⟩ ?_ ?_⟩
        · rintro j H8 hj ⟨vs, lv, hD, sm, I8, b8, t8, d1, d2, d3, d4, d5⟩
          refine ⟨rfl, yes_in ⟨_, rfl, f, c, rfl, I8.fl, fun x H9 sx F9 B9 => ⟨_, B9 _ _ hD d1, ?_, vs ++ [x], by rw [List.length_append, lv]; rfl, ?_, ?_, (I8.but F9 B9).lst (B9 _ _ hD d1) d1 d2 d3 d4, (b8.trans B9).own d5, (t8.trans (TK.but I8.fl B9)).trans (TK.lst (B9 _ _ hD d1)), d1, d2, d3, d4, d5⟩⟩⟩
          · rw [List.length_map, lv]; exact small1000 (by omega)
          · rw [upd_same, List.map_append]; rfl
          · intro y hy
            rcases List.mem_append.mp hy with hy | hy
            · exact sm y hy
            · obtain rfl : y = x := by simpa using hy
              exact sx
        · rintro H8 ⟨vs, lv, hD, sm, I8, b8, t8, d1, d2, d3, d4, d5⟩
          refine ⟨D, _, rfl, .inl ⟨SqL.of hD, fun g ng => ⟨(by show 3 ≤ sizeLine; decide), fun t nt => ?_⟩⟩⟩
          have I9 := (I8.new (o := .tup (vs.map V.int)) ng).new (o := .tup [nV one, nV to, V.ref g]) nt
          have hbl8 := same_new (o := .tup [nV one, nV to, V.ref g]) nt _ _ (same_new (o := .tup (vs.map V.int)) ng _ _ (b8 _ _ hbl7 bf))
          have t9 : TK H7 (upd (upd H8 g (.tup (vs.map V.int))) t (.tup [nV one, nV to, V.ref g])) := (t8.trans (TK.new ng)).trans (TK.new nt)
          have s9 : ∀ b o, H7 b = some o → b ≠ f → (upd (upd H8 g (.tup (vs.map V.int))) t (.tup [nV one, nV to, V.ref g])) b = some o := fun b o e n => same_new nt _ _ (same_new ng _ _ (b8 _ _ e n))
          have bh : bl ≠ hh := fun e => by
            have h1 := I1.lh
            rw [← e, nbl] at h1
            cases h1
          have brk : bl ≠ rk := fun e => by
            have h1 := hrk
            rw [← e, nbl] at h1
            cases h1
          have bgv : bl ≠ gv := fun e => by
            have h1 := hgv
            rw [← e, nbl] at h1
            cases h1
          refine ⟨bl, _, _, rfl, rfl, hbl8, small1000 (by rw [bvl]; omega), ?_⟩
          refine ⟨bv ++ [V.ref t], bs ++ [⟨one, to, vs⟩], _, _, _, _, rfl, I9.lst hbl8 bf bc bh bnone, ?_, ?_, ?_, upd_same, ?_, ?_, ?_⟩
          · rw [upd_ne brk.symm]; exact s9 _ _ hrk7 nrk
          · rw [upd_ne bgv.symm]; exact s9 _ _ hgv7 ngv
          · rw [upd_ne bsh.symm]; exact s9 _ _ hsh7 shf
          · exact ((al7.imp fun _ _ z => z.keep t9).snoc ⟨t, g, rfl, upd_same, same_new nt _ _ upd_same⟩).imp fun _ _ z => z.keep (TK.lst hbl8)
          · rw [List.map_append, em, List.take_add_one, et]; rfl
          · intro b hb2
            rcases List.mem_append.mp hb2 with hb2 | hb2
            · exact hb b hb2
            · obtain rfl : b = ⟨one, to, vs⟩ := by simpa using hb2
              refine ⟨oneL, fun h e => ?_, by show vs.length ≤ 6; omega, sm, fun e => ?_⟩
              · have e : hs[one]? = some h := e
                rw [eh1] at e
                cases e
                exact hout
              · have e : vs = [] := e
                rw [e] at lv
                exact ttt (by simpa using lv.symm)
      · obtain ⟨tn, ht⟩ : ∃ tn, tn = tr := ⟨_, rfl⟩
        rw [← ht]
        have tn0 : 0 ≤ tn := by omega
        have tn6 : tn ≤ 6 := by omega
        have ttt : tn.toNat = 0 → is.getD one 0 < is.getD to 0 := fun _ => by
          have : ¬ is.getD to 0 ≤ is.getD one 0 := of_decide_eq_false kk
          omega
        refine ⟨_, rfl, .inl ⟨rfl, _, SqL.of hbl7⟩, _, rfl, _, rfl, _, rfl, _, rfl, by omega, by omega, fun D nD => lc_range (lo := 0) (n := tn.toNat) (fun j H8 => ∃ vs : List Int, vs.length = j ∧ H8 D = some (.lst (vs.map V.int)) ∧ (∀ x ∈ vs, Small x) ∧ RI f c hh H H8 xs hs ∧ But f H7 H8 ∧ TK H7 H8 ∧ D ≠ f ∧ D ≠ c ∧ D ≠ hh ∧ H D = Option.none ∧ H7 D = Option.none)
          ⟨[], rfl, upd_same, (fun _ h => nomatch h), I7.new nD, But.refl.new nD, TK.new nD, I7.fl.ne nD, I7.fl.nec nD, (ne_of_none I7.lh nD).symm, I7.bt.none nD (I7.fl.ne nD), nD⟩ ?_ ?_⟩
        · rintro j H8 hj ⟨vs, lv, hD, sm, I8, b8, t8, d1, d2, d3, d4, d5⟩
          refine ⟨rfl, yes_in ⟨_, rfl, f, c, rfl, I8.fl, fun x H9 sx F9 B9 => ⟨_, B9 _ _ hD d1, ?_, vs ++ [x], by rw [List.length_append, lv]; rfl, ?_, ?_, (I8.but F9 B9).lst (B9 _ _ hD d1) d1 d2 d3 d4, (b8.trans B9).own d5, (t8.trans (TK.but I8.fl B9)).trans (TK.lst (B9 _ _ hD d1)), d1, d2, d3, d4, d5⟩⟩⟩
          · rw [List.length_map, lv]; exact small1000 (by omega)
          · rw [upd_same, List.map_append]; rfl
          · intro y hy
            rcases List.mem_append.mp hy with hy | hy
            · exact sm y hy
            · obtain rfl : y = x := by simpa using hy
              exact sx
        · rintro H8 ⟨vs, lv, hD, sm, I8, b8, t8, d1, d2, d3, d4, d5⟩
          refine ⟨D, _, rfl, .inl ⟨SqL.of hD, fun g ng => ⟨(by show 3 ≤ sizeLine; decide), fun t nt => ?_⟩⟩⟩
          have I9 := (I8.new (o := .tup (vs.map V.int)) ng).new (o := .tup [nV one, nV to, V.ref g]) nt
          have hbl8 := same_new (o := .tup [nV one, nV to, V.ref g]) nt _ _ (same_new (o := .tup (vs.map V.int)) ng _ _ (b8 _ _ hbl7 bf))
          have t9 : TK H7 (upd (upd H8 g (.tup (vs.map V.int))) t (.tup [nV one, nV to, V.ref g])) := (t8.trans (TK.new ng)).trans (TK.new nt)
          have s9 : ∀ b o, H7 b = some o → b ≠ f → (upd (upd H8 g (.tup (vs.map V.int))) t (.tup [nV one, nV to, V.ref g])) b = some o := fun b o e n => same_new nt _ _ (same_new ng _ _ (b8 _ _ e n))
          have bh : bl ≠ hh := fun e => by
            have h1 := I1.lh
            rw [← e, nbl] at h1
            cases h1
          have brk : bl ≠ rk := fun e => by
            have h1 := hrk
            rw [← e, nbl] at h1
            cases h1
          have bgv : bl ≠ gv := fun e => by
            have h1 := hgv
            rw [← e, nbl] at h1
            cases h1
          refine ⟨bl, _, _, rfl, rfl, hbl8, small1000 (by rw [bvl]; omega), ?_⟩
          refine ⟨bv ++ [V.ref t], bs ++ [⟨one, to, vs⟩], _, _, _, _, rfl, I9.lst hbl8 bf bc bh bnone, ?_, ?_, ?_, upd_same, ?_, ?_, ?_⟩
          · rw [upd_ne brk.symm]; exact s9 _ _ hrk7 nrk
          · rw [upd_ne bgv.symm]; exact s9 _ _ hgv7 ngv
          · rw [upd_ne bsh.symm]; exact s9 _ _ hsh7 shf
          · exact ((al7.imp fun _ _ z => z.keep t9).snoc ⟨t, g, rfl, upd_same, same_new nt _ _ upd_same⟩).imp fun _ _ z => z.keep (TK.lst hbl8)
          · rw [List.map_append, em, List.take_add_one, et]; rfl
          · intro b hb2
            rcases List.mem_append.mp hb2 with hb2 | hb2
            · exact hb b hb2
            · obtain rfl : b = ⟨one, to, vs⟩ := by simpa using hb2
              refine ⟨oneL, fun h e => ?_, by show vs.length ≤ 6; omega, sm, fun e => ?_⟩
              · have e : hs[one]? = some h := e
                rw [eh1] at e
                cases e
                exact hout
              · have e : vs = [] := e
                rw [e] at lv
                exact ttt (by simpa using lv.symm)
    · rintro σ H4 ⟨bv, bs, v5, v8, v9, v10, rfl, I4, hrk4, hgv4, hsh4, hbl4, al, em, hb⟩
      rw [List.length_map, List.take_length] at em
      have lb : bs.length = ts.length := by
        have := congrArg List.length em
        rw [List.length_map] at this
        rw [this, htt.length_eq]
      refine ⟨_, rfl, hh, _, rfl, .inl ⟨SqL.of I4.lh, fun a1 na1 => ⟨_, rfl, bl, _, rfl, .inl ⟨SqL.of (same_new na1 _ _ hbl4), fun a2 na2 => ⟨(by show 2 ≤ sizeLine; decide), fun a3 na3 => ?_⟩⟩⟩⟩⟩
      rw [eD]
      have k1 : TK H4 (upd (upd (upd H4 a1 (.tup xs)) a2 (.tup bv)) a3 (.tup [V.ref a1, V.ref a2])) := ((TK.new na1).trans (TK.new na2)).trans (TK.new na3)
      refine q a3 hs bs _ ⟨a1, a2, xs, bv, upd_same, same_new na3 _ _ (same_new na2 _ _ upd_same), same_new na3 _ _ upd_same, I4.al.imp fun _ _ z => z.keep k1, al.imp fun _ _ z => z.keep k1⟩ ⟨ok.len, ok.good, fun b hb2 => ⟨(hb b hb2).1, ?_⟩, fun b hb2 => (hb b hb2).2.1, fun b hb2 => ⟨(hb b hb2).2.2.1, trivial⟩, ⟨fun k => is.getD k 0, fun b hb2 => (hb b hb2).2.2.2.2⟩, fun k h hk => ?_, by omega⟩ (((I4.fl.new na1).new na2).new na3) (((I4.bt.new na1).new na2).new na3)
      · have : b.to ∈ bs.map BR.to := List.mem_map.mpr ⟨b, hb2, rfl⟩
        rw [em] at this
        exact tk_mem hs _ _ (by rw [← ets]; exact htt.mem_iff.mp this)
      · rw [em, htt.count_eq, ets, tk_count, if_pos (List.getElem?_eq_some_iff.mp hk).1]
        unfold nd
        rw [hk]
        have := ok.nz h (List.mem_of_getElem? hk)
        show (((needs h.wd).toNat : Nat) : Int) = needs h.wd
        omega
  case tail1 =>
    rintro D' σ' H1 ⟨eD, hh, rk, gv, xs, hs, is, gs, rfl, I1, ok, hrk, lis, hgv, gne, glen, gok, nrk, ngv⟩
    refine ⟨(by show 0 ≤ sizeLine; decide), fun tk ntk => ?_⟩
    have I2 := I1.new (o := .lst []) ntk
    have hx : xs.length = hs.length := I1.al.length
    refine ⟨_, rfl, hh, _, rfl, .inl (SqL.of I2.lh), _, rfl, by omega, (by rw [hx]; have := ok.len; omega), for_range (lo := 0) (n := xs.length) (fun i σ H2 => ∃ (tk : Addr) (v5 : Option V), σ = [some (.ref f), some (.int m), some (.ref hh), some (.ref rk), some (.ref gv), v5, some (.ref tk), none, none, none, none] ∧ RI f c hh H H2 xs hs ∧ H2 rk = some (.lst (is.map V.int)) ∧ H2 gv = some (.lst (gs.map nV)) ∧ tk ≠ f ∧ H2 tk = some (.lst ((tkTo hs i).map nV)))
      ⟨tk, none, rfl, I2, same_new ntk _ _ hrk, same_new ntk _ _ hgv, I1.fl.ne ntk, upd_same⟩ ?_ ?_⟩
    · rintro i σ H2 hi ⟨tk, v5, rfl, I3, hrk3, hgv3, tf, htk⟩
      have eh : hs[i]? = some hs[i] := List.getElem?_eq_getElem (by omega)
      obtain ⟨x, ex, ⟨t, r, rfl, e1, e2⟩⟩ := I3.al.get eh
      have z0 := ok.nz _ (List.mem_of_getElem? eh)
      have zs : needs hs[i].wd ≤ 3 := by
        unfold needs
        split
        · decide
        · split
          · decide
          · split <;> decide
      have sz : (tkTo hs i).length ≤ 20 := by
        have a := tk_len hs ok.nz i (by omega)
        have b : ((hs.take i).map fun h => needs h.wd).sum ≤ (hs.map fun h => needs h.wd).sum := by
          have e : hs.map (fun h => needs h.wd) = (hs.take i).map (fun h => needs h.wd) ++ (hs.drop i).map (fun h => needs h.wd) := by rw [← List.map_append, List.take_append_drop]
          rw [e, List.sum_append]
          have : 0 ≤ ((hs.drop i).map fun h => needs h.wd).sum := by
            have hz : ∀ h ∈ hs.drop i, 0 ≤ needs h.wd := fun h hh => ok.nz h (List.mem_of_mem_drop hh)
            revert hz
            generalize hs.drop i = l
            intro hz
            induction l with
            | nil => decide
            | cons a l ih =>
              have := hz a (List.mem_cons_self ..)
              have := ih fun h hh => hz h (List.mem_cons_of_mem _ hh)
              rw [List.map_cons, List.sum_cons]
              omega
          omega
        have := ok.sum
        omega
      refine ⟨_, rfl, _, rfl, (by show 1 ≤ sizeLine; decide), fun l1 nl1 => ?_⟩
      have I4 := I3.new (o := .lst [V.int (0 + ((i : Nat) : Int))]) nl1
      refine ⟨_, rfl, _, rfl, hh, _, _, _, rfl, rfl, SqL.of I4.lh, at0 ex, t, _, _, _, rfl, rfl, SqT.of (same_new nl1 _ _ e1), atI_nat (j := 0) rfl, r, hs[i].wd, _, rfl, SqT.of (same_new nl1 _ _ e2), fun H5 s5 => ?_⟩
      have I5 := I4.same s5
      have g1 := s5 _ _ upd_same
      have g2 := s5 _ _ (same_new nl1 _ _ htk)
      refine ⟨l1, _, _, rfl, rfl, g1, by omega, by omega, little (by show 1 * (needs hs[i].wd).toNat ≤ 1000; omega), fun l2 nl2 => ?_⟩
      rw [flat_rep]
      have I6 := I5.new (o := .lst (List.replicate (needs hs[i].wd).toNat (V.int (0 + ((i : Nat) : Int))))) nl2
      refine ⟨tk, l2, _, _, rfl, rfl, same_new nl2 _ _ g2, upd_same, ?_, fun l3 nl3 => ?_⟩
      · rw [List.length_map, List.length_replicate]; exact little (by omega)
      refine ⟨l3, _, rfl, I6.new nl3, same_new nl3 _ _ (same_new nl2 _ _ (s5 _ _ (same_new nl1 _ _ hrk3))), same_new nl3 _ _ (same_new nl2 _ _ (s5 _ _ (same_new nl1 _ _ hgv3))), I6.fl.ne nl3, ?_⟩
      rw [upd_same]
      have e : nd hs i = (needs hs[i].wd).toNat := by unfold nd; rw [eh]
      rw [show tkTo hs (i + 1) = tkTo hs i ++ List.replicate (nd hs i) i from rfl, List.map_append, List.map_replicate, e, Int.zero_add]
    · rintro σ H2 ⟨tk, v5, rfl, I3, hrk3, hgv3, tf, htk⟩
      exact ⟨eD, hh, rk, gv, tk, xs, hs, is, gs, _, v5, rfl, I3, ok, hrk3, lis, hgv3, gne, glen, gok, nrk, ngv, tf, htk, by rw [hx]⟩
  refine ⟨_, rfl, _, rfl, _, rfl, f, c, m, rfl, by omega, hm9, hF, fun v1 H1 a1 b1 F1 B1 => ?_⟩
  refine ⟨_, _, rfl, rfl, f, c, _, rfl, by omega, by omega, F1, fun hh xs hs H2 nhh hhh al ok F2 B2 => ?_⟩
  have hx : xs.length = hs.length := al.length
  have len12 := ok.len
  have nf : hh ≠ f := F1.ne nhh
  have I2 : RI f c hh H H2 xs hs := ⟨F2, B1.trans B2, hhh, al, nf, B1.none nhh nf⟩
  -- ranks
  refine ⟨_, rfl, _, rfl, hh, _, rfl, .inl (SqL.of I2.lh), _, rfl, ⟨by omega, by omega, by omega, by omega, by omega⟩, fun rg nrg => ?_⟩
  have I3 := I2.new (o := .lst (rgV 0 ((xs.length : Nat) : Int))) nrg
  refine ⟨f, c, rg, _, rfl, SqL.of upd_same, I2.fl.ne nrg, ?_, I3.fl, fun rk ys H4 hp nrk hrk F4 B4 => ?_⟩
  · rw [rgV_length]; omega
  have erg : rgV 0 ((xs.length : Nat) : Int) = ((List.range xs.length).map fun i => ((i : Nat) : Int)).map V.int := by
    unfold rgV
    rw [List.map_map, show (((xs.length : Nat) : Int) - 0).toNat = xs.length by omega]
    refine List.map_congr_left fun i _ => ?_
    show V.int (0 + ((i : Nat) : Int)) = V.int ((i : Nat) : Int)
    rw [Int.zero_add]
  rw [erg] at hp
  obtain ⟨is, rfl, his⟩ := perm_inv (f := V.int) (g := unI) (fun _ => rfl) hp
  have lis : is.length = hs.length := by rw [his.length_eq, List.length_map, List.length_range, hx]
  have I4 := I3.but F4 B4
  have rkf : rk ≠ f := I3.fl.ne nrk
  -- givers
  refine ⟨_, rfl, hh, _, rfl, .inl (SqL.of I4.lh), _, rfl, by omega, by omega, fun D nD => lc_range (lo := 0) (n := xs.length) (fun i H5 => ∃ gs : List Nat, H5 D = some (.lst (gs.map nV)) ∧ gs.length ≤ i ∧ RI f c hh H H5 xs hs ∧ H5 rk = some (.lst (is.map V.int)) ∧ (∀ k ∈ gs, ∃ h, hs[k]? = some h ∧ h.wd ≠ "out") ∧ (∀ k h, k < i → hs[k]? = some h → h.wd ≠ "out" → gs ≠ []) ∧ D ≠ f ∧ D ≠ c ∧ D ≠ hh ∧ D ≠ rk ∧ H D = Option.none)
    ⟨[], upd_same, Nat.le_refl _, I4.new nD, same_new nD _ _ hrk, (fun _ h => nomatch h), (fun k h hk => absurd hk (Nat.not_lt_zero _)), I4.fl.ne nD, I4.fl.nec nD, (ne_of_none I4.lh nD).symm, (ne_of_none hrk nD).symm, I4.bt.none nD (I4.fl.ne nD)⟩ ?_ ?_⟩
  · rintro i H5 hi ⟨gs, hD, lg, I5, hrk5, g1, g2, d1, d2, d3, d4, d5⟩
    have eh : hs[i]? = some hs[i] := List.getElem?_eq_getElem (by omega)
    obtain ⟨x, ex, ⟨t, r, rfl, e1, e2⟩⟩ := I5.al.get eh
    have gh := ok.good _ (List.mem_of_getElem? eh)
    refine ⟨rfl, _, rfl, _, rfl, hh, _, _, _, rfl, rfl, SqL.of I5.lh, at0 ex, t, _, _, _, rfl, rfl, SqT.of e1, atI_nat (j := 0) rfl, (by show 1 ≤ sizeLine; decide), fun o1 no1 => ?_⟩
    have I6 := I5.new (o := .tup [V.str "out"]) no1
    have hD6 : (upd H5 o1 (.tup [V.str "out"])) D = some (.lst (gs.map nV)) := same_new no1 _ _ hD
    refine ⟨_, _, rule_dp (same_new no1 _ _ e2), .tup (SqT.of upd_same) (.cons (.str _) .nil), rule_shaped gh.lay, one_shaped (by decide +kernel), _, rfl, ?_⟩
    rw [rule_eqv, gh.door "out" (.inr rfl)]
    by_cases k : hs[i].wd = "out"
    · rw [decide_eq_true k]
      refine if_bl (fun z => absurd z (by decide)) (fun _ => ⟨gs, hD6, by omega, I6, same_new no1 _ _ hrk5, g1, fun k' h' hk hk2 hk3 => ?_, d1, d2, d3, d4, d5⟩)
      by_cases y : k' = i
      · subst y
        rw [eh] at hk2
        cases hk2
        exact absurd k hk3
      · exact g2 k' h' (by omega) hk2 hk3
    · rw [decide_eq_false k]
      refine if_bl (fun _ => ⟨_, rfl, _, hD6, ?_, gs ++ [i], ?_, ?_, I6.lst hD6 d1 d2 d3 d5, ?_, ?_, fun _ _ _ _ _ z => by simp at z, d1, d2, d3, d4, d5⟩) (fun z => absurd z (by decide))
      · rw [List.length_map]; exact small1000 (by omega)
      · rw [upd_same, List.map_append, Int.zero_add]; rfl
      · rw [List.length_append]; show gs.length + 1 ≤ i + 1; omega
      · rw [upd_ne d4.symm]; exact same_new no1 _ _ hrk5
      · intro k' hk
        rcases List.mem_append.mp hk with hk | hk
        · exact g1 k' hk
        · obtain rfl : k' = i := by simpa using hk
          exact ⟨_, eh, k⟩
  · rintro H5 ⟨gs, hD, lg, I5, hrk5, g1, g2, d1, d2, d3, d4, d5⟩
    obtain ⟨h1, hm1, hm2⟩ := ok.one
    obtain ⟨k1, hk1⟩ := List.getElem?_of_mem hm1
    have k1l := (List.getElem?_eq_some_iff.mp hk1).1
    exact ⟨rfl, hh, rk, D, xs, hs, is, gs, rfl, I5, ok, hrk5, lis, hD, g2 k1 h1 (by omega) hk1 hm2, by omega, g1, rkf, d1⟩
end
/-! ### the order of work -/
/-- the belts without trays, their ends -/
def looseOf (bs : List BR) : List (Nat × Nat) := (bs.filter fun b => b.th.isEmpty).map fun b => (b.one, b.to)
def free (ls : List (Nat × Nat)) (left : List Nat) (k : Nat) : Prop := ∀ p ∈ ls, p.2 = k → p.1 ∉ left
/-- each stands as soon as it can -/
inductive Soon (ls : List (Nat × Nat)) : List Nat → List Nat → Prop
  | nil : Soon ls [] []
  | cons {left ord : List Nat} {k : Nat} : k ∈ left → free ls left k → (∀ j ∈ left, free ls left j → k ≤ j) → Soon ls (left.erase k) ord → Soon ls left (k :: ord)
def cN (p : Nat × Nat → Bool) (l : List (Nat × Nat)) : Int := ((l.filter p).length : Nat)
theorem cN_snoc (p : Nat × Nat → Bool) (l : List (Nat × Nat)) (x : Nat × Nat) : cN p (l ++ [x]) = cN p l + (if p x = true then 1 else 0) := by
  unfold cN
  rw [List.filter_append, List.length_append]
  cases h : p x <;> simp [h]
theorem cN_zero {p : Nat × Nat → Bool} {l : List (Nat × Nat)} : cN p l = 0 ↔ ∀ x ∈ l, p x = false := by
  unfold cN
  constructor
  · intro h x hx
    have e : (l.filter p).length = 0 := by omega
    have e2 := List.eq_nil_of_length_eq_zero e
    cases k : p x with
    | false => rfl
    | true =>
      have : x ∈ l.filter p := List.mem_filter.mpr ⟨hx, k⟩
      rw [e2] at this
      cases this
  · intro h
    have e : l.filter p = [] := List.filter_eq_nil_iff.mpr fun x hx => by rw [h x hx]; decide
    rw [e]
    rfl
abbrev owing (left : List Nat) (k : Nat) : Nat × Nat → Bool := fun p => decide (p.2 = k) && decide (p.1 ∈ left)
theorem owing_free {ls : List (Nat × Nat)} {left : List Nat} {k : Nat} : cN (owing left k) ls = 0 ↔ free ls left k := by
  rw [cN_zero]
  constructor
  · intro h p hp e1 e2
    have := h p hp
    have this : (decide (p.2 = k) && decide (p.1 ∈ left)) = false := this
    rw [decide_eq_true e1, decide_eq_true e2] at this
    cases this
  · intro h p hp
    show (decide (p.2 = k) && decide (p.1 ∈ left)) = false
    by_cases e1 : p.2 = k
    · rw [decide_eq_false (h p hp e1), Bool.and_false]
    · rw [decide_eq_false e1, Bool.false_and]
theorem cN_erase {ls : List (Nat × Nat)} {left : List Nat} {k r : Nat} (nd : left.Nodup) (hr : r ∈ left) : cN (owing left k) ls - cN (fun p => decide (p.1 = r) && decide (p.2 = k)) ls = cN (owing (left.erase r) k) ls := by
  induction ls with
  | nil => rfl
  | cons x l ih =>
    have e : ∀ q : Nat × Nat → Bool, cN q (x :: l) = (if q x = true then 1 else 0) + cN q l := fun q => by
      unfold cN
      rw [List.filter_cons]
      cases h : q x <;> simp [h] <;> omega
    have h1 : x.1 ∈ left.erase r ↔ x.1 ≠ r ∧ x.1 ∈ left := nd.mem_erase_iff
    have key : (if owing left k x = true then (1 : Int) else 0) - (if (decide (x.1 = r) && decide (x.2 = k)) = true then 1 else 0) = (if owing (left.erase r) k x = true then 1 else 0) := by
      by_cases a : x.2 = k
      · by_cases b : x.1 = r
        · have d : ¬ r ∈ left.erase r := fun z => (nd.mem_erase_iff.mp z).1 rfl
          simp [owing, a, b, hr, d]
        · by_cases c : x.1 ∈ left
          · have d : x.1 ∈ left.erase r := h1.mpr ⟨b, c⟩
            simp [owing, a, b, c, d]
          · have d : ¬ x.1 ∈ left.erase r := fun z => c (h1.mp z).2
            simp [owing, a, b, c, d]
      · simp [owing, a]
    rw [e, e, e, ← ih]
    omega
/-- some hand is free, where the belts without trays go up -/
theorem some_free {ls : List (Nat × Nat)} {rk : Nat → Int} (hr : ∀ p ∈ ls, rk p.1 < rk p.2) : ∀ {left : List Nat}, left ≠ [] → ∃ k ∈ left, free ls left k := by
  have low : ∀ left : List Nat, left ≠ [] → ∃ k ∈ left, ∀ j ∈ left, rk k ≤ rk j := by
    intro left
    induction left with
    | nil => intro h; exact absurd rfl h
    | cons a l ih =>
      intro _
      cases l with
      | nil => exact ⟨a, by simp, fun j hj => by have : j = a := by simpa using hj
                                                 rw [this]; exact Int.le_refl _⟩
      | cons b l =>
        obtain ⟨k, hk, h⟩ := ih (by simp)
        by_cases c : rk a ≤ rk k
        · exact ⟨a, by simp, fun j hj => by
            rcases List.mem_cons.mp hj with e | e
            · rw [e]; exact Int.le_refl _
            · exact Int.le_trans c (h j e)⟩
        · exact ⟨k, List.mem_cons_of_mem _ hk, fun j hj => by
            rcases List.mem_cons.mp hj with e | e
            · rw [e]; omega
            · exact h j e⟩
  intro left hl
  obtain ⟨k, hk, h⟩ := low left hl
  refine ⟨k, hk, fun p hp e hm => ?_⟩
  have h1 := h _ hm
  have h2 := hr p hp
  rw [e] at h2
  omega
theorem erase_map {α β : Type} (f : α → β) : ∀ (l : List α) (j : Nat), (l.map f).eraseIdx j = (l.eraseIdx j).map f
  | [], _ => rfl
  | _ :: _, 0 => rfl
  | a :: l, j + 1 => congrArg (f a :: ·) (erase_map f l j)
abbrev fL (n : Nat) (F : Nat → Int) : List V := (List.range n).map fun k => V.int (F k)
theorem fL_get {n k : Nat} {F : Nat → Int} (h : k < n) : (fL n F)[k]? = some (.int (F k)) := by
  rw [List.getElem?_map, List.getElem?_range h]; rfl
theorem fL_set {n k : Nat} {F : Nat → Int} {z : Int} : (fL n F).set k (.int z) = fL n fun j => if j = k then z else F j := by
  apply List.ext_getElem?
  intro i
  rw [List.getElem?_set]
  by_cases h : i < n
  · rw [fL_get h, fL_get h]
    by_cases e : k = i
    · subst e
      rw [if_pos rfl, if_pos rfl, if_pos (by rw [List.length_map, List.length_range]; exact h)]
    · rw [if_neg e, if_neg (fun z => e z.symm)]
  · have h1 : (fL n F)[i]? = none := List.getElem?_eq_none (by rw [List.length_map, List.length_range]; omega)
    have h2 : (fL n fun j => if j = k then z else F j)[i]? = none := List.getElem?_eq_none (by rw [List.length_map, List.length_range]; omega)
    rw [h1, h2]
    by_cases e : k = i
    · rw [if_pos e, if_neg (by rw [List.length_map, List.length_range]; omega)]
    · rw [if_neg e]
def PairAt (H : Hp) (v : V) (p : Nat × Nat) : Prop := ∃ t : Addr, v = .ref t ∧ H t = some (.tup [nV p.1, nV p.2])
theorem PairAt.keep {H H' : Hp} {v : V} {p : Nat × Nat} (a : PairAt H v p) (k : TK H H') : PairAt H' v p := by
  obtain ⟨t, e, h⟩ := a
  exact ⟨t, e, k _ _ h⟩
section
variable {P : Program} {w : World} {K : PySem.W.Frag} {mg : Str → Option Value} {base : Heap}
def sp_work_order (K : PySem.W.Frag) : Sp := fun vs H Q _ => ∃ (r : Addr) (hs : List HR) (bs : List BR) (rk : Nat → Int), vs = [.ref r] ∧ RoomAt H r hs bs ∧ hs.length ≤ 400 ∧ bs.length ≤ 400 ∧ (∀ b ∈ bs, b.one < hs.length ∧ b.to < hs.length) ∧ (∀ p ∈ looseOf bs, rk p.1 < rk p.2) ∧
  ∀ (p : Addr) (ord : List Nat) (H' : Hp), H p = none → H' p = some (.lst (ord.map nV)) → Same H H' → Soon (looseOf bs) (List.range hs.length) ord → Q (.ref p) H'
theorem ok_work_order {f : Addr} {fd : FuncData} (F : Fun K "work_order" "work_order" s_work_order f fd) {C : Addr} (T : Top K mg C) : FnOk P w K mg base CX0 1 f fd ["room"] (sp_work_order K) := by
  refine F.ok sc_work_order (fun vs H Q E h => ?_) (fun cdv A outer s H vs Q E hr h => ?_)
  · obtain ⟨r, hs, bs, rk, rfl, _⟩ := h
    rfl
  obtain ⟨r, hs, bs, rk, rfl, hR, lh, lb, ends, hrk, q⟩ := h
  obtain ⟨ha, ba, hv, bv, er, eh, eb, alh, alb⟩ := hR.ex
  have lhv := alh.length
  have lbv := alb.length
  have lls : (looseOf bs).length ≤ 400 := by
    unfold looseOf
    rw [List.length_map]
    exact Nat.le_trans (List.length_filter_le ..) lb
  have pls : ∀ p ∈ looseOf bs, p.1 < hs.length ∧ p.2 < hs.length := by
    intro p hp
    obtain ⟨b, hb, e⟩ := List.mem_map.mp hp
    have := ends b (List.mem_filter.mp hb).1
    rw [← e]
    exact this
  let R1 : TS := fun D' σ' H' => D'.rt = Q ∧ ∃ (lo : Addr) (lv : List V), σ' = [some (.ref r), some (.ref ha), some (.ref ba), some (.ref lo), none, none, none, none, none, none, none, none] ∧ H' lo = some (.lst lv) ∧ All2 (PairAt H') lv (looseOf bs) ∧ Same H H' ∧ H lo = none
  let R2 : TS := fun D' σ' H' => D'.rt = Q ∧ ∃ (lo ow : Addr) (lv : List V) (v4 v5 : Option V), σ' = [some (.ref r), some (.ref ha), some (.ref ba), some (.ref lo), v4, v5, none, some (.ref ow), none, none, none, none] ∧ H' lo = some (.lst lv) ∧ All2 (PairAt H') lv (looseOf bs) ∧ Same H H' ∧ H lo = none ∧ H ow = none ∧ lo ≠ ow ∧ H' ow = some (.lst (fL hs.length fun k => cN (owing (List.range hs.length) k) (looseOf bs)))
  refine ⟨_, (pss_cons (ps_asg (pv 0) (pg_tupK K rfl rfl (pgs_cons (pg_name (i := 1) sc_work_order.nd rfl (Or.inl rfl)) (pgs_cons (pg_name (i := 2) sc_work_order.nd rfl (Or.inl rfl)) pgs_nil))))
      (pss_cons (ps_setLc (i := 3) (own := [("giver", 4), ("taker", 5), ("things", 6)]) (g := gTup K 3 (gCons (gName 4) (gCons (gName 5) (gCons (gName 6) gNil)))) (by rfl) sc_work_order.nd rfl rfl (sw_true rfl rfl rfl (by decide +kernel)) (pi_tupK K rfl (pv 2)) (blkOk_by (own := [("giver", 4), ("taker", 5), ("things", 6)]) (N := N_work_order) (sc := defScope s_work_order) (by decide +kernel)) (fun _ _ _ _ _ => (pg_tupK K rfl rfl (pgs_cons (pg_name (i := 4) sc_work_order.nd rfl (Or.inl rfl)) (pgs_cons (pg_name (i := 5) sc_work_order.nd rfl (Or.inl rfl)) (pgs_cons (pg_name (i := 6) sc_work_order.nd rfl (Or.inl rfl)) pgs_nil))))) (fun _ _ _ _ _ => pts_one (pt_not (pt_truthK K rfl (pv 6) (by intro _; rfl)))) (fun _ _ _ _ _ => (pe_tup (pa_cons (pv 4) (pa_cons (pv 5) pa_nil)))))
      (PSs.to (pss_cons (ps_set (i := 7) sc_work_order.nd rfl (Or.inr rfl) (pe_op op_rep (pe_lst (pa_cons pe_int pa_nil)) (pe_callB (call_len_seqK K rfl) (by rfl) T.m_len (by decide +kernel) (pa_cons (pv 1) pa_nil))))
      (pss_cons (ps_for PassesOwn.never rfl (pi_listK K rfl (pv 3)) (pg_tupK K rfl rfl (pgs_cons (pg_name (i := 4) sc_work_order.nd rfl (Or.inl rfl)) (pgs_cons (pg_name (i := 5) sc_work_order.nd rfl (Or.inl rfl)) pgs_nil)))
        (pss_one (ps_augS (pv 7) (pv 5) (get_listK K rfl) pe_int ip_add set_list)))
      (PSs.to (pss_cons (ps_set (i := 8) sc_work_order.nd rfl (Or.inl rfl) (pe_listRg rfl (by rfl) T.m_list (prg_1 (by rfl) T.m_range (pe_callB (call_len_seqK K rfl) (by rfl) T.m_len (by decide +kernel) (pa_cons (pv 1) pa_nil)))))
      (pss_cons (ps_set (i := 9) sc_work_order.nd rfl (Or.inl rfl) (pe_lst pa_nil))
      (pss_cons (ps_while PassesOwn.never (pt_truthK K rfl (pv 8) (by intro _; rfl))
        (pss_cons (ps_set (i := 10) sc_work_order.nd rfl (Or.inl rfl) (pe_callB (cr_minKK K rfl rfl) (by rfl) T.m_min (by decide +kernel) (pa_cons (pe_lc (own := [("hand", 11)]) (g := gName 11) (by rfl) sc_work_order.nd (pi_listK K rfl (pv 8)) (blkOk_by (own := [("hand", 11)]) (N := N_work_order) (sc := defScope s_work_order) (by decide +kernel)) (fun _ _ _ _ _ => (pg_name (i := 11) sc_work_order.nd rfl (Or.inl rfl))) (fun _ _ _ _ _ => pts_one (pt_cmpR op_eq (pe_ix (ix_listK K rfl) (pv 7) (pv 11) (fun _ _ => rfl)) pe_int (nomark _))) (fun _ _ _ _ _ => (pv 11))) pa_nil)))
      (pss_cons (ps_expr (pe_bmK K rfl PySem.F.plainAttrs_list PySem.F.slot_list_remove PySem.F.type_list_remove mt_remove (pv 8) (pa_cons (pv 10) pa_nil)))
      (pss_cons (ps_expr (pe_bmK K rfl PySem.F.plainAttrs_list PySem.F.slot_list_append PySem.F.type_list_append mt_append (pv 9) (pa_cons (pv 10) pa_nil)))
      (pss_one (ps_for PassesOwn.never rfl (pi_listK K rfl (pv 3)) (pg_tupK K rfl rfl (pgs_cons (pg_name (i := 4) sc_work_order.nd rfl (Or.inl rfl)) (pgs_cons (pg_name (i := 5) sc_work_order.nd rfl (Or.inl rfl)) pgs_nil)))
        (pss_one (ps_if (pt_cmpR op_eq (pv 4) (pv 10) (nomark _)) (pss_one (ps_augS (pv 7) (pv 5) (get_listK K rfl) pe_int ip_sub set_list)) pss_nil))))))))
      (pss_one (ps_ret (pv 9)))))) R2 ?tail2))) R1 ?tail1))), ?_⟩
  case tail2 =>
    rintro D' σ' H1 ⟨eD, lo, ow, lv, v4, v5, rfl, hlo, al, s1, nlo, now, low, how⟩
    refine ⟨_, rfl, ha, _, rfl, .inr (SqT.of (s1 _ _ eh)), _, rfl, ⟨by omega, by omega, by omega, by omega, by omega⟩, fun lf nlf => ?_⟩
    refine ⟨(by show 0 ≤ sizeLine; decide), fun od nod => ?_⟩
    have erg : rgV 0 ((hv.length : Nat) : Int) = (List.range hs.length).map nV := by
      unfold rgV
      rw [show (((hv.length : Nat) : Int) - 0).toNat = hs.length by omega]
      refine List.map_congr_left fun i _ => ?_
      show V.int (0 + ((i : Nat) : Int)) = V.int ((i : Nat) : Int)
      rw [Int.zero_add]
    rw [erg] at nod ⊢
    have lf0 : H lf = none := same_none s1 nlf
    have od0 : H od = none := same_none (s1.trans (same_new nlf)) nod
    have lfod : lf ≠ od := ne_of_none upd_same nod
    have lflo : lo ≠ lf := ne_of_none hlo nlf
    have lfow : ow ≠ lf := ne_of_none how nlf
    have odlo : lo ≠ od := ne_of_none (same_new nlf _ _ hlo) nod
    have odow : ow ≠ od := ne_of_none (same_new nlf _ _ how) nod
    have tk2 : TK H1 (upd (upd H1 lf (.lst ((List.range hs.length).map nV))) od (.lst [])) := (TK.new nlf).trans (TK.new nod)
    let W : Nat → L2.St → Hp → Prop := fun mm σ H2 => ∃ (left ord : List Nat) (v4 v5 v10 v11 : Option V), σ = [some (.ref r), some (.ref ha), some (.ref ba), some (.ref lo), v4, v5, none, some (.ref ow), some (.ref lf), some (.ref od), v10, v11] ∧ mm = left.length ∧ left.Nodup ∧ (∀ k ∈ left, k < hs.length) ∧ H2 lo = some (.lst lv) ∧ All2 (PairAt H2) lv (looseOf bs) ∧ Same H H2 ∧ H2 lf = some (.lst (left.map nV)) ∧ H2 od = some (.lst (ord.map nV)) ∧ ord.length + left.length = hs.length ∧ H2 ow = some (.lst (fL hs.length fun k => cN (owing left k) (looseOf bs))) ∧ (∀ rest, Soon (looseOf bs) left rest → Soon (looseOf bs) (List.range hs.length) (ord ++ rest))
    refine ⟨W, ⟨_, List.range hs.length, [], v4, v5, none, none, rfl, rfl, List.nodup_range, fun k hk => List.mem_range.mp hk, same_new nod _ _ (same_new nlf _ _ hlo), al.imp fun _ _ z => z.keep tk2, (s1.trans (same_new nlf)).trans (same_new nod), same_new nod _ _ upd_same, upd_same, by rw [List.length_range]; exact Nat.zero_add _, same_new nod _ _ (same_new nlf _ _ how), fun rest h => h⟩, ?_⟩
    rintro mm σ H2 ⟨left, ord, w4, w5, w10, w11, rfl, rfl, ndl, hll, hlo2, al2, s2, hlf, hod, lol, how2, soon⟩
    refine ⟨_, rfl, _, .inl ⟨_, SqL.of hlf, rfl⟩, ?_⟩
    by_cases ne : left = []
    · subst ne
      refine if_bl (fun z => nomatch z) (fun _ => ⟨_, rfl, ?_⟩)
      rw [eD]
      have := soon [] .nil
      rw [List.append_nil] at this
      exact q od ord H2 od0 hod s2 this
    · have nb : (!(left.map nV).isEmpty) = true := by
        cases left with
        | nil => exact absurd rfl ne
        | cons a l => rfl
      refine if_bl (fun _ => ⟨W (left.length - 1), fun σ' H' hW => ⟨left.length - 1, by have := List.length_pos_iff.mpr ne; omega, hW⟩, ?_⟩) (fun z => by rw [nb] at z; cases z)
      obtain ⟨k0, hk0, fk0⟩ := some_free hrk ne
      -- the free ones
      refine ⟨_, rfl, lf, rfl, ⟨_, SqL.of hlf⟩, fun D nD => lc_list (K := K) (a := lf) (xs := left.map nV) (fun i H5 => ∃ fs : List Nat, H5 D = some (.lst (fs.map nV)) ∧ H5 lf = some (.lst (left.map nV)) ∧ H5 ow = some (.lst (fL hs.length fun k => cN (owing left k) (looseOf bs))) ∧ Same H2 H5 ∧ fs.length ≤ i ∧ (∀ k, k ∈ fs ↔ k ∈ left.take i ∧ free (looseOf bs) left k)) ⟨[], upd_same, same_new nD _ _ hlf, same_new nD _ _ how2, same_new nD, Nat.le_refl _, fun k => ⟨(fun z => nomatch z), (fun z => nomatch z.1)⟩⟩ (fun i H5 _ ⟨_, _, h, _⟩ => SqL.of h) ?_ ?_⟩
      · rintro i x H5 hx ⟨fs, hD, hlf5, how5, s5, lf5, mem⟩
        rw [List.getElem?_map] at hx
        cases ek : left[i]? with
        | none => rw [ek] at hx; cases hx
        | some k =>
        rw [ek] at hx
        obtain rfl : nV k = x := Option.some.inj hx
        have kl := hll k (List.mem_of_getElem? ek)
        refine ⟨rfl, _, rfl, _, rfl, ow, _, _, _, rfl, rfl, SqL.of how5, atI_nat (fL_get kl), rfl, _, rfl, if_bl (fun kk => ?_) (fun kk => ?_)⟩
        · have fk : free (looseOf bs) left k := owing_free.mp (V.int.inj (of_decide_eq_true kk))
          refine ⟨_, rfl, _, hD, ?_, fs ++ [k], ?_, ?_, ?_, Same.own s5 nD, by rw [List.length_append]; show fs.length + 1 ≤ i + 1; omega, fun j => ?_⟩
          · rw [List.length_map]
            have := (List.getElem?_eq_some_iff.mp ek).1
            exact small1000 (by omega)
          · rw [upd_same, List.map_append]; rfl
          · rw [upd_ne (ne_of_none hlf nD)]; exact hlf5
          · rw [upd_ne (ne_of_none how2 nD)]; exact how5
          · rw [List.mem_append, mem, List.take_add_one, ek, List.mem_append]
            constructor
            · rintro (h | h)
              · exact ⟨.inl h.1, h.2⟩
              · obtain rfl : j = k := by simpa using h
                exact ⟨.inr (by simp), fk⟩
            · rintro ⟨h | h, f⟩
              · exact .inl ⟨h, f⟩
              · obtain rfl : j = k := by simpa using h
                exact .inr (by simp)
        · have fk : ¬ free (looseOf bs) left k := fun z => of_decide_eq_false kk (congrArg V.int (owing_free.mpr z))
          refine ⟨fs, hD, hlf5, how5, s5, by omega, fun j => ?_⟩
          rw [mem, List.take_add_one, ek, List.mem_append]
          constructor
          · rintro ⟨h, f⟩
            exact ⟨.inl h, f⟩
          · rintro ⟨h | h, f⟩
            · exact ⟨h, f⟩
            · obtain rfl : j = k := by simpa using h
              exact absurd f fk
      · rintro H5 ⟨fs, hD, hlf5, how5, s5, lf5, mem⟩
        rw [List.length_map, List.take_length] at mem
        have hk0f : k0 ∈ fs := (mem k0).mpr ⟨hk0, fk0⟩
        refine ⟨D, fs.map fun k => ((k : Nat) : Int), rfl, SqL.of (by rw [hD, List.map_map]; rfl), by rw [List.length_map]; exact List.length_pos_of_mem hk0f, fun m hm hmin => ?_⟩
        obtain ⟨k, hk, rfl⟩ := List.mem_map.mp hm
        obtain ⟨hkl, fk⟩ := (mem k).mp hk
        have least : ∀ j ∈ left, free (looseOf bs) left j → k ≤ j := fun j h1 h2 => by
          have := hmin ((j : Nat) : Int) (List.mem_map.mpr ⟨j, (mem j).mpr ⟨h1, h2⟩, rfl⟩)
          omega
        have kl := hll k hkl
        obtain ⟨j, hj, hfirst, ees⟩ : ∃ j : Nat, left[j]? = some k ∧ (∀ m : Nat, m < j → left[m]? ≠ some k) ∧ left.eraseIdx j = left.erase k := by
          refine ⟨left.idxOf k, ?_, fun m hm => ?_, (List.erase_eq_eraseIdx_of_idxOf (rfl : left.idxOf k = left.idxOf k)).symm⟩
          · rw [List.getElem?_eq_getElem (List.idxOf_lt_length_of_mem hkl), List.getElem_idxOf]
          · intro e
            have := List.idxOf_lt_length_of_mem hkl
            have e1 : left[m] = k := (List.getElem?_eq_some_iff.mp e).2
            have e2 : left[left.idxOf k] = k := List.getElem_idxOf this
            have := (List.getElem_inj ndl (h₀ := by omega) (h₁ := this)).mp (e1.trans e2.symm)
            omega
        have elf : left.map nV = (left.map fun k => ((k : Nat) : Int)).map V.int := by rw [List.map_map]; rfl
        refine ⟨_, rfl, .inl ⟨rfl, _, SqL.of hlf5⟩, _, rfl, lf, left.map (fun k => ((k : Nat) : Int)), ((k : Nat) : Int), j, rfl, rfl, by rw [hlf5, elf], by rw [List.getElem?_map, hj]; rfl, fun m hm => ?_, ?_⟩
        · rw [List.getElem?_map]
          intro e
          cases em : left[m]? with
          | none => rw [em] at e; cases e
          | some y =>
            rw [em] at e
            have e : ((y : Nat) : Int) = ((k : Nat) : Int) := Option.some.inj e
            exact hfirst m hm (by rw [em]; congr 1; omega)
        have eer : ((left.map fun k => ((k : Nat) : Int)).eraseIdx j).map V.int = (left.erase k).map nV := by
          rw [← ees, erase_map, List.map_map]; rfl
        rw [eer]
        have hod5 := s5 _ _ hod
        have tk5 := TK.same s5
        have hlo5 := s5 _ _ hlo2
        have s6 : Same H (upd H5 lf (.lst ((left.erase k).map nV))) := Same.own (s2.trans s5) lf0
        have hod6 : (upd H5 lf (.lst ((left.erase k).map nV))) od = some (.lst (ord.map nV)) := by rw [upd_ne lfod.symm]; exact hod5
        have ll := lol
        have hlp := List.length_pos_of_mem hkl
        refine ⟨_, rfl, .inl ⟨rfl, _, SqL.of hod6⟩, _, rfl, od, _, _, rfl, rfl, hod6, by rw [List.length_map]; exact small1000 (by omega), ?_⟩
        have tk7 : TK H2 (upd (upd H5 lf (.lst ((left.erase k).map nV))) od (.lst (ord.map nV ++ [nV k]))) := (tk5.trans (TK.lst hlf5)).trans (TK.lst hod6)
        have hlo7 : (upd (upd H5 lf (.lst ((left.erase k).map nV))) od (.lst (ord.map nV ++ [nV k]))) lo = some (.lst lv) := by
          rw [upd_ne odlo, upd_ne lflo]; exact hlo5
        refine ⟨_, rfl, lo, rfl, ⟨_, SqL.of hlo7⟩, for_list (K := K) (a := lo) (xs := lv) (fun i σ H3 => ∃ v4 v5 : Option V, σ = [some (.ref r), some (.ref ha), some (.ref ba), some (.ref lo), v4, v5, none, some (.ref ow), some (.ref lf), some (.ref od), some (nV k), w11] ∧ H3 lo = some (.lst lv) ∧ All2 (PairAt H3) lv (looseOf bs) ∧ Same H H3 ∧ H3 lf = some (.lst ((left.erase k).map nV)) ∧ H3 od = some (.lst ((ord ++ [k]).map nV)) ∧ H3 ow = some (.lst (fL hs.length fun z => cN (owing left z) (looseOf bs) - cN (fun p => decide (p.1 = k) && decide (p.2 = z)) ((looseOf bs).take i))))
          ⟨w4, w5, rfl, hlo7, al2.imp fun _ _ z => z.keep tk7, Same.own s6 od0, by rw [upd_ne lfod, upd_same], by rw [upd_same, List.map_append]; rfl, ?_⟩ (fun i σ H3 _ ⟨_, _, _, h, _⟩ => SqL.of h) ?_ ?_⟩
        · rw [upd_ne odow, upd_ne lfow, how5]
          congr 2
        · rintro i x σ H3 hx ⟨u4, u5, rfl, hlo3, al3, s3, hlf3, hod3, how3⟩
          obtain ⟨p, ep, ⟨t, rfl, e1⟩⟩ := al3.getL hx
          have hp := pls p (List.mem_of_getElem? ep)
          have etk : (looseOf bs).take (i + 1) = (looseOf bs).take i ++ [p] := by rw [List.take_add_one, ep]; rfl
          refine ⟨t, _, rfl, SqT.of e1, rfl, _, _, rfl, _, _, rfl, rfl, ?_⟩
          refine ⟨_, rfl, _, rfl, rfl, _, rfl, if_bl (fun kk => ?_) (fun kk => ?_)⟩
          · have pk : p.1 = k := by have := V.int.inj (of_decide_eq_true kk); omega
            refine ⟨_, rfl, _, rfl, ow, _, p.2, _, rfl, rfl, SqL.of how3, fL_get hp.2, _, _, rfl, rfl, ow, _, _, p.2, rfl, rfl, how3, ?_, ?_⟩
            · unfold ixN
              rw [if_pos (by omega), if_pos (by rw [List.length_map, List.length_range]; omega), Int.toNat_natCast]
            · refine ⟨_, _, rfl, ?_, al3.imp fun _ _ z => z.keep (TK.lst how3), Same.own s3 now, ?_, ?_, ?_⟩
              · rw [upd_ne low]; exact hlo3
              · rw [upd_ne lfow.symm]; exact hlf3
              · rw [upd_ne odow.symm]; exact hod3
              · rw [upd_same, fL_set]
                congr 2
                refine List.map_congr_left fun z _ => ?_
                show V.int (if z = p.2 then (cN (owing left p.2) (looseOf bs) - cN (fun q => decide (q.1 = k) && decide (q.2 = p.2)) ((looseOf bs).take i)) - 1 else cN (owing left z) (looseOf bs) - cN (fun q => decide (q.1 = k) && decide (q.2 = z)) ((looseOf bs).take i)) = V.int (cN (owing left z) (looseOf bs) - cN (fun q => decide (q.1 = k) && decide (q.2 = z)) ((looseOf bs).take (i + 1)))
                rw [etk, cN_snoc]
                by_cases e : z = p.2
                · subst e
                  simp [pk]
                  omega
                · have : ¬ p.2 = z := fun y => e y.symm
                  simp [e, this]
          · have pk : ¬ p.1 = k := fun e => of_decide_eq_false kk (by rw [e])
            refine ⟨_, _, rfl, hlo3, al3, s3, hlf3, hod3, ?_⟩
            rw [how3]
            congr 2
            refine List.map_congr_left fun z _ => ?_
            show V.int (_ - cN _ _) = V.int (_ - cN _ _)
            rw [etk, cN_snoc]
            simp [pk]
        · rintro σ H3 ⟨u4, u5, rfl, hlo3, al3, s3, hlf3, hod3, how3⟩
          have le : (left.erase k).length = left.length - 1 := List.length_erase_of_mem hkl
          refine ⟨left.erase k, ord ++ [k], u4, u5, _, _, rfl, le.symm, ndl.erase k, fun y hy => hll y (List.mem_of_mem_erase hy), hlo3, al3, s3, hlf3, hod3, by rw [List.length_append, le]; show ord.length + 1 + (left.length - 1) = hs.length; omega, ?_, fun rest h => ?_⟩
          · rw [how3, List.take_of_length_le (by rw [← al3.length]; exact Nat.le_refl _)]
            congr 2
            refine List.map_congr_left fun z _ => ?_
            show V.int (_ - cN _ _) = V.int (cN _ _)
            rw [cN_erase ndl hkl]
          · have := soon (k :: rest) (.cons hkl fk least h)
            rw [List.append_assoc]
            exact this
  case tail1 =>
    rintro D' σ' H1 ⟨eD, lo, lv, rfl, hlo, al, s1, nlo⟩
    refine ⟨(by show 1 ≤ sizeLine; decide), fun l1 nl1 => ⟨_, rfl, ha, _, rfl, .inr (SqT.of (same_new nl1 _ _ (s1 _ _ eh))), l1, _, _, rfl, rfl, upd_same, by omega, by omega, little (by show 1 * _ ≤ 1000; omega), fun ow now => ?_⟩⟩
    have s2 : Same H _ := (s1.trans (same_new (o := .lst [V.int 0]) nl1)).trans (same_new (o := .lst (fL hs.length fun _ => 0)) now)
    have now0 : H ow = none := same_none (s1.trans (same_new nl1)) now
    have hlo2 := same_new (o := .lst (fL hs.length fun _ => 0)) now _ _ (same_new (o := .lst [V.int 0]) nl1 _ _ hlo)
    have low : lo ≠ ow := ne_of_none (same_new nl1 _ _ hlo) now
    have e0 : (List.replicate ((hv.length : Nat) : Int).toNat [V.int 0]).flatten = fL hs.length fun _ => 0 := by
      rw [flat_rep, Int.toNat_natCast, lhv]
      symm
      show (List.range hs.length).map (fun _ => V.int 0) = _
      rw [List.map_const', List.length_range]
    rw [e0]
    refine ⟨_, rfl, lo, rfl, ⟨_, SqL.of hlo2⟩, for_list (K := K) (a := lo) (xs := lv) (fun i σ H3 => ∃ v4 v5 : Option V, σ = [some (.ref r), some (.ref ha), some (.ref ba), some (.ref lo), v4, v5, none, some (.ref ow), none, none, none, none] ∧ H3 lo = some (.lst lv) ∧ All2 (PairAt H3) lv (looseOf bs) ∧ Same H H3 ∧ H3 ow = some (.lst (fL hs.length fun k => cN (fun p => decide (p.2 = k)) ((looseOf bs).take i))))
      ⟨none, none, rfl, hlo2, al.imp fun _ _ z => z.keep ((TK.new nl1).trans (TK.new now)), s2, upd_same⟩ (fun i σ H3 _ ⟨_, _, _, h, _⟩ => SqL.of h) ?_ ?_⟩
    · rintro i x σ H3 hx ⟨v4, v5, rfl, hlo3, al3, s3, how⟩
      obtain ⟨p, ep, ⟨t, rfl, e1⟩⟩ := al3.getL hx
      have hp := pls p (List.mem_of_getElem? ep)
      refine ⟨t, _, rfl, SqT.of e1, rfl, _, _, rfl, _, _, rfl, rfl, ?_⟩
      refine ⟨_, rfl, _, rfl, ow, _, p.2, _, rfl, rfl, SqL.of how, fL_get hp.2, _, _, rfl, rfl, ow, _, _, p.2, rfl, rfl, how, ?_, ?_⟩
      · unfold ixN
        rw [if_pos (by omega), if_pos (by rw [List.length_map, List.length_range]; omega), Int.toNat_natCast]
      · refine ⟨_, _, rfl, ?_, al3.imp fun _ _ z => z.keep (TK.lst how), Same.own s3 now0, ?_⟩
        · rw [upd_ne low]; exact hlo3
        · rw [upd_same, fL_set]
          congr 2
          refine List.map_congr_left fun k _ => ?_
          show V.int (if k = p.2 then cN (fun q => decide (q.2 = p.2)) ((looseOf bs).take i) + 1 else cN (fun q => decide (q.2 = k)) ((looseOf bs).take i)) = V.int (cN (fun q => decide (q.2 = k)) ((looseOf bs).take (i + 1)))
          rw [List.take_add_one, ep, show (some p).toList = [p] from rfl, cN_snoc]
          by_cases e : k = p.2
          · subst e
            simp
          · have : ¬ p.2 = k := fun z => e z.symm
            simp [e, this]
    · rintro σ H3 ⟨v4, v5, rfl, hlo3, al3, s3, how⟩
      refine ⟨eD, lo, ow, lv, v4, v5, rfl, hlo3, al3, s3, nlo, now0, low, ?_⟩
      rw [how, List.take_of_length_le (by rw [← al3.length]; exact Nat.le_refl _)]
      congr 2
      refine List.map_congr_left fun k _ => ?_
      show V.int (cN (fun q => decide (q.2 = k)) (looseOf bs)) = V.int (cN (owing (List.range hs.length) k) (looseOf bs))
      have e : (looseOf bs).filter (fun q => decide (q.2 = k)) = (looseOf bs).filter (owing (List.range hs.length) k) := List.filter_congr fun p hp => by
        have := (pls p hp).1
        show decide (p.2 = k) = (decide (p.2 = k) && decide (p.1 ∈ List.range hs.length))
        rw [decide_eq_true (List.mem_range.mpr this), Bool.and_true]
      unfold cN
      rw [e]
  refine ⟨_, rfl, r, _, rfl, SqT.of er, rfl, _, _, rfl, _, _, rfl, rfl, ?_⟩
  refine ⟨_, rfl, ba, rfl, ⟨_, SqT.of eb⟩, fun D nD => lc_tup (K := K) (a := ba) (xs := bv) (fun i H5 => ∃ lv : List V, H5 D = some (.lst lv) ∧ All2 (PairAt H5) lv (looseOf (bs.take i)) ∧ Same H H5) ⟨[], upd_same, .nil, same_new nD⟩ (fun i H5 _ ⟨_, _, _, s5⟩ => SqT.of (s5 _ _ eb)) ?_ ?_⟩
  · rintro i x H5 hx ⟨lv, hD, al, s5⟩
    obtain ⟨b, eb2, ⟨t, g, rfl, e1, e2⟩⟩ := alb.getL hx
    have il : i < bs.length := (List.getElem?_eq_some_iff.mp eb2).1
    have elo : looseOf (bs.take (i + 1)) = looseOf (bs.take i) ++ (if b.th.isEmpty = true then [(b.one, b.to)] else []) := by
      unfold looseOf
      rw [List.take_add_one, eb2, List.filter_append, List.map_append]
      congr 1
      cases h : b.th.isEmpty <;> simp [h]
    refine ⟨t, _, rfl, SqT.of (s5 _ _ e1), rfl, _, _, rfl, _, _, rfl, _, _, rfl, rfl, rfl, _, rfl, _, .inr (.inl ⟨_, SqT.of (s5 _ _ e2), rfl⟩), ?_⟩
    have lvl : lv.length ≤ 400 := by
      rw [al.length]
      unfold looseOf
      rw [List.length_map]
      refine Nat.le_trans (List.length_filter_le ..) ?_
      rw [List.length_take]
      omega
    refine if_bl (fun kk => ?_) (fun kk => ?_)
    · have ke : b.th.isEmpty = true := by
        cases h : b.th with
        | nil => rfl
        | cons a l => rw [h] at kk; cases kk
      refine ⟨_, rfl, _, rfl, (by show 2 ≤ sizeLine; decide), fun u nu => ⟨lv, same_new nu _ _ hD, small1000 (by omega), lv ++ [V.ref u], upd_same, ?_, ?_⟩⟩
      · rw [elo, if_pos ke]
        exact ((al.imp fun _ _ z => z.keep (TK.new nu)).snoc ⟨u, rfl, upd_same⟩).imp fun _ _ z => z.keep (TK.lst (same_new nu _ _ hD))
      · exact Same.own (s5.trans (same_new nu)) nD
    · have ke : ¬ b.th.isEmpty = true := by
        cases h : b.th with
        | nil => rw [h] at kk; cases kk
        | cons a l => intro z; cases z
      refine ⟨lv, hD, ?_, s5⟩
      rw [elo, if_neg ke, List.append_nil]
      exact al
  · rintro H5 ⟨lv, hD, al, s5⟩
    rw [List.take_of_length_le (by omega)] at al
    exact ⟨rfl, D, lv, rfl, hD, al, s5, nD⟩
end
/-! ### what rules make, bells -/
def mk2 (wd : Str) (a b : Int) : Int :=
  if wd = "sum" then a + b else if wd = "gap" then a - b else if wd = "below" then (if a < b then 1 else 0) else if wd = "most" then (if b > a then b else a) else (if b < a then b else a)
def mk (wd : Str) (n a b c : Int) : Int :=
  if wd = "always" then n else if wd = "times" then n * a else if wd = "pick" then (if a = 0 then c else b) else if wd = "same" ∨ wd = "out" then a else mk2 wd a b
def mkR (h : HR) (xs : List Int) : Int := mk h.wd (h.no.getD 0) (xs.getD 0 0) (xs.getD 1 0) (xs.getD 2 0)
/-- the hands whose rule is this door's -/
def doorsOf (z : Str) (hs : List HR) : List Nat := (List.range hs.length).filter fun i => decide (hs[i]?.map HR.wd = some z)
theorem mem_doors {z : Str} {hs : List HR} {k : Nat} : k ∈ doorsOf z hs ↔ ∃ h, hs[k]? = some h ∧ h.wd = z := by
  unfold doorsOf
  rw [List.mem_filter, List.mem_range, decide_eq_true_eq]
  constructor
  · rintro ⟨a, b⟩
    rw [List.getElem?_eq_getElem a] at b
    exact ⟨_, List.getElem?_eq_getElem a, Option.some.inj b⟩
  · rintro ⟨h, a, b⟩
    refine ⟨(List.getElem?_eq_some_iff.mp a).1, ?_⟩
    rw [a, ← b]
    rfl
theorem doors_nodup {z : Str} {hs : List HR} : (doorsOf z hs).Nodup := List.nodup_range.filter _
theorem doors_len {z : Str} {hs : List HR} : (doorsOf z hs).length ≤ hs.length := by
  refine Nat.le_trans (List.length_filter_le ..) ?_
  rw [List.length_range]
  exact Nat.le_refl _
abbrev gD (m : List Int) (k : Nat) : Int := m.getD k 0
def valB (f : Nat → Int) (b : BR) : Int := match b.th with | [] => f b.one | x :: _ => x
def takes (cur : List BR) (f : Nat → Int) (k : Nat) : List Int := (cur.filter fun b => decide (b.to = k)).map (valB f)
theorem valB_nil {f : Nat → Int} {b : BR} (h : b.th = []) : valB f b = f b.one := by unfold valB; rw [h]
theorem takes_ext {cur : List BR} {f g : Nat → Int} {k : Nat} (h : ∀ b ∈ cur, b.to = k → b.th = [] → f b.one = g b.one) : takes cur f k = takes cur g k := by
  unfold takes
  refine List.map_congr_left fun b hb => ?_
  have hb := List.mem_filter.mp hb
  cases e : b.th with
  | nil => rw [valB_nil e, valB_nil e]; exact h b hb.1 (of_decide_eq_true hb.2) e
  | cons x l => unfold valB; rw [e]
structure IsBell (hs : List HR) (cur : List BR) (ins m : List Int) : Prop where
  len : m.length = hs.length
  door : ∀ j k : Nat, (doorsOf "in" hs)[j]? = some k → m[k]? = ins[j]?
  hand : ∀ (k : Nat) (h : HR), hs[k]? = some h → h.wd ≠ "in" → m[k]? = some (mkR h (takes cur (gD m) k))
theorem mem_loose {cur : List BR} {b : BR} (h : b ∈ cur) (e : b.th = []) : (b.one, b.to) ∈ looseOf cur := List.mem_map.mpr ⟨b, List.mem_filter.mpr ⟨h, by rw [e]; rfl⟩, rfl⟩
theorem bell_one {hs : List HR} {cur : List BR} {ins m m' : List Int} {rk : Nat → Int} (hr : ∀ p ∈ looseOf cur, rk p.1 < rk p.2) (a : IsBell hs cur ins m) (b : IsBell hs cur ins m') : m = m' := by
  have off : ∀ k, ¬ k < hs.length → m[k]? = m'[k]? := fun k hk => by
    rw [List.getElem?_eq_none (by have := a.len; omega), List.getElem?_eq_none (by have := b.len; omega)]
  obtain ⟨D, hD⟩ : ∃ D, D = (List.range hs.length).filter fun k => decide (m[k]? ≠ m'[k]?) := ⟨_, rfl⟩
  have mD : ∀ k, k ∉ D → m[k]? = m'[k]? := fun k hk => by
    by_cases l : k < hs.length
    · by_cases e : m[k]? = m'[k]?
      · exact e
      · refine absurd ?_ hk
        rw [hD, List.mem_filter]
        exact ⟨List.mem_range.mpr l, decide_eq_true e⟩
    · exact off k l
  by_cases e : D = []
  · refine List.ext_getElem? fun k => mD k ?_
    rw [e]
    exact fun z => nomatch z
  · exfalso
    obtain ⟨k, hk, fr⟩ := some_free hr e
    have hk2 := hk
    rw [hD, List.mem_filter] at hk2
    have kl := List.mem_range.mp hk2.1
    have ne : m[k]? ≠ m'[k]? := of_decide_eq_true hk2.2
    have eh : hs[k]? = some hs[k] := List.getElem?_eq_getElem kl
    by_cases w : hs[k].wd = "in"
    · obtain ⟨j, hj⟩ := List.getElem?_of_mem (mem_doors.mpr ⟨_, eh, w⟩)
      exact ne ((a.door j k hj).trans (b.door j k hj).symm)
    · refine ne ((a.hand k _ eh w).trans ((b.hand k _ eh w).trans ?_).symm)
      rw [takes_ext (g := gD m) fun c hc et en => ?_]
      have := mD c.one (fr _ (mem_loose hc en) et)
      show m'.getD c.one 0 = m.getD c.one 0
      rw [List.getD_eq_getElem?_getD, List.getD_eq_getElem?_getD, this]
/-- what some hands have made already -/
structure Part (hs : List HR) (cur : List BR) (ins : List Int) (pm : Nat → Option Int) : Prop where
  dom : ∀ k v, pm k = some v → k < hs.length
  door : ∀ j k : Nat, (doorsOf "in" hs)[j]? = some k → pm k = ins[j]?
  hand : ∀ (k : Nat) (h : HR) (v : Int), hs[k]? = some h → h.wd ≠ "in" → pm k = some v → v = mkR h (takes cur (fun j => (pm j).getD 0) k) ∧ ∀ b ∈ cur, b.to = k → b.th = [] → (pm b.one).isSome = true
abbrev putM (pm : Nat → Option Int) (k : Nat) (v : Int) : Nat → Option Int := fun j => if j = k then some v else pm j
theorem Part.put {hs : List HR} {cur : List BR} {ins : List Int} {pm : Nat → Option Int} (p : Part hs cur ins pm) {k : Nat} {h : HR} (eh : hs[k]? = some h) (w : h.wd ≠ "in") (new : pm k = none)
    (there : ∀ b ∈ cur, b.to = k → b.th = [] → (pm b.one).isSome = true) : Part hs cur ins (putM pm k (mkR h (takes cur (fun j => (pm j).getD 0) k))) := by
  have old : ∀ j, (pm j).isSome = true → ∀ v, putM pm k v j = pm j := fun j hj v => if_neg fun e => by rw [e, new] at hj; cases hj
  have same : ∀ j v, (∀ b ∈ cur, b.to = j → b.th = [] → (pm b.one).isSome = true) → takes cur (fun i => (pm i).getD 0) j = takes cur (fun i => (putM pm k v i).getD 0) j := fun j v hb => takes_ext fun b b1 b2 b3 => by
    show (pm b.one).getD 0 = (putM pm k v b.one).getD 0
    rw [old _ (hb b b1 b2 b3)]
  refine ⟨fun j v e => ?_, fun i j e => ?_, fun j h' v e1 e2 e3 => ?_⟩
  · by_cases z : j = k
    · rw [z]; exact (List.getElem?_eq_some_iff.mp eh).1
    · exact p.dom j v ((if_neg z).symm.trans e)
  · have z : j ≠ k := fun z => by
      obtain ⟨h2, q1, q2⟩ := mem_doors.mp (List.mem_of_getElem? e)
      rw [z, eh] at q1
      cases q1
      exact w q2
    exact (if_neg z).trans (p.door i j e)
  · by_cases z : j = k
    · subst z
      rw [eh] at e1
      cases e1
      have e4 := Option.some.inj ((if_pos rfl).symm.trans e3)
      refine ⟨?_, fun b b1 b2 b3 => ?_⟩
      · exact e4.symm.trans (congrArg (mkR h) (same _ _ there))
      · rw [old _ (there b b1 b2 b3)]
        exact there b b1 b2 b3
    · have e4 : pm j = some v := (if_neg z).symm.trans e3
      obtain ⟨q1, q2⟩ := p.hand j h' v e1 e2 e4
      refine ⟨?_, fun b b1 b2 b3 => ?_⟩
      · exact q1.trans (congrArg (mkR h') (same _ _ q2))
      · rw [old _ (q2 b b1 b2 b3)]
        exact q2 b b1 b2 b3
abbrev fullM (n : Nat) (pm : Nat → Option Int) : List Int := (List.range n).map fun k => (pm k).getD 0
theorem fullM_get {n k : Nat} {pm : Nat → Option Int} (h : k < n) : (fullM n pm)[k]? = some ((pm k).getD 0) := by
  rw [List.getElem?_map, List.getElem?_range h]; rfl
theorem Part.full {hs : List HR} {cur : List BR} {ins : List Int} {pm : Nat → Option Int} (p : Part hs cur ins pm) (all : ∀ k, k < hs.length → (pm k).isSome = true) : IsBell hs cur ins (fullM hs.length pm) := by
  have at_ : ∀ k, k < hs.length → ∃ v, pm k = some v ∧ (fullM hs.length pm)[k]? = some v := fun k hk => by
    obtain ⟨v, hv⟩ := Option.isSome_iff_exists.mp (all k hk)
    exact ⟨v, hv, by rw [fullM_get hk, hv]; rfl⟩
  refine ⟨by rw [List.length_map, List.length_range], fun j k e => ?_, fun k h e w => ?_⟩
  · obtain ⟨h, q, _⟩ := mem_doors.mp (List.mem_of_getElem? e)
    obtain ⟨v, e1, e2⟩ := at_ k (List.getElem?_eq_some_iff.mp q).1
    rw [e2, ← e1]
    exact p.door j k e
  · obtain ⟨v, e1, e2⟩ := at_ k (List.getElem?_eq_some_iff.mp e).1
    obtain ⟨q1, q2⟩ := p.hand k h v e w e1
    rw [e2, q1]
    congr 2
    refine takes_ext fun b b1 b2 b3 => ?_
    obtain ⟨x, hx⟩ := Option.isSome_iff_exists.mp (q2 b b1 b2 b3)
    obtain ⟨y, e3, e4⟩ := at_ b.one (p.dom _ _ hx)
    show (pm b.one).getD 0 = (fullM hs.length pm).getD b.one 0
    rw [List.getD_eq_getElem?_getD, e4, e3]
/-! ### the dict of what was made -/
abbrev kN (k : Nat) : Key := .inl ((k : Nat) : Int)
def DM (kvs : List (Key × V)) (pm : Nat → Option Int) : Prop := ∀ k : Nat, valV kvs (kN k) = (pm k).map V.int
theorem kN_inj {a b : Nat} (h : kN a = kN b) : a = b := by
  have : ((a : Nat) : Int) = ((b : Nat) : Int) := Sum.inl.inj h
  omega
theorem DM.put {kvs : List (Key × V)} {pm : Nat → Option Int} (d : DM kvs pm) (k : Nat) (v : Int) : DM (putK kvs (kN k) (.int v)) (putM pm k v) := fun j => by
  rw [valV_put]
  by_cases e : j = k
  · subst e
    rw [if_pos rfl, show putM pm j v j = some v from if_pos rfl]
    rfl
  · rw [if_neg fun z => e (kN_inj z), show putM pm k v j = pm j from if_neg e]
    exact d j
theorem merge_off {k : Nat} : ∀ (ks : List Nat) (xs : List Int) (acc : List (Key × V)), k ∉ ks → valV (mergeK acc ((ks.map kN).zip (xs.map V.int))) (kN k) = valV acc (kN k)
  | [], _, _, _ => rfl
  | _ :: _, [], _, _ => rfl
  | a :: ks, x :: xs, acc, h => by
    have h1 : k ≠ a := fun e => h (by rw [e]; exact List.mem_cons_self ..)
    have h2 : k ∉ ks := fun e => h (List.mem_cons_of_mem _ e)
    show valV (mergeK (putK acc (kN a) (V.int x)) ((ks.map kN).zip (xs.map V.int))) (kN k) = _
    rw [merge_off ks xs _ h2, valV_put, if_neg fun z => h1 (kN_inj z)]
theorem merge_on {k : Nat} {v : Int} : ∀ (ks : List Nat) (xs : List Int) (acc : List (Key × V)) (j : Nat), ks.Nodup → ks[j]? = some k → xs[j]? = some v → valV (mergeK acc ((ks.map kN).zip (xs.map V.int))) (kN k) = some (.int v)
  | [], _, _, _, _, h, _ => nomatch h
  | _ :: _, [], _, _, _, _, h => nomatch h
  | a :: ks, x :: xs, acc, 0, nd, h1, h2 => by
    cases h1
    cases h2
    show valV (mergeK (putK acc (kN k) (V.int v)) ((ks.map kN).zip (xs.map V.int))) (kN k) = _
    rw [merge_off ks xs _ (List.nodup_cons.mp nd).1, valV_put, if_pos rfl]
  | a :: ks, x :: xs, acc, j + 1, nd, h1, h2 => merge_on ks xs _ j (List.nodup_cons.mp nd).2 h1 h2
/-- what the in doors have made -/
def doorM (hs : List HR) (ins : List Int) : Nat → Option Int := fun k => if k ∈ doorsOf "in" hs then ins[(doorsOf "in" hs).idxOf k]? else none
theorem idx_at {l : List Nat} (nd : l.Nodup) {j k : Nat} (h : l[j]? = some k) : l.idxOf k = j := by
  have jl := (List.getElem?_eq_some_iff.mp h).1
  have m := List.mem_of_getElem? h
  have il := List.idxOf_lt_length_of_mem m
  exact (List.getElem_inj nd (h₀ := il) (h₁ := jl)).mp ((List.getElem_idxOf il).trans (List.getElem?_eq_some_iff.mp h).2.symm)
theorem doorM_dm {hs : List HR} {ins : List Int} (hl : ins.length = (doorsOf "in" hs).length) : DM (mergeK [] (((doorsOf "in" hs).map kN).zip (ins.map V.int))) (doorM hs ins) := fun k => by
  unfold doorM
  by_cases e : k ∈ doorsOf "in" hs
  · rw [if_pos e]
    have il := List.idxOf_lt_length_of_mem e
    have e1 : (doorsOf "in" hs)[(doorsOf "in" hs).idxOf k]? = some k := by rw [List.getElem?_eq_getElem il, List.getElem_idxOf]
    have e2 : ins[(doorsOf "in" hs).idxOf k]? = some ins[(doorsOf "in" hs).idxOf k] := List.getElem?_eq_getElem (by omega)
    rw [merge_on _ _ _ _ doors_nodup e1 e2, e2]
    rfl
  · rw [if_neg e, merge_off _ _ _ e]
    rfl
theorem doorM_part {hs : List HR} {cur : List BR} {ins : List Int} : Part hs cur ins (doorM hs ins) := by
  refine ⟨fun k v e => ?_, fun j k e => ?_, fun k h v e w e2 => ?_⟩
  · unfold doorM at e
    by_cases m : k ∈ doorsOf "in" hs
    · obtain ⟨h, q, _⟩ := mem_doors.mp m
      exact (List.getElem?_eq_some_iff.mp q).1
    · rw [if_neg m] at e
      cases e
  · unfold doorM
    rw [if_pos (List.mem_of_getElem? e), idx_at doors_nodup e]
  · unfold doorM at e2
    rw [if_neg fun m => by
      obtain ⟨h2, q1, q2⟩ := mem_doors.mp m
      rw [e] at q1
      cases q1
      exact w q2] at e2
    cases e2
theorem doorM_all {hs : List HR} {ins : List Int} (hl : ins.length = (doorsOf "in" hs).length) {k : Nat} {h : HR} (e : hs[k]? = some h) (w : h.wd = "in") : (doorM hs ins k).isSome = true := by
  have m := mem_doors.mpr ⟨h, e, w⟩
  unfold doorM
  rw [if_pos m]
  have il := List.idxOf_lt_length_of_mem m
  rw [List.getElem?_eq_getElem (by omega)]
  rfl
/-! ### belts as they stand behind some bells -/
def nextB (m : List Int) (b : BR) : BR := if b.th = [] then b else ⟨b.one, b.to, b.th.drop 1 ++ [gD m b.one]⟩
def standB (ms : List (List Int)) (b : BR) : BR := if b.th = [] then b else ⟨b.one, b.to, (b.th ++ ms.map fun m => gD m b.one).drop ms.length⟩
abbrev stand (bs : List BR) (ms : List (List Int)) : List BR := bs.map (standB ms)
theorem stand_one (ms : List (List Int)) (b : BR) : (standB ms b).one = b.one := by unfold standB; split <;> rfl
theorem stand_to (ms : List (List Int)) (b : BR) : (standB ms b).to = b.to := by unfold standB; split <;> rfl
theorem stand_len (ms : List (List Int)) (b : BR) : (standB ms b).th.length = b.th.length := by
  unfold standB
  split
  · rfl
  · rw [List.length_drop, List.length_append, List.length_map]; omega
theorem nil_len {l l' : List Int} (h : l.length = l'.length) : l = [] ↔ l' = [] := by
  cases l <;> cases l' <;> simp at h ⊢
theorem stand_th (ms : List (List Int)) (b : BR) : (standB ms b).th = [] ↔ b.th = [] := nil_len (stand_len ms b)
theorem stand_zero (bs : List BR) : stand bs [] = bs := by
  refine (List.map_congr_left (g := id) fun b _ => ?_).trans (List.map_id _)
  unfold standB
  split
  · rfl
  · show (⟨b.one, b.to, (b.th ++ []).drop 0⟩ : BR) = b
    rw [List.append_nil]
    rfl
theorem stand_next (bs : List BR) (ms : List (List Int)) (m : List Int) : (stand bs ms).map (nextB m) = stand bs (ms ++ [m]) := by
  rw [List.map_map]
  refine List.map_congr_left fun b _ => ?_
  show nextB m (standB ms b) = standB (ms ++ [m]) b
  have hn := stand_th ms b
  by_cases e : b.th = []
  · rw [show nextB m (standB ms b) = standB ms b from if_pos (hn.mpr e)]
    rw [show standB ms b = b from if_pos e, show standB (ms ++ [m]) b = b from if_pos e]
  · rw [show nextB m (standB ms b) = ⟨(standB ms b).one, (standB ms b).to, (standB ms b).th.drop 1 ++ [gD m (standB ms b).one]⟩ from if_neg fun z => e (hn.mp z)]
    rw [stand_one, stand_to, show standB ms b = ⟨b.one, b.to, (b.th ++ ms.map fun m => gD m b.one).drop ms.length⟩ from if_neg e,
      show standB (ms ++ [m]) b = ⟨b.one, b.to, (b.th ++ (ms ++ [m]).map fun m => gD m b.one).drop (ms ++ [m]).length⟩ from if_neg e]
    show (⟨b.one, b.to, ((b.th ++ ms.map fun m => gD m b.one).drop ms.length).drop 1 ++ [gD m b.one]⟩ : BR) = _
    rw [List.drop_drop, List.map_append, ← List.append_assoc, List.length_append]
    congr 1
    refine (List.drop_append_of_le_length ?_).symm
    have := List.length_pos_iff.mpr e
    rw [List.length_append, List.length_map]
    show ms.length + 1 ≤ _
    omega
theorem loose_stand (bs : List BR) (ms : List (List Int)) : looseOf (stand bs ms) = looseOf bs := by
  unfold looseOf
  induction bs with
  | nil => rfl
  | cons b bs ih =>
    have e : (standB ms b).th.isEmpty = b.th.isEmpty := by
      have h := stand_th ms b
      cases h1 : (standB ms b).th <;> cases h2 : b.th <;> simp [h1, h2] at h ⊢
    show List.map _ (List.filter _ (standB ms b :: stand bs ms)) = _
    rw [List.filter_cons, List.filter_cons, e]
    cases b.th.isEmpty
    · exact ih
    · show ((standB ms b).one, (standB ms b).to) :: _ = (b.one, b.to) :: _
      rw [ih, stand_one, stand_to]
/-- what is taken from a belt with trays -/
theorem stand_head {ms : List (List Int)} {b : BR} (f : Nat → Int) (e : b.th ≠ []) : valB f (standB ms b) = (b.th ++ ms.map fun m => gD m b.one).getD ms.length 0 := by
  have hl := stand_len ms b
  have pos := List.length_pos_iff.mpr e
  have et : (standB ms b).th = (b.th ++ ms.map fun m => gD m b.one).drop ms.length := by unfold standB; rw [if_neg e]
  unfold valB
  cases q : (standB ms b).th with
  | nil => rw [q] at hl; simp at hl; omega
  | cons x l =>
    rw [q] at et
    have : ((b.th ++ ms.map fun m => gD m b.one).drop ms.length)[0]? = some x := by rw [← et]; rfl
    rw [List.getElem?_drop, Nat.add_zero] at this
    rw [List.getD_eq_getElem?_getD, this]
    rfl
/-! ### many bells -/
structure WS (hs : List HR) (bs : List BR) (rows ms : List (List Int)) : Prop where
  len : ms.length = rows.length
  at_ : ∀ (t : Nat) (r m : List Int), rows[t]? = some r → ms[t]? = some m → IsBell hs (stand bs (ms.take t)) r m
theorem WS.nil {hs : List HR} {bs : List BR} : WS hs bs [] [] := ⟨rfl, fun t r m e => nomatch e⟩
theorem WS.snoc {hs : List HR} {bs : List BR} {rows ms : List (List Int)} {r m : List Int} (h : WS hs bs rows ms) (b : IsBell hs (stand bs ms) r m) : WS hs bs (rows ++ [r]) (ms ++ [m]) := by
  refine ⟨by rw [List.length_append, List.length_append, h.len]; rfl, fun t r' m' e1 e2 => ?_⟩
  by_cases l : t < ms.length
  · have l2 : t < rows.length := by rw [← h.len]; exact l
    rw [List.getElem?_append_left l2] at e1
    rw [List.getElem?_append_left l] at e2
    rw [List.take_append_of_le_length (Nat.le_of_lt l)]
    exact h.at_ t r' m' e1 e2
  · have tl := (List.getElem?_eq_some_iff.mp e2).1
    rw [List.length_append] at tl
    have et : t = ms.length := by simp at tl; omega
    subst et
    rw [List.getElem?_append_right (Nat.le_refl _), Nat.sub_self] at e2
    rw [h.len, List.getElem?_append_right (Nat.le_refl _), Nat.sub_self] at e1
    cases e1
    cases e2
    rw [List.take_append_of_le_length (Nat.le_refl _), List.take_length]
    exact b
theorem WS.one {hs : List HR} {bs : List BR} {rows ms ms' : List (List Int)} {rk : Nat → Int} (hr : ∀ p ∈ looseOf bs, rk p.1 < rk p.2) (a : WS hs bs rows ms) (b : WS hs bs rows ms') : ms = ms' := by
  have key : ∀ t, ms.take t = ms'.take t := by
    intro t
    induction t with
    | zero => rfl
    | succ t ih =>
      rw [List.take_add_one, List.take_add_one, ih]
      by_cases l : t < rows.length
      · have l1 : t < ms.length := by have := a.len; omega
        have l2 : t < ms'.length := by have := b.len; omega
        have e1 : ms[t]? = some ms[t] := List.getElem?_eq_getElem l1
        have e2 : ms'[t]? = some ms'[t] := List.getElem?_eq_getElem l2
        have e3 : rows[t]? = some rows[t] := List.getElem?_eq_getElem l
        have q1 := a.at_ t _ _ e3 e1
        have q2 := b.at_ t _ _ e3 e2
        rw [ih] at q1
        have := bell_one (rk := rk) (by rw [loose_stand]; exact hr) q1 q2
        rw [e1, e2, this]
      · rw [List.getElem?_eq_none (by have := a.len; omega), List.getElem?_eq_none (by have := b.len; omega)]
  have h1 := key rows.length
  rw [List.take_of_length_le (by rw [a.len]; exact Nat.le_refl _), List.take_of_length_le (by rw [b.len]; exact Nat.le_refl _)] at h1
  exact h1
theorem WS.row {hs : List HR} {bs : List BR} {rows ms : List (List Int)} (h : WS hs bs rows ms) : ∀ m ∈ ms, m.length = hs.length := fun m hm => by
  obtain ⟨t, e⟩ := List.getElem?_of_mem hm
  have tl := (List.getElem?_eq_some_iff.mp e).1
  have e3 : rows[t]? = some (rows[t]'(by rw [← h.len]; exact tl)) := List.getElem?_eq_getElem _
  exact (h.at_ t _ _ e3 e).len
/-- the belts that come to a hand -/
def comingN (bs : List BR) (k : Nat) : List Nat := (List.range bs.length).filter fun i => decide (bs[i]?.map BR.to = some k)
def outsOf (hs : List HR) (m : List Int) : List Int := (doorsOf "out" hs).map (gD m)
section
variable {P : Program} {w : World} {K : PySem.W.Frag} {mg : Str → Option Value} {base : Heap}
def sp_made_of_two (K : PySem.W.Frag) : Sp := fun vs H Q _ => ∃ (wd : Str) (a b : Int), vs = [.str wd, .int a, .int b] ∧ Q (.int (mk2 wd a b)) H
theorem ok_made_of_two {f : Addr} {fd : FuncData} (F : Fun K "made_of_two" "made_of_two" s_made_of_two f fd) {C : Addr} (T : Top K mg C) : FnOk P w K mg base CX0 1 f fd ["word", "one", "other"] (sp_made_of_two K) := by
  refine F.ok sc_made_of_two (fun vs H Q E h => ?_) (fun cdv A outer s H vs Q E hr h => ?_)
  · obtain ⟨wd, a, b, rfl, _⟩ := h
    rfl
  obtain ⟨wd, a, b, rfl, q⟩ := h
  unfold mk2 at q
  refine ⟨_, (pss_cons (ps_if (pt_cmpR op_eq (pv 0) pe_str (nomark _)) (pss_one (ps_ret (pe_op op_add (pv 1) (pv 2)))) pss_nil)
      (pss_cons (ps_if (pt_cmpR op_eq (pv 0) pe_str (nomark _)) (pss_one (ps_ret (pe_op op_sub (pv 1) (pv 2)))) pss_nil)
      (pss_cons (ps_if (pt_cmpR op_eq (pv 0) pe_str (nomark _)) (pss_one (ps_ret (pe_ifExp (pt_cmpR op_lt (pv 1) (pv 2) (nomark _)) pe_int pe_int))) pss_nil)
      (pss_cons (ps_if (pt_cmpR op_eq (pv 0) pe_str (nomark _)) (pss_one (ps_ret (pe_callB (call_max2 rfl) (by rfl) T.m_max (by decide +kernel) (pa_cons (pv 1) (pa_cons (pv 2) pa_nil))))) pss_nil)
      (pss_one (ps_ret (pe_callB (call_min2 rfl) (by rfl) T.m_min (by decide +kernel) (pa_cons (pv 1) (pa_cons (pv 2) pa_nil))))))))), ?_⟩
  refine ⟨_, rfl, rfl, _, rfl, if_str (fun e => ?_) (fun e => ?_)⟩
  · rw [if_pos e] at q
    exact ⟨_, rfl, _, rfl, _, _, rfl, rfl, q⟩
  rw [if_neg e] at q
  refine ⟨_, rfl, rfl, _, rfl, if_str (fun e => ?_) (fun e => ?_)⟩
  · rw [if_pos e] at q
    exact ⟨_, rfl, _, rfl, _, _, rfl, rfl, q⟩
  rw [if_neg e] at q
  refine ⟨_, rfl, rfl, _, rfl, if_str (fun e => ?_) (fun e => ?_)⟩
  · rw [if_pos e] at q
    refine ⟨_, rfl, _, rfl, _, _, rfl, rfl, _, rfl, if_bl (fun c => ?_) (fun c => ?_)⟩
    · rw [if_pos (of_decide_eq_true c)] at q
      exact q
    · rw [if_neg (of_decide_eq_false c)] at q
      exact q
  rw [if_neg e] at q
  refine ⟨_, rfl, rfl, _, rfl, if_str (fun e => ?_) (fun e => ?_)⟩
  · rw [if_pos e] at q
    exact ⟨_, rfl, _, rfl, _, _, rfl, q⟩
  rw [if_neg e] at q
  exact ⟨_, rfl, _, rfl, _, _, rfl, q⟩
theorem inV_two {x y z : Str} : inV (.str x) [.str y, .str z] = true ↔ x = y ∨ x = z := by
  unfold inV
  simp only [List.any_cons, List.any_nil, Bool.or_false, Bool.or_eq_true, eqV, beq_iff_eq]
  constructor
  · rintro (h | h)
    · exact .inl h.symm
    · exact .inr h.symm
  · rintro (h | h)
    · exact .inl h.symm
    · exact .inr h.symm
theorem if_in2 {x y z : Str} {A B : Prop} (h1 : x = y ∨ x = z → A) (h2 : ¬ (x = y ∨ x = z) → B) : if (if false = true then !inV (.str x) [.str y, .str z] else inV (.str x) [.str y, .str z]) = true then A else B := by
  have e : (if false = true then !inV (.str x) [.str y, .str z] else inV (.str x) [.str y, .str z]) = inV (.str x) [.str y, .str z] := if_neg Bool.false_ne_true
  rw [e]
  exact if_bl (fun c => h1 (inV_two.mp c)) (fun c => h2 (fun k => by rw [inV_two.mpr k] at c; cases c))
def sp_made_by (K : PySem.W.Frag) : Sp := fun vs H Q _ => ∃ (r t : Addr) (rl ts : List V) (wd : Str) (n a b c : Int), vs = [.ref r, .ref t] ∧ SqT K H r rl ∧ SqT K H t ts ∧ rl[0]? = some (.str wd) ∧
  (wd = "always" ∨ wd = "times" → rl[1]? = some (.int n)) ∧ (wd ≠ "always" → ts[0]? = some (.int a)) ∧ (wd = "pick" ∨ (wd ≠ "always" ∧ wd ≠ "times" ∧ wd ≠ "same" ∧ wd ≠ "out") → ts[1]? = some (.int b)) ∧ (wd = "pick" → ts[2]? = some (.int c)) ∧
  (-(2 ^ 64) < n ∧ n < 2 ^ 64) ∧ ∀ H', Same H H' → Q (.int (mk wd n a b c)) H'
theorem ok_made_by {f : Addr} {fd : FuncData} (F : Fun K "made_by" "made_by" s_made_by f fd) {C : Addr} (T : Top K mg C) : FnOk P w K mg base CX0 2 f fd ["rule", "things"] (sp_made_by K) := by
  obtain ⟨f_made_of_two, fd_made_of_two, F_made_of_two, b_made_of_two, m_made_of_two⟩ := T.d_made_of_two
  have G_made_of_two := ok_made_of_two (P := P) (w := w) (base := base) F_made_of_two T
  refine F.ok sc_made_by (fun vs H Q E h => ?_) (fun cdv A outer s H vs Q E hr h => ?_)
  · obtain ⟨r, t, rl, ts, wd, n, a, b, c, rfl, _⟩ := h
    rfl
  obtain ⟨r, t, rl, ts, wd, n, a, b, c, rfl, hR, hT, r0, r1, t0, t1, t2, hn, q⟩ := h
  unfold mk at q
  refine ⟨_, (pss_cons (ps_set (i := 2) sc_made_by.nd rfl (Or.inl rfl) (pe_ix (ix_tupK K rfl) (pv 0) pe_int (fun _ _ => rfl)))
      (pss_cons (ps_if (pt_cmpR op_eq (pv 2) pe_str (nomark _)) (pss_one (ps_ret (pe_ix (ix_tupK K rfl) (pv 0) pe_int (fun _ _ => rfl)))) pss_nil)
      (pss_cons (ps_if (pt_cmpR op_eq (pv 2) pe_str (nomark _)) (pss_one (ps_ret (pe_op op_mul (pe_ix (ix_tupK K rfl) (pv 0) pe_int (fun _ _ => rfl)) (pe_ix (ix_tupK K rfl) (pv 1) pe_int (fun _ _ => rfl))))) pss_nil)
      (pss_cons (ps_if (pt_cmpR op_eq (pv 2) pe_str (nomark _)) (pss_one (ps_ret (pe_ifExp (pt_cmpR op_ne (pe_ix (ix_tupK K rfl) (pv 1) pe_int (fun _ _ => rfl)) pe_int (nomark _)) (pe_ix (ix_tupK K rfl) (pv 1) pe_int (fun _ _ => rfl)) (pe_ix (ix_tupK K rfl) (pv 1) pe_int (fun _ _ => rfl))))) pss_nil)
      (pss_cons (ps_if (pt_cmpR (op_in_seqK K rfl) (pv 2) (pe_tup (pa_cons pe_str (pa_cons pe_str pa_nil))) (by with_unfolding_all rfl)) (pss_one (ps_ret (pe_ix (ix_tupK K rfl) (pv 1) pe_int (fun _ _ => rfl)))) pss_nil)
      (pss_one (ps_ret (pe_call G_made_of_two (hr.mono (by decide)) (by rfl) m_made_of_two F_made_of_two.kp b_made_of_two .nil pass0 (pa_cons (pv 2) (pa_cons (pe_ix (ix_tupK K rfl) (pv 1) pe_int (fun _ _ => rfl)) (pa_cons (pe_ix (ix_tupK K rfl) (pv 1) pe_int (fun _ _ => rfl)) pa_nil))))))))))), ?_⟩
  refine ⟨_, rfl, r, _, _, _, rfl, rfl, hR, atI_nat (j := 0) r0, ?_⟩
  refine ⟨_, rfl, rfl, _, rfl, if_str (fun e1 => ?_) (fun e1 => ?_)⟩
  · have q := q H (fun _ _ e => e)
    rw [if_pos e1] at q
    exact ⟨_, rfl, r, _, _, _, rfl, rfl, hR, atI_nat (j := 1) (r1 (.inl e1)), q⟩
  refine ⟨_, rfl, rfl, _, rfl, if_str (fun e2 => ?_) (fun e2 => ?_)⟩
  · have q := q H (fun _ _ e => e)
    rw [if_neg e1, if_pos e2] at q
    exact ⟨_, rfl, r, _, _, _, rfl, rfl, hR, atI_nat (j := 1) (r1 (.inr e2)), _, rfl, t, _, _, _, rfl, rfl, hT, atI_nat (j := 0) (t0 e1), _, _, rfl, rfl, .inl hn, q⟩
  refine ⟨_, rfl, rfl, _, rfl, if_str (fun e3 => ?_) (fun e3 => ?_)⟩
  · have q := q H (fun _ _ e => e)
    rw [if_neg e1, if_neg e2, if_pos e3] at q
    refine ⟨_, rfl, t, _, _, _, rfl, rfl, hT, atI_nat (j := 0) (t0 e1), rfl, _, rfl, if_bl (fun k => ?_) (fun k => ?_)⟩
    · have k2 : ¬ a = 0 := fun z => by
        rw [z] at k
        exact absurd k (by decide)
      rw [if_neg k2] at q
      exact ⟨_, rfl, t, _, _, _, rfl, rfl, hT, atI_nat (j := 1) (t1 (.inl e3)), q⟩
    · have k2 : a = 0 := by
        by_cases z : a = 0
        · exact z
        · have k3 : (!decide (V.int a = V.int 0)) = false := k
          rw [decide_eq_false (fun y => z (V.int.inj y))] at k3
          cases k3
      rw [if_pos k2] at q
      exact ⟨_, rfl, t, _, _, _, rfl, rfl, hT, atI_nat (j := 2) (t2 e3), q⟩
  refine ⟨_, rfl, (by show 2 ≤ sizeLine; decide), fun p np => ?_⟩
  have s1 := same_new (o := .tup [V.str "same", V.str "out"]) np
  have q := q _ s1
  rw [if_neg e1, if_neg e2, if_neg e3] at q
  refine ⟨p, _, rfl, .inr (SqT.of upd_same), rfl, rfl, _, rfl, if_in2 (fun e4 => ?_) (fun e4 => ?_)⟩
  · rw [if_pos e4] at q
    exact ⟨_, rfl, t, _, _, _, rfl, rfl, same_seqT s1 hT, atI_nat (j := 0) (t0 e1), q⟩
  · rw [if_neg e4] at q
    exact ⟨_, rfl, _, rfl, t, _, _, _, rfl, rfl, same_seqT s1 hT, atI_nat (j := 0) (t0 e1), _, rfl, t, _, _, _, rfl, rfl, same_seqT s1 hT, atI_nat (j := 1) (t1 (.inr ⟨e1, e2, fun z => e4 (.inl z), fun z => e4 (.inr z)⟩)), wd, a, b, rfl, q⟩
end
section
variable {P : Program} {w : World} {K : PySem.W.Frag} {mg : Str → Option Value} {base : Heap}
theorem filt_succ {p : Nat → Bool} (i : Nat) : (List.range (i + 1)).filter p = (List.range i).filter p ++ (if p i = true then [i] else []) := by
  rw [List.range_succ, List.filter_append]
  cases h : p i <;> simp [h]
theorem filt_len {p : Nat → Bool} (i : Nat) : ((List.range i).filter p).length ≤ i := by
  refine Nat.le_trans (List.length_filter_le ..) ?_
  rw [List.length_range]
  exact Nat.le_refl _
def sp_comings (K : PySem.W.Frag) : Sp := fun vs H Q _ => ∃ (r : Addr) (hs : List HR) (bs : List BR) (k : Nat), vs = [.ref r, nV k] ∧ RoomAt H r hs bs ∧ bs.length ≤ 400 ∧ ∀ (p : Addr) (H' : Hp), H p = none → H' p = some (.lst ((comingN bs k).map nV)) → Same H H' → Q (.ref p) H'
theorem ok_comings {f : Addr} {fd : FuncData} (F : Fun K "comings" "comings" s_comings f fd) {C : Addr} (T : Top K mg C) : FnOk P w K mg base CX0 1 f fd ["room", "hand"] (sp_comings K) := by
  refine F.ok sc_comings (fun vs H Q E h => ?_) (fun cdv A outer s H vs Q E hr h => ?_)
  · obtain ⟨r, hs, bs, k, rfl, _⟩ := h
    rfl
  obtain ⟨r, hs, bs, k, rfl, hR, lb, q⟩ := h
  obtain ⟨ha, ba, hv, bv, er, eh, eb, alh, alb⟩ := hR.ex
  have lbv := alb.length
  refine ⟨_, (pss_one (ps_ret (pe_lc (own := [("number", 2), ("belt", 3)]) (g := gTup K 2 (gCons (gName 2) (gCons (gName 3) gNil))) (by rfl) sc_comings.nd (pi_enumT K rfl (by rfl) T.m_enumerate (pa_cons (pe_ix (ix_tupK K rfl) (pv 0) pe_int (fun _ _ => rfl)) pa_nil)) (blkOk_by (own := [("number", 2), ("belt", 3)]) (N := N_comings) (sc := defScope s_comings) (by decide +kernel)) (fun _ _ _ _ _ => (pg_tupK K rfl rfl (pgs_cons (pg_name (i := 2) sc_comings.nd rfl (Or.inl rfl)) (pgs_cons (pg_name (i := 3) sc_comings.nd rfl (Or.inl rfl)) pgs_nil)))) (fun _ _ _ _ _ => pts_one (pt_cmpR op_eq (pe_ix (ix_tupK K rfl) (pv 3) pe_int (fun _ _ => rfl)) (pv 1) (nomark _))) (fun _ _ _ _ _ => (pv 2))))), ?_⟩
  refine ⟨_, rfl, r, _, _, _, rfl, rfl, SqT.of er, atI_nat (j := 1) rfl, ba, bv, rfl, SqT.of eb, fun D nD => lc_it (J := IteT K ba bv) (n := bv.length) (fun i H5 => H5 D = some (.lst (((List.range i).filter fun j => decide (bs[j]?.map BR.to = some k)).map nV)) ∧ Same H H5) ⟨upd_same, same_new nD⟩ ?_ ?_ ?_ ?_⟩
  · rintro i H5 hi ⟨hD, s5⟩
    exact ⟨SqT.of (s5 _ _ eb), hi⟩
  · rintro H5 ⟨hD, s5⟩
    exact ⟨SqT.of (s5 _ _ eb), rfl⟩
  · rintro i x H5 H6 hi ⟨hD, s5⟩ ⟨t, y, rfl, nt, rfl, ey⟩
    obtain ⟨b, eb2, ⟨t2, g, rfl, e1, e2⟩⟩ := alb.getL ey
    have s6 := s5.trans (same_new (o := .tup [V.int ((i : Nat) : Int), V.ref t2]) nt)
    have hD6 := same_new (o := .tup [V.int ((i : Nat) : Int), V.ref t2]) nt _ _ hD
    have few := filt_len (p := fun j => decide (bs[j]?.map BR.to = some k)) i
    refine ⟨t, _, rfl, SqT.of upd_same, rfl, _, _, rfl, _, _, rfl, rfl, rfl, _, rfl, t2, _, _, _, rfl, rfl, SqT.of (s6 _ _ e1), atI_nat (j := 1) rfl, _, rfl, rfl, _, rfl, if_bl (fun c => ?_) (fun c => ?_)⟩
    · have c : b.to = k := by have := V.int.inj (of_decide_eq_true c); omega
      refine ⟨_, rfl, _, hD6, by rw [List.length_map]; exact small1000 (by omega), ?_, Same.own s6 nD⟩
      rw [upd_same, filt_succ, if_pos (decide_eq_true (by rw [eb2, ← c]; rfl)), List.map_append]
      rfl
    · have c : ¬ b.to = k := fun z => of_decide_eq_false c (by rw [z])
      refine ⟨?_, s6⟩
      rw [filt_succ, if_neg fun z => c (by have := of_decide_eq_true z; rw [eb2] at this; exact Option.some.inj this), List.append_nil]
      exact hD6
  · rintro H5 ⟨hD, s5⟩
    refine q D H5 nD ?_ s5
    rw [hD, lbv]
    rfl
def sp_doors (z : Str) : Sp := fun vs H Q _ => ∃ (r : Addr) (hs : List HR) (bs : List BR), vs = [.ref r] ∧ RoomAt H r hs bs ∧ hs.length ≤ 400 ∧ (∀ h ∈ hs, GoodHand h) ∧ ∀ (p : Addr) (H' : Hp), H p = none → H' p = some (.lst ((doorsOf z hs).map nV)) → Same H H' → Q (.ref p) H'
abbrev sp_doors_in (K : PySem.W.Frag) : Sp := sp_doors "in"
abbrev sp_doors_out (K : PySem.W.Frag) : Sp := sp_doors "out"
theorem ok_doors_in {f : Addr} {fd : FuncData} (F : Fun K "doors_in" "doors_in" s_doors_in f fd) {C : Addr} (T : Top K mg C) : FnOk P w K mg base CX0 1 f fd ["room"] (sp_doors_in K) := by
  refine F.ok sc_doors_in (fun vs H Q E h => ?_) (fun cdv A outer s H vs Q E hr h => ?_)
  · obtain ⟨r, hs, bs, rfl, _⟩ := h
    rfl
  obtain ⟨aI, mI, hI⟩ := T.x_in
  obtain ⟨r, hs, bs, rfl, hR, lb, good, q⟩ := h
  obtain ⟨ha, ba, hv, bv, er, eh, eb, alh, alb⟩ := hR.ex
  have lhv := alh.length
  refine ⟨_, (pss_one (ps_ret (pe_lc (own := [("number", 1), ("hand", 2)]) (g := gTup K 2 (gCons (gName 1) (gCons (gName 2) gNil))) (by rfl) sc_doors_in.nd (pi_enumT K rfl (by rfl) T.m_enumerate (pa_cons (pe_ix (ix_tupK K rfl) (pv 0) pe_int (fun _ _ => rfl)) pa_nil)) (blkOk_by (own := [("number", 1), ("hand", 2)]) (N := N_doors_in) (sc := defScope s_doors_in) (by decide +kernel)) (fun _ _ _ _ _ => (pg_tupK K rfl rfl (pgs_cons (pg_name (i := 1) sc_doors_in.nd rfl (Or.inl rfl)) (pgs_cons (pg_name (i := 2) sc_doors_in.nd rfl (Or.inl rfl)) pgs_nil)))) (fun _ _ _ _ _ => pts_one (pt_cmpR (op_eqDK K rfl hr.units) (pe_ix (ix_tupK K rfl) (pv 2) pe_int (fun _ _ => rfl)) (pe_glob (v := .ref aI) (by rfl) mI rfl) (nomark _))) (fun _ _ _ _ _ => (pv 1))))), ?_⟩
  refine ⟨_, rfl, r, _, _, _, rfl, rfl, SqT.of er, atI_nat (j := 0) rfl, ha, hv, rfl, SqT.of eh, fun D nD => lc_it (J := IteT K ha hv) (n := hv.length) (fun i H5 => H5 D = some (.lst (((List.range i).filter fun j => decide (hs[j]?.map HR.wd = some ("in" : Str))).map nV)) ∧ Same H H5) ⟨upd_same, same_new nD⟩ ?_ ?_ ?_ ?_⟩
  · rintro i H5 hi ⟨hD, s5⟩
    exact ⟨SqT.of (s5 _ _ eh), hi⟩
  · rintro H5 ⟨hD, s5⟩
    exact ⟨SqT.of (s5 _ _ eh), rfl⟩
  · rintro i x H5 H6 hi ⟨hD, s5⟩ ⟨t, y, rfl, nt, rfl, ey⟩
    obtain ⟨hh, eb2, ⟨t2, g, rfl, e1, e2⟩⟩ := alh.getL ey
    have gh := good _ (List.mem_of_getElem? eb2)
    have s6 := s5.trans (same_new (o := .tup [V.int ((i : Nat) : Int), V.ref t2]) nt)
    have hD6 := same_new (o := .tup [V.int ((i : Nat) : Int), V.ref t2]) nt _ _ hD
    have few := filt_len (p := fun j => decide (hs[j]?.map HR.wd = some ("in" : Str))) i
    refine ⟨t, _, rfl, SqT.of upd_same, rfl, _, _, rfl, _, _, rfl, rfl, rfl, _, rfl, t2, _, _, _, rfl, rfl, SqT.of (s6 _ _ e1), atI_nat (j := 0) rfl, ?_⟩
    refine ⟨_, _, rule_dp (s6 _ _ e2), .tup (hI _) (.cons (.str _) .nil), rule_shaped gh.lay, one_shaped (by decide +kernel), _, rfl, ?_⟩
    rw [rule_eqv, gh.door "in" (.inl rfl)]
    by_cases c : hh.wd = "in"
    · rw [decide_eq_true c]
      refine if_bl (fun _ => ⟨_, rfl, _, hD6, by rw [List.length_map]; exact small1000 (by omega), ?_, Same.own s6 nD⟩) (fun z => nomatch z)
      rw [upd_same, filt_succ, if_pos (decide_eq_true (by rw [eb2, ← c]; rfl)), List.map_append]
      rfl
    · rw [decide_eq_false c]
      refine if_bl (fun z => nomatch z) (fun _ => ⟨?_, s6⟩)
      rw [filt_succ, if_neg fun z => c (by have := of_decide_eq_true z; rw [eb2] at this; exact Option.some.inj this), List.append_nil]
      exact hD6
  · rintro H5 ⟨hD, s5⟩
    refine q D H5 nD ?_ s5
    rw [hD, lhv]
    rfl
end
section
variable {P : Program} {w : World} {K : PySem.W.Frag} {mg : Str → Option Value} {base : Heap}
theorem ok_doors_out {f : Addr} {fd : FuncData} (F : Fun K "doors_out" "doors_out" s_doors_out f fd) {C : Addr} (T : Top K mg C) : FnOk P w K mg base CX0 1 f fd ["room"] (sp_doors_out K) := by
  refine F.ok sc_doors_out (fun vs H Q E h => ?_) (fun cdv A outer s H vs Q E hr h => ?_)
  · obtain ⟨r, hs, bs, rfl, _⟩ := h
    rfl
  obtain ⟨aO, mO, hI⟩ := T.x_out
  obtain ⟨r, hs, bs, rfl, hR, lb, good, q⟩ := h
  obtain ⟨ha, ba, hv, bv, er, eh, eb, alh, alb⟩ := hR.ex
  have lhv := alh.length
  refine ⟨_, (pss_one (ps_ret (pe_lc (own := [("number", 1), ("hand", 2)]) (g := gTup K 2 (gCons (gName 1) (gCons (gName 2) gNil))) (by rfl) sc_doors_out.nd (pi_enumT K rfl (by rfl) T.m_enumerate (pa_cons (pe_ix (ix_tupK K rfl) (pv 0) pe_int (fun _ _ => rfl)) pa_nil)) (blkOk_by (own := [("number", 1), ("hand", 2)]) (N := N_doors_out) (sc := defScope s_doors_out) (by decide +kernel)) (fun _ _ _ _ _ => (pg_tupK K rfl rfl (pgs_cons (pg_name (i := 1) sc_doors_out.nd rfl (Or.inl rfl)) (pgs_cons (pg_name (i := 2) sc_doors_out.nd rfl (Or.inl rfl)) pgs_nil)))) (fun _ _ _ _ _ => pts_one (pt_cmpR (op_eqDK K rfl hr.units) (pe_ix (ix_tupK K rfl) (pv 2) pe_int (fun _ _ => rfl)) (pe_glob (v := .ref aO) (by rfl) mO rfl) (nomark _))) (fun _ _ _ _ _ => (pv 1))))), ?_⟩
  refine ⟨_, rfl, r, _, _, _, rfl, rfl, SqT.of er, atI_nat (j := 0) rfl, ha, hv, rfl, SqT.of eh, fun D nD => lc_it (J := IteT K ha hv) (n := hv.length) (fun i H5 => H5 D = some (.lst (((List.range i).filter fun j => decide (hs[j]?.map HR.wd = some ("out" : Str))).map nV)) ∧ Same H H5) ⟨upd_same, same_new nD⟩ ?_ ?_ ?_ ?_⟩
  · rintro i H5 hi ⟨hD, s5⟩
    exact ⟨SqT.of (s5 _ _ eh), hi⟩
  · rintro H5 ⟨hD, s5⟩
    exact ⟨SqT.of (s5 _ _ eh), rfl⟩
  · rintro i x H5 H6 hi ⟨hD, s5⟩ ⟨t, y, rfl, nt, rfl, ey⟩
    obtain ⟨hh, eb2, ⟨t2, g, rfl, e1, e2⟩⟩ := alh.getL ey
    have gh := good _ (List.mem_of_getElem? eb2)
    have s6 := s5.trans (same_new (o := .tup [V.int ((i : Nat) : Int), V.ref t2]) nt)
    have hD6 := same_new (o := .tup [V.int ((i : Nat) : Int), V.ref t2]) nt _ _ hD
    have few := filt_len (p := fun j => decide (hs[j]?.map HR.wd = some ("out" : Str))) i
    refine ⟨t, _, rfl, SqT.of upd_same, rfl, _, _, rfl, _, _, rfl, rfl, rfl, _, rfl, t2, _, _, _, rfl, rfl, SqT.of (s6 _ _ e1), atI_nat (j := 0) rfl, ?_⟩
    refine ⟨_, _, rule_dp (s6 _ _ e2), .tup (hI _) (.cons (.str _) .nil), rule_shaped gh.lay, one_shaped (by decide +kernel), _, rfl, ?_⟩
    rw [rule_eqv, gh.door "out" (.inr rfl)]
    by_cases c : hh.wd = "out"
    · rw [decide_eq_true c]
      refine if_bl (fun _ => ⟨_, rfl, _, hD6, by rw [List.length_map]; exact small1000 (by omega), ?_, Same.own s6 nD⟩) (fun z => nomatch z)
      rw [upd_same, filt_succ, if_pos (decide_eq_true (by rw [eb2, ← c]; rfl)), List.map_append]
      rfl
    · rw [decide_eq_false c]
      refine if_bl (fun z => nomatch z) (fun _ => ⟨?_, s6⟩)
      rw [filt_succ, if_neg fun z => c (by have := of_decide_eq_true z; rw [eb2] at this; exact Option.some.inj this), List.append_nil]
      exact hD6
  · rintro H5 ⟨hD, s5⟩
    refine q D H5 nD ?_ s5
    rw [hD, lhv]
    rfl
end
/-- a tuple of whole numbers -/
def RowAt (H : Hp) (v : V) (m : List Int) : Prop := ∃ t : Addr, v = .ref t ∧ H t = some (.tup (m.map V.int))
theorem RowAt.keep {H H' : Hp} {v : V} {m : List Int} (a : RowAt H v m) (k : TK H H') : RowAt H' v m := by
  obtain ⟨t, e, h⟩ := a
  exact ⟨t, e, k _ _ h⟩
theorem gD_get {m : List Int} {k : Nat} (h : k < m.length) : m[k]? = some (gD m k) := by
  show _ = some (m.getD k 0)
  rw [List.getD_eq_getElem?_getD, List.getElem?_eq_getElem h]; rfl
theorem at_row {m : List Int} {k : Nat} (h : k < m.length) : atI (m.map V.int) ((k : Nat) : Int) = some (.int (gD m k)) := atI_nat (by rw [List.getElem?_map, gD_get h]; rfl)
section
variable {P : Program} {w : World} {K : PySem.W.Frag} {mg : Str → Option Value} {base : Heap}
def sp_picked (K : PySem.W.Frag) : Sp := fun vs H Q _ => ∃ (t d : Addr) (m : List Int) (ks : List Nat), vs = [.ref t, .ref d] ∧ H t = some (.tup (m.map V.int)) ∧ H d = some (.lst (ks.map nV)) ∧ (∀ k ∈ ks, k < m.length) ∧ ks.length ≤ 400 ∧
  ∀ (p : Addr) (H' : Hp), H p = none → H' p = some (.tup ((ks.map (gD m)).map V.int)) → Same H H' → Q (.ref p) H'
theorem ok_picked {f : Addr} {fd : FuncData} (F : Fun K "picked" "picked" s_picked f fd) {C : Addr} (T : Top K mg C) : FnOk P w K mg base CX0 1 f fd ["made", "doors"] (sp_picked K) := by
  refine F.ok sc_picked (fun vs H Q E h => ?_) (fun cdv A outer s H vs Q E hr h => ?_)
  · obtain ⟨t, d, m, ks, rfl, _⟩ := h
    rfl
  obtain ⟨t, d, m, ks, rfl, ht, hd, hk, lk, q⟩ := h
  refine ⟨_, (pss_one (ps_ret (pe_callTy (call_tuple_ofK K rfl) (by rfl) T.m_tuple (by decide +kernel) (pa_cons (pe_lc (own := [("door", 2)]) (g := gName 2) (tt := tYes) (by rfl) sc_picked.nd (pi_listK K rfl (pv 1)) (blkOk_by (own := [("door", 2)]) (N := N_picked) (sc := defScope s_picked) (by decide +kernel)) (fun _ _ _ _ _ => (pg_name (i := 2) sc_picked.nd rfl (Or.inl rfl))) (fun _ _ _ _ _ => pts_nil) (fun _ _ _ _ _ => (pe_ix (ix_tupK K rfl) (pv 0) (pv 2) (fun _ _ => rfl)))) pa_nil)))), ?_⟩
  refine ⟨_, rfl, d, rfl, ⟨_, SqL.of hd⟩, fun D nD => lc_list (K := K) (a := d) (xs := ks.map nV) (fun i H5 => H5 D = some (.lst (((ks.take i).map (gD m)).map V.int)) ∧ Same H H5) ⟨upd_same, same_new nD⟩ (fun i H5 _ ⟨_, s5⟩ => SqL.of (s5 _ _ hd)) ?_ ?_⟩
  · rintro i x H5 hx ⟨hD, s5⟩
    rw [List.getElem?_map] at hx
    cases ek : ks[i]? with
    | none => rw [ek] at hx; cases hx
    | some k =>
    rw [ek] at hx
    obtain rfl : nV k = x := Option.some.inj hx
    have il := (List.getElem?_eq_some_iff.mp ek).1
    refine ⟨rfl, yes_in ⟨_, rfl, _, rfl, t, _, _, _, rfl, rfl, SqT.of (s5 _ _ ht), at_row (hk k (List.mem_of_getElem? ek)), _, hD, ?_, ?_, Same.own s5 nD⟩⟩
    · rw [List.length_map, List.length_map, List.length_take]; exact small1000 (by omega)
    · rw [upd_same, List.take_add_one, ek, List.map_append, List.map_append]; rfl
  · rintro H5 ⟨hD, s5⟩
    rw [List.length_map, List.take_length] at hD
    exact ⟨D, _, rfl, .inl ⟨SqL.of hD, fun p np => q p _ (same_none s5 np) upd_same (s5.trans (same_new np))⟩⟩
end
theorem soon_one {ls : List (Nat × Nat)} : ∀ {left o1 o2 : List Nat}, Soon ls left o1 → Soon ls left o2 → o1 = o2 := by
  intro left o1 o2 h
  induction h generalizing o2 with
  | nil =>
    intro h2
    cases h2 with
    | nil => rfl
    | cons a => cases a
  | cons a b c d ih =>
    intro h2
    cases h2 with
    | nil => cases a
    | @cons _ ord k2 a2 b2 c2 d2 =>
      have e := Nat.le_antisymm (c _ a2 b2) (c2 _ a b)
      subst e
      rw [ih d2]
theorem soon_len {ls : List (Nat × Nat)} {left ord : List Nat} (h : Soon ls left ord) : ord.length = left.length := by
  induction h with
  | nil => rfl
  | cons a b c d ih =>
    rw [List.length_cons, ih, List.length_erase_of_mem a]
    have := List.length_pos_of_mem a
    omega
theorem soon_mem {ls : List (Nat × Nat)} {left ord : List Nat} (h : Soon ls left ord) : ∀ x ∈ ord, x ∈ left := by
  induction h with
  | nil => exact fun _ z => nomatch z
  | cons a b c d ih =>
    intro x hx
    rcases List.mem_cons.mp hx with e | e
    · rw [e]; exact a
    · exact List.mem_of_mem_erase (ih x e)
section
variable {P : Program} {w : World} {K : PySem.W.Frag} {mg : Str → Option Value} {base : Heap}
/-- a hand and the belts that come to it -/
def PlanAt (Z : Hp) (D : Addr) (bs : List BR) (H : Hp) (v : V) (k : Nat) : Prop := ∃ t l : Addr, v = .ref t ∧ H t = some (.tup [nV k, .ref l]) ∧ H l = some (.lst ((comingN bs k).map nV)) ∧ l ≠ D ∧ Z t = none ∧ Z l = none
theorem PlanAt.same {Z : Hp} {D : Addr} {bs : List BR} {H H' : Hp} {v : V} {k : Nat} (a : PlanAt Z D bs H v k) (s : Same H H') : PlanAt Z D bs H' v k := by
  obtain ⟨t, l, e, h1, h2, n⟩ := a
  exact ⟨t, l, e, s _ _ h1, s _ _ h2, n⟩
theorem PlanAt.own {Z : Hp} {D : Addr} {bs : List BR} {H : Hp} {v : V} {k : Nat} {xs ys : List V} (a : PlanAt Z D bs H v k) (h : H D = some (.lst xs)) : PlanAt Z D bs (upd H D (.lst ys)) v k := by
  obtain ⟨t, l, e, h1, h2, n⟩ := a
  exact ⟨t, l, e, TK.lst h _ _ h1, by rw [upd_ne n.1]; exact h2, n⟩
def sp_work_plan (K : PySem.W.Frag) : Sp := fun vs H Q _ => ∃ (r : Addr) (hs : List HR) (bs : List BR) (rk : Nat → Int), vs = [.ref r] ∧ RoomAt H r hs bs ∧ hs.length ≤ 400 ∧ bs.length ≤ 400 ∧ (∀ b ∈ bs, b.one < hs.length ∧ b.to < hs.length) ∧ (∀ p ∈ looseOf bs, rk p.1 < rk p.2) ∧
  ∀ (p D : Addr) (ord : List Nat) (pv : List V) (H' : Hp), H p = none → H' p = some (.lst pv) → All2 (PlanAt H D bs H') pv ord → Soon (looseOf bs) (List.range hs.length) ord → Same H H' → Q (.ref p) H'
theorem ok_work_plan {f : Addr} {fd : FuncData} (F : Fun K "work_plan" "work_plan" s_work_plan f fd) {C : Addr} (T : Top K mg C) : FnOk P w K mg base CX0 2 f fd ["room"] (sp_work_plan K) := by
  obtain ⟨f_comings, fd_comings, F_comings, b_comings, m_comings⟩ := T.d_comings
  have G_comings := ok_comings (P := P) (w := w) (base := base) F_comings T
  obtain ⟨f_work_order, fd_work_order, F_work_order, b_work_order, m_work_order⟩ := T.d_work_order
  have G_work_order := ok_work_order (P := P) (w := w) (base := base) F_work_order T
  refine F.ok sc_work_plan (fun vs H Q E h => ?_) (fun cdv A outer s H vs Q E hr h => ?_)
  · obtain ⟨r, hs, bs, rk, rfl, _⟩ := h
    rfl
  obtain ⟨r, hs, bs, rk, rfl, hR, lh, lb, ends, hrk, q⟩ := h
  refine ⟨_, (pss_one (ps_ret (pe_lc (own := [("hand", 1)]) (g := gName 1) (tt := tYes) (by rfl) sc_work_plan.nd (pi_listK K rfl (pe_call G_work_order (hr.mono (by decide)) (by rfl) m_work_order F_work_order.kp b_work_order .nil pass0 (pa_cons (pv 0) pa_nil))) (blkOk_by (own := [("hand", 1)]) (N := N_work_plan) (sc := defScope s_work_plan) (by decide +kernel)) (fun _ _ _ _ _ => (pg_name (i := 1) sc_work_plan.nd rfl (Or.inl rfl))) (fun _ _ _ _ _ => pts_nil) (fun _ _ _ _ _ => (pe_tup (pa_cons (pv 1) (pa_cons (pe_call G_comings (hr.mono (by decide)) (by rfl) m_comings F_comings.kp b_comings .nil pass0 (pa_cons (pv 0) (pa_cons (pv 1) pa_nil))) pa_nil))))))), ?_⟩
  refine ⟨_, rfl, r, hs, bs, rk, rfl, hR, lh, lb, ends, hrk, fun od ord H1 nod hod s1 soon => ?_⟩
  have lo := soon_len soon
  rw [List.length_range] at lo
  refine ⟨od, rfl, ⟨_, SqL.of hod⟩, fun D nD => lc_list (K := K) (a := od) (xs := ord.map nV) (fun i H5 => ∃ pv : List V, H5 D = some (.lst pv) ∧ All2 (PlanAt H D bs H5) pv (ord.take i) ∧ Same H1 H5) ⟨[], upd_same, .nil, same_new nD⟩ (fun i H5 _ ⟨_, _, _, s5⟩ => SqL.of (s5 _ _ hod)) ?_ ?_⟩
  · rintro i x H5 hx ⟨pv, hD, al, s5⟩
    rw [List.getElem?_map] at hx
    cases ek : ord[i]? with
    | none => rw [ek] at hx; cases hx
    | some k =>
    rw [ek] at hx
    obtain rfl : nV k = x := Option.some.inj hx
    have il := (List.getElem?_eq_some_iff.mp ek).1
    refine ⟨rfl, yes_in ⟨_, rfl, _, rfl, _, rfl, r, hs, bs, k, rfl, hR.keep (TK.same (s1.trans s5)), lb, fun l H6 nl hl s6 => ⟨(by show 2 ≤ sizeLine; decide), fun t nt => ⟨pv, same_new nt _ _ (s6 _ _ hD), ?_, pv ++ [V.ref t], upd_same, ?_, Same.own ((s5.trans s6).trans (same_new nt)) nD⟩⟩⟩⟩
    · have := al.length
      rw [List.length_take] at this
      exact small1000 (by omega)
    · rw [List.take_add_one, ek]
      have h6 : All2 (PlanAt H D bs (upd H6 t (.tup [nV k, V.ref l]))) (pv ++ [V.ref t]) (ord.take i ++ [k]) := (al.imp fun _ _ z => z.same (s6.trans (same_new nt))).snoc ⟨t, l, rfl, upd_same, same_new nt _ _ hl, (ne_of_none hD nl).symm, same_none ((s1.trans s5).trans s6) nt, same_none (s1.trans s5) nl⟩
      exact h6.imp fun _ _ z => z.own (same_new nt _ _ (s6 _ _ hD))
  · rintro H5 ⟨pv, hD, al, s5⟩
    rw [List.length_map, List.take_length] at al
    exact q D D ord pv H5 (same_none s1 nD) hD al soon (s1.trans s5)
theorem dget_of {H : Hp} {a : Addr} {kvs : List (Key × V)} {k : Nat} {o : Option V} (e : H a = some (.dK kvs)) (h : valV kvs (kN k) = o) : DGet H a (nV k) o := h ▸ DGet.k (k := kN k) e
def sp_thing_taken (K : PySem.W.Frag) : Sp := fun vs H Q _ => ∃ (v : V) (b : BR) (d : Addr) (kvs : List (Key × V)) (pm : Nat → Option Int), vs = [v, .ref d] ∧ BeltAt H v b ∧ H d = some (.dK kvs) ∧ DM kvs pm ∧ (b.th = [] → (pm b.one).isSome = true) ∧ Q (.int (valB (fun j => (pm j).getD 0) b)) H
theorem ok_thing_taken {f : Addr} {fd : FuncData} (F : Fun K "thing_taken" "thing_taken" s_thing_taken f fd) {C : Addr} (T : Top K mg C) : FnOk P w K mg base CX0 1 f fd ["belt", "made"] (sp_thing_taken K) := by
  refine F.ok sc_thing_taken (fun vs H Q E h => ?_) (fun cdv A outer s H vs Q E hr h => ?_)
  · obtain ⟨v, b, d, kvs, pm, rfl, _⟩ := h
    rfl
  obtain ⟨v, b, d, kvs, pm, rfl, ⟨t, g, rfl, e1, e2⟩, hd, dm, av, q⟩ := h
  refine ⟨_, (pss_cons (ps_asg (pv 0) (pg_tupK K rfl rfl (pgs_cons (pg_name (i := 2) sc_thing_taken.nd rfl (Or.inl rfl)) (pgs_cons (pg_name (i := 3) sc_thing_taken.nd rfl (Or.inl rfl)) (pgs_cons (pg_name (i := 4) sc_thing_taken.nd rfl (Or.inl rfl)) pgs_nil)))))
      (pss_one (ps_ret (pe_ifExp (pt_truthK K rfl (pv 4) (by intro _; rfl)) (pe_ix (ix_tupK K rfl) (pv 4) pe_int (fun _ _ => rfl)) (pe_dget (hu_of hr) (pv 1) (pv 2) (fun _ _ => rfl)))))), ?_⟩
  refine ⟨_, rfl, t, _, rfl, SqT.of e1, rfl, _, _, rfl, _, _, rfl, _, _, rfl, rfl, ?_⟩
  refine ⟨_, rfl, _, .inr (.inl ⟨_, SqT.of e2, rfl⟩), ?_⟩
  cases eb : b.th with
  | nil =>
    rw [valB_nil eb] at q
    obtain ⟨x, hx⟩ := Option.isSome_iff_exists.mp (av eb)
    rw [hx] at q
    refine if_bl (fun z => nomatch z) (fun _ => ⟨_, rfl, _, rfl, d, .int x, rfl, dget_of hd ?_, q⟩)
    rw [dm, hx]
    rfl
  | cons x l =>
    have ev : valB (fun j => (pm j).getD 0) b = x := by unfold valB; rw [eb]
    rw [ev] at q
    rw [eb] at e2
    exact if_bl (fun _ => ⟨_, rfl, g, _, _, _, rfl, rfl, SqT.of e2, atI_nat (j := 0) rfl, q⟩) (fun z => nomatch z)
def sp_belt_behind_bell (K : PySem.W.Frag) : Sp := fun vs H Q _ => ∃ (v : V) (b : BR) (t : Addr) (m : List Int), vs = [v, .ref t] ∧ BeltAt H v b ∧ H t = some (.tup (m.map V.int)) ∧ b.one < m.length ∧ b.th.length ≤ 400 ∧ ∀ (u : V) (H' : Hp), BeltAt H' u (nextB m b) → Same H H' → Q u H'
theorem ok_belt_behind_bell {f : Addr} {fd : FuncData} (F : Fun K "belt_behind_bell" "belt_behind_bell" s_belt_behind_bell f fd) {C : Addr} (T : Top K mg C) : FnOk P w K mg base CX0 1 f fd ["belt", "made"] (sp_belt_behind_bell K) := by
  refine F.ok sc_belt_behind_bell (fun vs H Q E h => ?_) (fun cdv A outer s H vs Q E hr h => ?_)
  · obtain ⟨v, b, t, m, rfl, _⟩ := h
    rfl
  obtain ⟨v, b, tm, m, rfl, hb, htm, om, lt, q⟩ := h
  obtain ⟨t, g, rfl, e1, e2⟩ := id hb
  refine ⟨_, (pss_cons (ps_asg (pv 0) (pg_tupK K rfl rfl (pgs_cons (pg_name (i := 2) sc_belt_behind_bell.nd rfl (Or.inl rfl)) (pgs_cons (pg_name (i := 3) sc_belt_behind_bell.nd rfl (Or.inl rfl)) (pgs_cons (pg_name (i := 4) sc_belt_behind_bell.nd rfl (Or.inl rfl)) pgs_nil)))))
      (pss_one (ps_ret (pe_ifExp (pt_truthK K rfl (pv 4) (by intro _; rfl)) (pe_tup (pa_cons (pv 2) (pa_cons (pv 3) (pa_cons (pe_op (op_catAK K rfl) (pe_slice (sl_tupAK K rfl) (pv 4) (po_some pe_int) po_none) (pe_tup (pa_cons (pe_ix (ix_tupK K rfl) (pv 1) (pv 2) (fun _ _ => rfl)) pa_nil))) pa_nil)))) (pv 0))))), ?_⟩
  refine ⟨_, rfl, t, _, rfl, SqT.of e1, rfl, _, _, rfl, _, _, rfl, _, _, rfl, rfl, ?_⟩
  refine ⟨_, rfl, _, .inr (.inl ⟨_, SqT.of e2, rfl⟩), ?_⟩
  unfold nextB at q
  cases eb : b.th with
  | nil =>
    rw [if_pos eb] at q
    exact if_bl (fun z => nomatch z) (fun _ => ⟨_, rfl, q _ _ hb (fun _ _ e => e)⟩)
  | cons x l =>
    rw [if_neg (by rw [eb]; exact fun z => nomatch z), eb] at q
    rw [eb] at e2 lt
    have lt : l.length + 1 ≤ 400 := lt
    have ec : cutV ((x :: l).map V.int) (some 1) none = l.map V.int := by
      have := cut_drop ((x :: l).map V.int) 1
      exact this
    refine if_bl (fun _ => ⟨_, rfl, _, rfl, _, rfl, _, rfl, g, _, rfl, SqT.of e2, (fun z => ?_), fun _ p np => ?_⟩) (fun z => nomatch z)
    · exact absurd z.1 (by rw [show (1 : Int) = ((1 : Nat) : Int) from rfl, HT.sIx_nat]; simp)
    rw [ec]
    refine ⟨_, rfl, _, rfl, tm, _, _, _, rfl, rfl, SqT.of (same_new np _ _ htm), at_row om, (by show 1 ≤ sizeLine; decide), fun p2 np2 => ?_⟩
    have s2 := (same_new (o := .tup (l.map V.int)) np).trans (same_new (o := .tup [V.int (gD m b.one)]) np2)
    have hp2 := same_new (o := .tup [V.int (gD m b.one)]) np2 _ _ (upd_same (H := H) (a := p) (o := .tup (l.map V.int)))
    refine ⟨p, p2, _, _, rfl, rfl, SqT.of hp2, SqT.of upd_same, ?_, fun z => ?_, (fun z y => nomatch y), fun z _ p3 np3 => ?_⟩
    · rw [List.length_map]; exact little (by show l.length + 1 ≤ 1000; omega)
    · have zl : l = [] := by cases l with | nil => rfl | cons a b => cases z
      subst zl
      refine ⟨(by show 3 ≤ sizeLine; decide), fun p4 np4 => q (.ref p4) _ ⟨p4, p2, rfl, upd_same, ?_⟩ (s2.trans (same_new np4))⟩
      exact same_new np4 _ _ upd_same
    · refine ⟨(by show 3 ≤ sizeLine; decide), fun p4 np4 => q (.ref p4) _ ⟨p4, p3, rfl, upd_same, ?_⟩ ((s2.trans (same_new np3)).trans (same_new np4))⟩
      have := same_new (o := .tup [nV b.one, nV b.to, V.ref p3]) np4 _ _ (upd_same (H := upd (upd H p (.tup (l.map V.int))) p2 (.tup [V.int (gD m b.one)])) (a := p3) (o := .tup (l.map V.int ++ [V.int (gD m b.one)])))
      rw [this]
      show _ = some (HO.tup ((l ++ [gD m b.one]).map V.int))
      rw [List.map_append]
      rfl
def sp_behind_bell (K : PySem.W.Frag) : Sp := fun vs H Q _ => ∃ (r t : Addr) (hs : List HR) (cur : List BR) (m : List Int), vs = [.ref r, .ref t] ∧ RoomAt H r hs cur ∧ H t = some (.tup (m.map V.int)) ∧ (∀ b ∈ cur, b.one < m.length ∧ b.th.length ≤ 400) ∧ cur.length ≤ 400 ∧ ∀ (p : Addr) (H' : Hp), RoomAt H' p hs (cur.map (nextB m)) → Same H H' → Q (.ref p) H'
theorem ok_behind_bell {f : Addr} {fd : FuncData} (F : Fun K "behind_bell" "behind_bell" s_behind_bell f fd) {C : Addr} (T : Top K mg C) : FnOk P w K mg base CX0 2 f fd ["room", "made"] (sp_behind_bell K) := by
  obtain ⟨f_belt_behind_bell, fd_belt_behind_bell, F_belt_behind_bell, b_belt_behind_bell, m_belt_behind_bell⟩ := T.d_belt_behind_bell
  have G_belt_behind_bell := ok_belt_behind_bell (P := P) (w := w) (base := base) F_belt_behind_bell T
  refine F.ok sc_behind_bell (fun vs H Q E h => ?_) (fun cdv A outer s H vs Q E hr h => ?_)
  · obtain ⟨r, t, hs, cur, m, rfl, _⟩ := h
    rfl
  obtain ⟨r, t, hs, cur, m, rfl, hR, ht, hb, lc, q⟩ := h
  obtain ⟨ha, ba, hv, bv, er, eh, eb, alh, alb⟩ := hR.ex
  have lbv := alb.length
  refine ⟨_, (pss_cons (ps_asg (pv 0) (pg_tupK K rfl rfl (pgs_cons (pg_name (i := 2) sc_behind_bell.nd rfl (Or.inl rfl)) (pgs_cons (pg_name (i := 3) sc_behind_bell.nd rfl (Or.inl rfl)) pgs_nil))))
      (pss_one (ps_ret (pe_tup (pa_cons (pv 2) (pa_cons (pe_callTy (call_tuple_ofK K rfl) (by rfl) T.m_tuple (by decide +kernel) (pa_cons (pe_lc (own := [("belt", 4)]) (g := gName 4) (tt := tYes) (by rfl) sc_behind_bell.nd (pi_tupK K rfl (pv 3)) (blkOk_by (own := [("belt", 4)]) (N := N_behind_bell) (sc := defScope s_behind_bell) (by decide +kernel)) (fun _ _ _ _ _ => (pg_name (i := 4) sc_behind_bell.nd rfl (Or.inl rfl))) (fun _ _ _ _ _ => pts_nil) (fun _ _ _ _ _ => (pe_call G_belt_behind_bell (hr.mono (by decide)) (by rfl) m_belt_behind_bell F_belt_behind_bell.kp b_belt_behind_bell .nil pass0 (pa_cons (pv 4) (pa_cons (pv 1) pa_nil))))) pa_nil)) pa_nil)))))), ?_⟩
  refine ⟨_, rfl, r, _, rfl, SqT.of er, rfl, _, _, rfl, _, _, rfl, rfl, ?_⟩
  refine ⟨_, rfl, _, rfl, ba, rfl, ⟨_, SqT.of eb⟩, fun D nD => lc_tup (K := K) (a := ba) (xs := bv) (fun i H5 => ∃ lv : List V, H5 D = some (.lst lv) ∧ All2 (BeltAt H5) lv ((cur.take i).map (nextB m)) ∧ Same H H5) ⟨[], upd_same, .nil, same_new nD⟩ (fun i H5 _ ⟨_, _, _, s5⟩ => SqT.of (s5 _ _ eb)) ?_ ?_⟩
  · rintro i x H5 hx ⟨lv, hD, al, s5⟩
    obtain ⟨b, eb2, hB⟩ := alb.getL hx
    have il := (List.getElem?_eq_some_iff.mp eb2).1
    obtain ⟨b1, b2⟩ := hb b (List.mem_of_getElem? eb2)
    refine ⟨rfl, yes_in ⟨_, rfl, _, rfl, x, b, t, m, rfl, hB.keep (TK.same s5), s5 _ _ ht, b1, b2, fun u H6 hu s6 => ⟨lv, s6 _ _ hD, ?_, lv ++ [u], upd_same, ?_, Same.own (s5.trans s6) nD⟩⟩⟩
    · have := al.length
      rw [List.length_map, List.length_take] at this
      exact small1000 (by omega)
    · rw [List.take_add_one, eb2, List.map_append]
      exact ((al.imp fun _ _ z => z.keep (TK.same s6)).snoc hu).imp fun _ _ z => z.keep (TK.lst (s6 _ _ hD))
  · rintro H5 ⟨lv, hD, al, s5⟩
    rw [lbv, List.take_length] at al
    refine ⟨D, _, rfl, .inl ⟨SqL.of hD, fun p np => ⟨(by show 2 ≤ sizeLine; decide), fun p2 np2 => ?_⟩⟩⟩
    have s6 : Same H (upd (upd H5 p (.tup lv)) p2 (.tup [V.ref ha, V.ref p])) := (s5.trans (same_new np)).trans (same_new np2)
    exact q p2 _ ⟨ha, p, hv, lv, upd_same, s6 _ _ eh, same_new np2 _ _ upd_same, alh.imp fun _ _ z => z.keep (TK.same s6), al.imp fun _ _ z => z.keep ((TK.new np).trans (TK.new np2))⟩ s6
end
theorem filt_map {α β : Type} (p : Option α → Bool) (g : Option α → β) (l : List α) : ∀ n, n ≤ l.length → ((List.range n).filter fun i => p l[i]?).map (fun i => g l[i]?) = ((l.take n).filter fun b => p (some b)).map fun b => g (some b)
  | 0, _ => rfl
  | n + 1, h => by
    have e : l[n]? = some l[n] := List.getElem?_eq_getElem (by omega)
    rw [filt_succ, List.map_append, filt_map p g l n (by omega), List.take_add_one, e, List.filter_append, List.map_append]
    congr 1
    cases k : p (some l[n])
    · rw [if_neg Bool.false_ne_true]
      simp [k]
    · rw [if_pos rfl]
      simp [k, e]
def valI (cur : List BR) (f : Nat → Int) (i : Nat) : Int := match cur[i]? with | some b => valB f b | none => 0
theorem coming_takes (cur : List BR) (f : Nat → Int) (k : Nat) : (comingN cur k).map (valI cur f) = takes cur f k := by
  have := filt_map (fun o => decide (o.map BR.to = some k)) (fun o : Option BR => match o with | some b => valB f b | none => 0) cur cur.length (Nat.le_refl _)
  rw [List.take_length] at this
  refine this.trans ?_
  unfold takes
  congr 1
  refine List.filter_congr fun b _ => ?_
  simp
theorem takes_len {cur : List BR} {f : Nat → Int} {k : Nat} : (takes cur f k).length = (cur.map BR.to).count k := by
  unfold takes
  rw [List.length_map, List.count_eq_countP, List.countP_map, List.countP_eq_length_filter]
  congr 1
theorem coming_mem {cur : List BR} {k i : Nat} (h : i ∈ comingN cur k) : ∃ b, cur[i]? = some b ∧ b.to = k := by
  unfold comingN at h
  have h := (List.mem_filter.mp h).2
  have h := of_decide_eq_true h
  cases e : cur[i]? with
  | none => rw [e] at h; cases h
  | some b => rw [e] at h; exact ⟨b, rfl, Option.some.inj h⟩
theorem coming_len {cur : List BR} {k : Nat} : (comingN cur k).length ≤ cur.length := filt_len _
/-- what made_by asks of a good hand and what it takes -/
theorem getD_map {xs : List Int} {j : Nat} (h : j < xs.length) : (xs.map V.int)[j]? = some (.int (xs.getD j 0)) := by
  rw [List.getElem?_map, List.getElem?_eq_getElem h, List.getD_eq_getElem?_getD, List.getElem?_eq_getElem h]; rfl
theorem needs_some {wd : Str} (h1 : wd ≠ "in") (h2 : wd ≠ "always") : 1 ≤ needs wd := by
  unfold needs
  rw [if_neg (by simp [h1, h2])]
  split
  · exact Int.le_refl _
  · split <;> decide
theorem needs_two {wd : Str} (h1 : wd ≠ "in") (h2 : wd ≠ "always") (h3 : wd ≠ "times") (h4 : wd ≠ "same") (h5 : wd ≠ "out") : 2 ≤ needs wd := by
  unfold needs
  rw [if_neg (by simp [h1, h2]), if_neg (by simp [h3, h4, h5])]
  split <;> decide
theorem needs_pick : needs "pick" = 3 := by decide +kernel
structure Args (h : HR) (rl ts : List V) (n a b c : Int) : Prop where
  r0 : rl[0]? = some (.str h.wd)
  r1 : h.wd = "always" ∨ h.wd = "times" → rl[1]? = some (.int n)
  t0 : h.wd ≠ "always" → ts[0]? = some (.int a)
  t1 : h.wd = "pick" ∨ (h.wd ≠ "always" ∧ h.wd ≠ "times" ∧ h.wd ≠ "same" ∧ h.wd ≠ "out") → ts[1]? = some (.int b)
  t2 : h.wd = "pick" → ts[2]? = some (.int c)
  big : -(2 ^ 64) < n ∧ n < 2 ^ 64
theorem args_of {h : HR} (g : GoodHand h) (w : h.wd ≠ "in") {xs : List Int} (hl : ((xs.length : Nat) : Int) = needs h.wd) : Args h (ruleL h) (xs.map V.int) (h.no.getD 0) (xs.getD 0 0) (xs.getD 1 0) (xs.getD 2 0) := by
  refine ⟨rfl, fun e => ?_, fun e => getD_map ?_, fun e => getD_map ?_, fun e => getD_map ?_, ?_⟩
  · have k : h.no.isSome = true := by
      rcases g.1 with k | k
      · exact k.no.mpr e.symm
      · exfalso
        rcases k.1 with z | z <;> rcases e with e | e <;> rw [z] at e <;> exact absurd e (by decide +kernel)
    obtain ⟨n, hn⟩ := Option.isSome_iff_exists.mp k
    show (V.str h.wd :: (match h.no with | none => [] | some n => [.int n]))[1]? = _
    rw [hn]
    rfl
  · have := needs_some w e
    omega
  · rcases e with e | ⟨e1, e2, e3, e4⟩
    · rw [e, needs_pick] at hl
      omega
    · have := needs_two w e1 e2 e3 e4
      omega
  · rw [e, needs_pick] at hl
    omega
  · cases e : h.no with
    | none => decide
    | some n =>
      rcases g.1 with k | k
      · have := k.big n e
        show -(2 ^ 64) < n ∧ n < 2 ^ 64
        omega
      · rw [k.2] at e
        cases e
section
variable {P : Program} {w : World} {K : PySem.W.Frag} {mg : Str → Option Value} {base : Heap}
structure BellOk (hs : List HR) (cur : List BR) : Prop where
  hands : hs.length ≤ 12
  belts : cur.length ≤ 20
  good : ∀ h ∈ hs, GoodHand h
  ends : ∀ b ∈ cur, b.one < hs.length ∧ b.to < hs.length
  count : ∀ k h, hs[k]? = some h → (((cur.map BR.to).count k : Nat) : Int) = needs h.wd
theorem dget0 {H : Hp} {a : Addr} {kvs : List (Key × V)} {k : Nat} {o : Option V} (e : H a = some (.dK kvs)) (h : valV kvs (kN k) = o) : DGet H a (.int (0 + ((k : Nat) : Int))) o := by
  rw [Int.zero_add]
  exact dget_of e h
def sp_made_at_bell (K : PySem.W.Frag) : Sp := fun vs H Q _ => ∃ (r pl t D : Addr) (Z : Hp) (hs : List HR) (cur : List BR) (pv : List V) (ord : List Nat) (ins : List Int), vs = [.ref r, .ref pl, .ref t] ∧ RoomAt H r hs cur ∧ H pl = some (.lst pv) ∧ All2 (PlanAt Z D cur H) pv ord ∧ H t = some (.tup (ins.map V.int)) ∧
  BellOk hs cur ∧ Soon (looseOf cur) (List.range hs.length) ord ∧ ins.length = (doorsOf "in" hs).length ∧ ∀ (p : Addr) (m : List Int) (H' : Hp), H p = none → H' p = some (.tup (m.map V.int)) → IsBell hs cur ins m → Same H H' → Q (.ref p) H'
theorem ok_made_at_bell {f : Addr} {fd : FuncData} (F : Fun K "made_at_bell" "made_at_bell" s_made_at_bell f fd) {C : Addr} (T : Top K mg C) : FnOk P w K mg base CX0 3 f fd ["room", "plan", "things"] (sp_made_at_bell K) := by
  obtain ⟨f_doors_in, fd_doors_in, F_doors_in, b_doors_in, m_doors_in⟩ := T.d_doors_in
  have G_doors_in := ok_doors_in (P := P) (w := w) (base := base) F_doors_in T
  obtain ⟨f_made_by, fd_made_by, F_made_by, b_made_by, m_made_by⟩ := T.d_made_by
  have G_made_by := ok_made_by (P := P) (w := w) (base := base) F_made_by T
  obtain ⟨f_thing_taken, fd_thing_taken, F_thing_taken, b_thing_taken, m_thing_taken⟩ := T.d_thing_taken
  have G_thing_taken := ok_thing_taken (P := P) (w := w) (base := base) F_thing_taken T
  refine F.ok sc_made_at_bell (fun vs H Q E h => ?_) (fun cdv A outer s H vs Q E hr h => ?_)
  · obtain ⟨r, pl, t, D, Z, hs, cur, pls, ord, ins, rfl, _⟩ := h
    rfl
  obtain ⟨r, pl, t, D0, Z0, hs, cur, pls, ord, ins, rfl, hR, hpl, alp, ht, ok, soon, hi, q⟩ := h
  obtain ⟨ha, ba, hv, bv, er, eh, eb, alh, alb⟩ := hR.ex
  have lh := ok.hands
  have lbb := ok.belts
  have lhv := alh.length
  have lo := soon_len soon
  rw [List.length_range] at lo
  have lpv := alp.length
  have ld := doors_len (z := "in") (hs := hs)
  refine ⟨_, (pss_cons (ps_asg (pv 0) (pg_tupK K rfl rfl (pgs_cons (pg_name (i := 3) sc_made_at_bell.nd rfl (Or.inl rfl)) (pgs_cons (pg_name (i := 4) sc_made_at_bell.nd rfl (Or.inr rfl)) pgs_nil))))
      (pss_cons (ps_set (i := 5) sc_made_at_bell.nd rfl (Or.inr rfl) (pe_dictZip K rfl rfl (by rfl) T.m_dict (by rfl) T.m_zip (pa_cons (pe_call G_doors_in (hr.mono (by decide)) (by rfl) m_doors_in F_doors_in.kp b_doors_in .nil pass0 (pa_cons (pv 0) pa_nil)) (pa_cons (pv 2) pa_nil))))
      (pss_cons (ps_for PassesOwn.never rfl (pi_listK K rfl (pv 1)) (pg_tupK K rfl rfl (pgs_cons (pg_name (i := 6) sc_made_at_bell.nd rfl (Or.inl rfl)) (pgs_cons (pg_name (i := 7) sc_made_at_bell.nd rfl (Or.inl rfl)) pgs_nil)))
        (pss_one (ps_if (pt_cmp (pc_dnotin (hu_of hr) (pv 6) (pv 5)) (by with_unfolding_all rfl)) (pss_cons (ps_setLc (i := 8) (own := [("number", 9)]) (g := gName 9) (tt := tYes) (by rfl) sc_made_at_bell.nd rfl rfl (sw_true rfl rfl rfl (by decide +kernel)) (pi_listK K rfl (pv 7)) (blkOk_by (own := [("number", 9)]) (N := N_made_at_bell) (sc := defScope s_made_at_bell) (by decide +kernel)) (fun _ _ _ _ _ => (pg_name (i := 9) sc_made_at_bell.nd rfl (Or.inl rfl))) (fun _ _ _ _ _ => pts_nil) (fun _ _ _ _ _ => (pe_call G_thing_taken (hr.mono (by decide)) (by rfl) m_thing_taken F_thing_taken.kp b_thing_taken .nil pass0 (pa_cons (pe_ix (ix_tupK K rfl) (pv 4) (pv 9) (fun _ _ => rfl)) (pa_cons (pv 5) pa_nil)))))
      (pss_one (ps_dput (hu_of hr) (pv 5) (pv 6) (pe_call G_made_by (hr.mono (by decide)) (by rfl) m_made_by F_made_by.kp b_made_by .nil pass0 (pa_cons (pe_ix (ix_tupK K rfl) (pe_ix (ix_tupK K rfl) (pv 3) (pv 6) (fun _ _ => rfl)) pe_int (fun _ _ => rfl)) (pa_cons (pe_callTy (call_tuple_ofK K rfl) (by rfl) T.m_tuple (by decide +kernel) (pa_cons (pv 8) pa_nil)) pa_nil))) (by rfl)))) pss_nil)))
      (pss_one (ps_ret (pe_callTy (call_tuple_ofK K rfl) (by rfl) T.m_tuple (by decide +kernel) (pa_cons (pe_lc (own := [("hand", 6)]) (g := gName 6) (tt := tYes) (by rfl) sc_made_at_bell.nd (pi_range1 (by rfl) T.m_range (pa_cons (pe_callB (call_len_seqK K rfl) (by rfl) T.m_len (by decide +kernel) (pa_cons (pv 3) pa_nil)) pa_nil)) (blkOk_by (own := [("hand", 6)]) (N := N_made_at_bell) (sc := defScope s_made_at_bell) (by decide +kernel)) (fun _ _ _ _ _ => (pg_name (i := 6) sc_made_at_bell.nd rfl (Or.inl rfl))) (fun _ _ _ _ _ => pts_nil) (fun _ _ _ _ _ => (pe_dget (hu_of hr) (pv 5) (pv 6) (fun _ _ => rfl)))) pa_nil))))))), ?_⟩
  refine ⟨_, rfl, r, _, rfl, SqT.of er, rfl, _, _, rfl, _, _, rfl, rfl, ?_⟩
  refine ⟨_, rfl, r, hs, cur, rfl, hR, by omega, ok.good, fun dd H1 ndd hdd s1 => ⟨_, rfl, dd, t, (doorsOf "in" hs).map kN, ins.map V.int, rfl, SqL.of (by rw [hdd, List.map_map]; rfl), SqT.of (s1 _ _ ht), fun d nd => ?_⟩⟩
  have nd0 : H d = none := same_none s1 nd
  have s2 : Same H (upd H1 d (.dK (mergeK [] (((doorsOf "in" hs).map kN).zip (ins.map V.int))))) := s1.trans (same_new nd)
  have len0 : (mergeK [] (((doorsOf "in" hs).map kN).zip (ins.map V.int))).length ≤ 12 := by
    refine Nat.le_trans (length_mergeK _ []) ?_
    rw [List.length_zip, List.length_map, List.length_map, List.length_nil]
    omega
  refine ⟨_, rfl, pl, rfl, ⟨_, SqL.of (s2 _ _ hpl)⟩, for_list (K := K) (a := pl) (xs := pls) (fun i σ H2 => ∃ (v6 v7 v8 v9 : Option V) (kvs : List (Key × V)) (pm : Nat → Option Int) (left : List Nat), σ = [some (.ref r), some (.ref pl), some (.ref t), some (.ref ha), some (.ref ba), some (.ref d), v6, v7, v8, v9] ∧ H2 d = some (.dK kvs) ∧ DM kvs pm ∧ Part hs cur ins pm ∧ kvs.length ≤ 12 + i ∧ Same H H2 ∧ Soon (looseOf cur) left (ord.drop i) ∧ (∀ k, k < hs.length → k ∉ left → (pm k).isSome = true) ∧ (∀ (k : Nat) (h : HR), hs[k]? = some h → h.wd = "in" → (pm k).isSome = true))
    ⟨none, none, none, none, _, doorM hs ins, List.range hs.length, rfl, upd_same, doorM_dm hi, doorM_part, len0, s2, soon, fun k hk n => absurd (List.mem_range.mpr hk) n, fun k h e w => doorM_all hi e w⟩ (fun i σ H2 _ ⟨_, _, _, _, _, _, _, _, _, _, _, _, s, _⟩ => SqL.of (s _ _ hpl)) ?_ ?_⟩
  · rintro i x σ H2 hx ⟨v6, v7, v8, v9, kvs, pm, left, rfl, hd, dm, part, lk, s3, so, all, doors⟩
    obtain ⟨k, ek, ⟨t2, l, rfl, p1, p2, _⟩⟩ := alp.getL hx
    have il := (List.getElem?_eq_some_iff.mp ek).1
    have ed : ord.drop i = k :: ord.drop (i + 1) := by
      rw [List.drop_eq_getElem_cons il, (List.getElem?_eq_some_iff.mp ek).2]
    rw [ed] at so
    obtain ⟨kl, fr, so2⟩ : k ∈ left ∧ free (looseOf cur) left k ∧ Soon (looseOf cur) (left.erase k) (ord.drop (i + 1)) := by
      cases so with
      | cons a b c d => exact ⟨a, b, d⟩
    have kn : k < hs.length := by
      have e := soon_mem soon k (List.mem_of_getElem? ek)
      exact List.mem_range.mp e
    have eh2 : hs[k]? = some hs[k] := List.getElem?_eq_getElem kn
    refine ⟨t2, _, rfl, SqT.of (s3 _ _ p1), rfl, _, _, rfl, _, _, rfl, rfl, ?_⟩
    refine ⟨_, rfl, _, rfl, d, _, rfl, dget_of hd (dm k), _, rfl, if_bl (fun c => ?_) (fun c => ?_)⟩
    · have new : pm k = none := by
        cases e : pm k with
        | none => rfl
        | some v => rw [e] at c; cases c
      have win : hs[k].wd ≠ "in" := fun z => by
        have := doors k _ eh2 z
        rw [new] at this
        cases this
      have there : ∀ b ∈ cur, b.to = k → b.th = [] → (pm b.one).isSome = true := fun b b1 b2 b3 => all b.one (ok.ends b b1).1 (fr _ (mem_loose b1 b3) b2)
      have hl2 := s3 _ _ p2
      refine ⟨_, rfl, l, rfl, ⟨_, SqL.of hl2⟩, fun D nD => lc_list (K := K) (a := l) (xs := (comingN cur k).map nV) (fun j H5 => H5 D = some (.lst ((((comingN cur k).take j).map (valI cur fun j => (pm j).getD 0)).map V.int)) ∧ H5 d = some (.dK kvs) ∧ Same H2 H5) ⟨upd_same, same_new nD _ _ hd, same_new nD⟩ (fun j H5 _ ⟨_, _, s5⟩ => SqL.of (s5 _ _ hl2)) ?_ ?_⟩
      · rintro j x H5 hx ⟨hD, hd5, s5⟩
        rw [List.getElem?_map] at hx
        cases ej : (comingN cur k)[j]? with
        | none => rw [ej] at hx; cases hx
        | some n =>
        rw [ej] at hx
        obtain rfl : nV n = x := Option.some.inj hx
        have jl := (List.getElem?_eq_some_iff.mp ej).1
        have cl := coming_len (cur := cur) (k := k)
        obtain ⟨b, e1, e2⟩ := coming_mem (List.mem_of_getElem? ej)
        obtain ⟨v, ev, hB⟩ := alb.get e1
        have evi : valI cur (fun j => (pm j).getD 0) n = valB (fun j => (pm j).getD 0) b := by unfold valI; rw [e1]
        refine ⟨rfl, yes_in ⟨_, rfl, _, rfl, ba, _, _, _, rfl, rfl, SqT.of (s5 _ _ (s3 _ _ eb)), atI_nat ev, _, rfl, v, b, d, kvs, pm, rfl, hB.keep (TK.same (s3.trans s5)), hd5, dm, fun z => there b (List.mem_of_getElem? e1) e2 z, _, hD, ?_, ?_, ?_, Same.own s5 nD⟩⟩
        · rw [List.length_map, List.length_map, List.length_take]; exact small1000 (by omega)
        · rw [upd_same, List.take_add_one, ej, List.map_append, List.map_append, ← evi]; rfl
        · rw [upd_ne (ne_of_none hd nD)]; exact hd5
      · rintro H5 ⟨hD, hd5, s5⟩
        rw [List.length_map, List.take_length, coming_takes] at hD
        obtain ⟨xs, hxs⟩ : ∃ xs, xs = takes cur (fun j => (pm j).getD 0) k := ⟨_, rfl⟩
        rw [← hxs] at hD
        have lx : ((xs.length : Nat) : Int) = needs hs[k].wd := by rw [hxs, takes_len]; exact ok.count k _ eh2
        obtain ⟨v, ev, ⟨tk, rk2, rfl, h1, h2⟩⟩ := alh.get eh2
        have s4 := s3.trans s5
        have A := args_of (ok.good _ (List.mem_of_getElem? eh2)) win lx
        refine ⟨_, rfl, _, rfl, ha, _, _, _, rfl, rfl, SqT.of (s4 _ _ eh), atI_nat ev, tk, _, _, _, rfl, rfl, SqT.of (s4 _ _ h1), atI_nat (j := 0) rfl, _, rfl, D, _, rfl, .inl ⟨SqL.of hD, fun tt ntt => ?_⟩⟩
        have s5b := s4.trans (same_new (o := .tup (xs.map V.int)) ntt)
        refine ⟨rk2, tt, _, _, hs[k].wd, _, _, _, _, rfl, SqT.of (s5b _ _ h2), SqT.of upd_same, A.r0, A.r1, A.t0, A.t1, A.t2, A.big, fun H6 s6 => ?_⟩
        have hd6 := s6 _ _ (same_new ntt _ _ hd5)
        refine ⟨_, rfl, _, rfl, d, _, rfl, DPut.k (k := kN k) hd6 (small1000 (by omega)), ?_⟩
        refine ⟨_, _, _, _, _, putM pm k (mkR hs[k] xs), left.erase k, rfl, upd_same, dm.put k _, by rw [hxs]; exact part.put eh2 win new there, ?_, Same.own (s5b.trans s6) nd0, so2, fun j hj n => ?_, fun j h e w => ?_⟩
        · have := length_putK kvs (kN k) (V.int (mkR hs[k] xs))
          exact Nat.le_trans this (by omega)
        · by_cases e : j = k
          · rw [show putM pm k (mkR hs[k] xs) j = some _ from if_pos e]; rfl
          · rw [show putM pm k (mkR hs[k] xs) j = pm j from if_neg e]
            exact all j hj fun z => n ((List.mem_erase_of_ne e).mpr z)
        · by_cases e' : j = k
          · rw [show putM pm k (mkR hs[k] xs) j = some _ from if_pos e']; rfl
          · rw [show putM pm k (mkR hs[k] xs) j = pm j from if_neg e']
            exact doors j h e w
    · have old : (pm k).isSome = true := by
        cases e : pm k with
        | none => rw [e] at c; cases c
        | some v => rfl
      refine ⟨_, _, _, _, kvs, pm, left.erase k, rfl, hd, dm, part, by omega, s3, so2, fun j hj n => ?_, doors⟩
      by_cases e : j = k
      · rw [e]; exact old
      · exact all j hj fun z => n ((List.mem_erase_of_ne e).mpr z)
  · rintro σ H2 ⟨v6, v7, v8, v9, kvs, pm, left, rfl, hd, dm, part, lk, s3, so, all, doors⟩
    rw [List.drop_eq_nil_of_le (by omega)] at so
    have el : left = [] := by
      cases so
      rfl
    subst el
    have full : ∀ k, k < hs.length → (pm k).isSome = true := fun k hk => all k hk (fun z => nomatch z)
    refine ⟨_, rfl, ha, _, rfl, .inr (SqT.of (s3 _ _ eh)), _, rfl, by omega, by omega, fun D nD => lc_range (lo := 0) (n := hv.length) (fun j H5 => H5 D = some (.lst ((fullM j pm).map V.int)) ∧ H5 d = some (.dK kvs) ∧ Same H2 H5) ⟨upd_same, same_new nD _ _ hd, same_new nD⟩ ?_ ?_⟩
    · rintro j H5 hj ⟨hD, hd5, s5⟩
      obtain ⟨v, ev⟩ := Option.isSome_iff_exists.mp (full j (by omega))
      refine ⟨rfl, yes_in ⟨_, rfl, _, rfl, d, .int v, rfl, dget0 hd5 (by rw [dm, ev]; rfl), _, hD, ?_, ?_, ?_, Same.own s5 nD⟩⟩
      · rw [List.length_map, List.length_map, List.length_range]; exact small1000 (by omega)
      · rw [upd_same]
        unfold fullM
        rw [List.range_succ, List.map_append, List.map_append]
        simp [ev]
      · rw [upd_ne (ne_of_none hd nD)]; exact hd5
    · rintro H5 ⟨hD, hd5, s5⟩
      rw [lhv] at hD
      exact ⟨D, _, rfl, .inl ⟨SqL.of hD, fun p np => q p _ _ (same_none (s3.trans s5) np) upd_same (part.full full) ((s3.trans s5).trans (same_new np))⟩⟩
end
/-- a list or a tuple of rows -/
def RowsAt (H : Hp) (a : Addr) (rows : List (List Int)) : Prop := ∃ rv : List V, (H a = some (.lst rv) ∨ H a = some (.tup rv)) ∧ All2 (RowAt H) rv rows
theorem RowsAt.same {H H' : Hp} {a : Addr} {rows : List (List Int)} (h : RowsAt H a rows) (s : Same H H') : RowsAt H' a rows := by
  obtain ⟨rv, e, al⟩ := h
  exact ⟨rv, e.imp (s _ _) (s _ _), al.imp fun _ _ z => z.keep (TK.same s)⟩
theorem either_stays {H H' : Hp} {a : Addr} {xs : List V} (s : Same H H') (h : H a = some (.lst xs) ∨ H a = some (.tup xs)) : H' a = H a := by
  rcases h with e | e <;> rw [s _ _ e, e]
theorem or_seq {K : PySem.W.Frag} {te : TE} {σ : L2.St} {H : Hp} {R : It → Hp → Prop} {a : Addr} {xs : List V} (ht : ∀ Q : VK, Q (.ref a) H → te σ H Q) (h : H a = some (.lst xs) ∨ H a = some (.tup xs))
    (k : ∀ J : It, (∀ i H', H' a = H a → i < xs.length → J.go i H') → (∀ H', H' a = H a → J.stop xs.length H') → (∀ i H' x H'', H' a = H a → J.yld i H' x H'' → xs[i]? = some x ∧ H'' = H') → R J H) :
    iList K te σ H R ∨ iTup K te σ H R := by
  rcases h with e | e
  · refine .inl (ht _ ⟨a, rfl, ⟨_, SqL.of e⟩, k _ (fun i H' q hi => ?_) (fun H' q => ?_) fun i H' x H'' q y => ?_⟩)
    · exact ⟨xs, _, SqL.of (q.trans e), List.getElem?_eq_getElem hi⟩
    · exact ⟨xs, SqL.of (q.trans e), Nat.le_refl _⟩
    · exact ⟨y.2 _ (SqL.of (q.trans e)), y.1⟩
  · refine .inr (ht _ ⟨a, rfl, ⟨_, SqT.of e⟩, k _ (fun i H' q hi => ?_) (fun H' q => ?_) fun i H' x H'' q y => ?_⟩)
    · exact ⟨xs, _, SqT.of (q.trans e), List.getElem?_eq_getElem hi⟩
    · exact ⟨xs, SqT.of (q.trans e), Nat.le_refl _⟩
    · exact ⟨y.2 _ (SqT.of (q.trans e)), y.1⟩
theorem map_to (bs : List BR) (ms : List (List Int)) : (stand bs ms).map BR.to = bs.map BR.to := by
  rw [List.map_map]
  exact List.map_congr_left fun b _ => stand_to ms b
theorem coming_stand (bs : List BR) (ms : List (List Int)) (k : Nat) : comingN (stand bs ms) k = comingN bs k := by
  unfold comingN
  rw [List.length_map]
  refine List.filter_congr fun i _ => ?_
  rw [List.getElem?_map]
  cases bs[i]? with
  | none => rfl
  | some b =>
    show decide (some (standB ms b).to = some k) = decide (some b.to = some k)
    rw [stand_to]
theorem RoomOk.bell {hs : List HR} {bs : List BR} (ok : RoomOk hs bs) (ms : List (List Int)) : BellOk hs (stand bs ms) := by
  refine ⟨ok.hands, by rw [List.length_map]; exact ok.many, ok.good, fun b hb => ?_, fun k h e => by rw [map_to]; exact ok.count k h e⟩
  obtain ⟨c, hc, rfl⟩ := List.mem_map.mp hb
  rw [stand_one, stand_to]
  exact ok.ends c hc
theorem RoomOk.rk {hs : List HR} {bs : List BR} (ok : RoomOk hs bs) : ∃ rk : Nat → Int, ∀ p ∈ looseOf bs, rk p.1 < rk p.2 := by
  obtain ⟨rk, h⟩ := ok.rank
  refine ⟨rk, fun p hp => ?_⟩
  obtain ⟨b, hb, rfl⟩ := List.mem_map.mp hp
  obtain ⟨h1, h2⟩ := List.mem_filter.mp hb
  exact h b h1 (List.isEmpty_iff.mp h2)
theorem out_lt {hs : List HR} {m : List Int} (hl : m.length = hs.length) : ∀ k ∈ doorsOf "out" hs, k < m.length := fun k hk => by
  obtain ⟨h, e, _⟩ := mem_doors.mp hk
  have := (List.getElem?_eq_some_iff.mp e).1
  omega
/-! ### a Run -/
abbrev rf (st pl dr : Addr) (n : Int) : List (Str × V) := [("stands", .ref st), ("plan", .ref pl), ("doors", .ref dr), ("many", .int n)]
theorem rf_many {st pl dr : Addr} {n m : Int} : putF "many" (.int m) (rf st pl dr n) = rf st pl dr m := by rfl
theorem rf_stands {st su pl dr : Addr} {n : Int} : putF "stands" (.ref su) (rf st pl dr n) = rf su pl dr n := by rfl
/-- a Run at p, behind the bells ms of the room hs, bs; G: what it has made and never changes -/
structure RunAt (C : Addr) (G H : Hp) (p : Addr) (hs : List HR) (bs : List BR) (ms : List (List Int)) : Prop where
  ex : ∃ (dx st pl dr D : Addr) (Z : Hp) (ord : List Nat) (pls : List V), H p = some (.ins C dx (rf st pl dr (ms.length : Nat))) ∧ RoomAt H st hs (stand bs ms) ∧ G pl = some (.lst pls) ∧ All2 (PlanAt Z D bs G) pls ord ∧ Soon (looseOf bs) (List.range hs.length) ord ∧ G dr = some (.lst ((doorsOf "out" hs).map nV)) ∧ Same G H ∧ G p = none
theorem RunAt.go {C : Addr} {G H H' : Hp} {p : Addr} {hs : List HR} {bs : List BR} {ms : List (List Int)} (h : RunAt C G H p hs bs ms) (e : H' p = H p) (k : TK H H') (s : Same G H') : RunAt C G H' p hs bs ms := by
  obtain ⟨dx, st, pl, dr, D, Z, ord, pls, h1, h2, h3, h4, h5, h6, h7, h8⟩ := h.ex
  exact ⟨dx, st, pl, dr, D, Z, ord, pls, e.trans h1, h2.keep k, h3, h4, h5, h6, s, h8⟩
theorem RunAt.ins {C : Addr} {G H : Hp} {p : Addr} {hs : List HR} {bs : List BR} {ms : List (List Int)} (h : RunAt C G H p hs bs ms) : ∃ dx fs, H p = some (.ins C dx fs) := by
  obtain ⟨dx, st, pl, dr, D, Z, ord, pls, h1, h2, h3, h4, h5, h6, h7, h8⟩ := h.ex
  exact ⟨_, _, h1⟩
theorem RunAt.gs {C : Addr} {G H : Hp} {p : Addr} {hs : List HR} {bs : List BR} {ms : List (List Int)} (h : RunAt C G H p hs bs ms) : Same G H ∧ G p = none := by
  obtain ⟨dx, st, pl, dr, D, Z, ord, pls, h1, h2, h3, h4, h5, h6, h7, h8⟩ := h.ex
  exact ⟨h7, h8⟩
section
variable {P : Program} {w : World} {K : PySem.W.Frag} {mg : Str → Option Value} {base : Heap}
def sp_Run_bells (K : PySem.W.Frag) (C : Addr) : Sp := fun vs H Q _ => ∃ (p : Addr) (hs : List HR) (bs : List BR) (ms : List (List Int)) (G : Hp), vs = [.ref p] ∧ RunAt C G H p hs bs ms ∧ Q (.int (ms.length : Nat)) H
theorem ok_Run_bells {f : Addr} {fd : FuncData} (F : Fun K "bells" "Run.bells" s_Run_bells f fd) {C : Addr} (T : Top K mg C) : FnOk P w K mg base CX0 1 f fd ["self"] (sp_Run_bells K C) := by
  refine F.ok sc_Run_bells (fun vs H Q E h => ?_) (fun cdv A outer s H vs Q E hr h => ?_)
  · obtain ⟨p, hs, bs, ms, G, rfl, _⟩ := h
    rfl
  obtain ⟨p, hs, bs, ms, G, rfl, ⟨dx, st, pl, dr, D, Z, ord, pls, hp, hst, hpl, alp, soon, hdr, sg, gp⟩, q⟩ := h
  refine ⟨_, (pss_one (ps_ret (pe_fldK K rfl (pv 0) rfl))), ?_⟩
  exact ⟨_, rfl, p, C, dx, _, _, rfl, hp, T.cl, T.n_many, rfl, q⟩
def sp_Run_room (K : PySem.W.Frag) (C : Addr) : Sp := fun vs H Q _ => ∃ (p : Addr) (hs : List HR) (bs : List BR) (ms : List (List Int)) (G : Hp), vs = [.ref p] ∧ RunAt C G H p hs bs ms ∧ ∀ st : Addr, RoomAt H st hs (stand bs ms) → Q (.ref st) H
theorem ok_Run_room {f : Addr} {fd : FuncData} (F : Fun K "room" "Run.room" s_Run_room f fd) {C : Addr} (T : Top K mg C) : FnOk P w K mg base CX0 1 f fd ["self"] (sp_Run_room K C) := by
  refine F.ok sc_Run_room (fun vs H Q E h => ?_) (fun cdv A outer s H vs Q E hr h => ?_)
  · obtain ⟨p, hs, bs, ms, G, rfl, _⟩ := h
    rfl
  obtain ⟨p, hs, bs, ms, G, rfl, ⟨dx, st, pl, dr, D, Z, ord, pls, hp, hst, hpl, alp, soon, hdr, sg, gp⟩, q⟩ := h
  refine ⟨_, (pss_one (ps_ret (pe_fldK K rfl (pv 0) rfl))), ?_⟩
  exact ⟨_, rfl, p, C, dx, _, _, rfl, hp, T.cl, T.n_stands, rfl, q st hst⟩
theorem ins_tk {C p dx : Addr} {H : Hp} {fs gs : List (Str × V)} (h : H p = some (.ins C dx fs)) : TK H (upd H p (.ins C dx gs)) := fun x zs e => by
  rw [upd_ne (ne_of e h (fun z => nomatch z))]
  exact e
def sp_Run_bell (K : PySem.W.Frag) (C : Addr) : Sp := fun vs H Q _ => ∃ (p t : Addr) (hs : List HR) (bs : List BR) (ms : List (List Int)) (G : Hp) (row : List Int), vs = [.ref p, .ref t] ∧ RunAt C G H p hs bs ms ∧ RoomOk hs bs ∧ H t = some (.tup (row.map V.int)) ∧ row.length = (doorsOf "in" hs).length ∧
  ∀ (o : Addr) (m : List Int) (H' : Hp), IsBell hs (stand bs ms) row m → RunAt C G H' p hs bs (ms ++ [m]) → H o = none → H' o = some (.tup ((outsOf hs m).map V.int)) → But p H H' → Q (.ref o) H'
theorem ok_Run_bell {f : Addr} {fd : FuncData} (F : Fun K "bell" "Run.bell" s_Run_bell f fd) {C : Addr} (T : Top K mg C) : FnOk P w K mg base CX0 4 f fd ["self", "things"] (sp_Run_bell K C) := by
  obtain ⟨f_made_at_bell, fd_made_at_bell, F_made_at_bell, b_made_at_bell, m_made_at_bell⟩ := T.d_made_at_bell
  have G_made_at_bell := ok_made_at_bell (P := P) (w := w) (base := base) F_made_at_bell T
  obtain ⟨f_behind_bell, fd_behind_bell, F_behind_bell, b_behind_bell, m_behind_bell⟩ := T.d_behind_bell
  have G_behind_bell := ok_behind_bell (P := P) (w := w) (base := base) F_behind_bell T
  obtain ⟨f_picked, fd_picked, F_picked, b_picked, m_picked⟩ := T.d_picked
  have G_picked := ok_picked (P := P) (w := w) (base := base) F_picked T
  refine F.ok sc_Run_bell (fun vs H Q E h => ?_) (fun cdv A outer s H vs Q E hr h => ?_)
  · obtain ⟨p, t, hs, bs, ms, G, row, rfl, _⟩ := h
    rfl
  obtain ⟨p, t, hs, bs, ms, G, row, rfl, ⟨dx, st, pl, dr, D, Z, ord, pls, hp, hst, hpl, alp, soon, hdr, sg, gp⟩, ok, ht, lrow, q⟩ := h
  have lh := ok.hands
  have lb := ok.many
  have ld := doors_len (z := "out") (hs := hs)
  refine ⟨_, (pss_cons (ps_set (i := 2) sc_Run_bell.nd rfl (Or.inl rfl) (pe_call G_made_at_bell (hr.mono (by decide)) (by rfl) m_made_at_bell F_made_at_bell.kp b_made_at_bell .nil pass0 (pa_cons (pe_fldK K rfl (pv 0) rfl) (pa_cons (pe_fldK K rfl (pv 0) rfl) (pa_cons (pv 1) pa_nil)))))
      (pss_cons (ps_fldK K rfl (pv 0) (pe_call G_behind_bell (hr.mono (by decide)) (by rfl) m_behind_bell F_behind_bell.kp b_behind_bell .nil pass0 (pa_cons (pe_fldK K rfl (pv 0) rfl) (pa_cons (pv 2) pa_nil))) rfl)
      (pss_cons (ps_fldaugK K rfl (pv 0) pe_int ip_add)
      (pss_one (ps_ret (pe_call G_picked (hr.mono (by decide)) (by rfl) m_picked F_picked.kp b_picked .nil pass0 (pa_cons (pv 2) (pa_cons (pe_fldK K rfl (pv 0) rfl) pa_nil)))))))), ?_⟩
  refine ⟨_, rfl, p, C, dx, _, _, rfl, hp, T.cl, T.n_stands, rfl, _, rfl, p, C, dx, _, _, rfl, hp, T.cl, T.n_plan, rfl, _, rfl, st, pl, t, D, Z, hs, stand bs ms, pls, ord, row, rfl, hst, sg _ _ hpl, alp.imp fun v k z => ?_, ht, ok.bell ms, by rw [loose_stand]; exact soon, lrow, fun u m H1 nu hu bell s1 => ?_⟩
  · obtain ⟨t', l, e1, e2, e3, e4⟩ := z.same sg
    exact ⟨t', l, e1, e2, by rw [coming_stand]; exact e3, e4⟩
  have lm := bell.len
  have hp1 := s1 _ _ hp
  refine ⟨_, rfl, p, C, dx, _, _, rfl, hp1, T.cl, T.n_stands, rfl, _, rfl, st, u, hs, stand bs ms, m, rfl, hst.keep (TK.same s1), hu, fun b hb => ?_, by rw [List.length_map]; omega, fun st2 H2 hst2 s2 => ?_⟩
  · have e1 := ((ok.bell ms).ends b hb).1
    obtain ⟨c, hc, rfl⟩ := List.mem_map.mp hb
    have e2 := stand_len ms c
    have e3 := (ok.th c hc).1
    exact ⟨by omega, by omega⟩
  rw [stand_next] at hst2
  have hp2 := s2 _ _ hp1
  refine ⟨_, rfl, p, C, dx, _, rfl, hp2, T.cl, T.n_stands, (by show 4 < 1000; decide), ?_⟩
  rw [rf_stands]
  refine ⟨_, rfl, p, C, dx, _, _, rfl, upd_same, T.cl, T.n_many, rfl, _, _, rfl, rfl, dx, _, upd_same, (by show 4 < 1000; decide), ?_⟩
  rw [rf_many, upd_upd]
  have s12 := s1.trans s2
  have b3 : But p H (upd H2 p (.ins C dx (rf st2 pl dr (((ms.length : Nat) : Int) + 1)))) := (But.of s12).upd
  have k3 : TK H2 (upd H2 p (.ins C dx (rf st2 pl dr (((ms.length : Nat) : Int) + 1)))) := ins_tk hp2
  have sg3 : Same G (upd H2 p (.ins C dx (rf st2 pl dr (((ms.length : Nat) : Int) + 1)))) := Same.own (sg.trans s12) gp
  have hdr3 := sg3 _ _ hdr
  refine ⟨_, rfl, _, rfl, p, C, dx, _, _, rfl, upd_same, T.cl, T.n_doors, rfl, u, dr, m, doorsOf "out" hs, rfl, k3 _ _ (s2 _ _ hu), hdr3, out_lt lm, by omega, fun o H4 no ho s4 => ?_⟩
  have en : ((ms.length : Nat) : Int) + 1 = (((ms ++ [m]).length : Nat) : Int) := by rw [List.length_append]; rfl
  refine q o m H4 bell ⟨dx, st2, pl, dr, D, Z, ord, pls, by rw [← en]; exact s4 _ _ upd_same, (hst2.keep k3).keep (TK.same s4), hpl, alp, soon, hdr, sg3.trans s4, gp⟩ ?_ ho (b3.same s4)
  · have nop : o ≠ p := fun e => by rw [e, upd_same] at no; cases no
    exact b3.none no nop
def sp_Run___init__ (K : PySem.W.Frag) (C : Addr) : Sp := fun vs H Q _ => ∃ (p r dx : Addr) (hs : List HR) (bs : List BR), vs = [.ref p, .ref r] ∧ H p = some (.ins C dx []) ∧ RoomAt H r hs bs ∧ RoomOk hs bs ∧
  ∀ (G H' : Hp), RunAt C G H' p hs bs [] → (∀ b o, H b = some o → G b = none) → But p H H' → Q .non H'
theorem ok_Run___init__ {f : Addr} {fd : FuncData} (F : Fun K "__init__" "Run.__init__" s_Run___init__ f fd) {C : Addr} (T : Top K mg C) : FnOk P w K mg base CX0 3 f fd ["self", "room"] (sp_Run___init__ K C) := by
  obtain ⟨f_work_plan, fd_work_plan, F_work_plan, b_work_plan, m_work_plan⟩ := T.d_work_plan
  have G_work_plan := ok_work_plan (P := P) (w := w) (base := base) F_work_plan T
  obtain ⟨f_doors_out, fd_doors_out, F_doors_out, b_doors_out, m_doors_out⟩ := T.d_doors_out
  have G_doors_out := ok_doors_out (P := P) (w := w) (base := base) F_doors_out T
  refine F.ok sc_Run___init__ (fun vs H Q E h => ?_) (fun cdv A outer s H vs Q E hr h => ?_)
  · obtain ⟨p, r, dx, hs, bs, rfl, _⟩ := h
    rfl
  obtain ⟨p, r, dx, hs, bs, rfl, hp, hR, ok, q⟩ := h
  have lh := ok.hands
  have lb := ok.many
  obtain ⟨rk, hrk⟩ := ok.rk
  refine ⟨_, (pss_cons (ps_fldK K rfl (pv 0) (pv 1) rfl)
      (pss_cons (ps_fldK K rfl (pv 0) (pe_call G_work_plan (hr.mono (by decide)) (by rfl) m_work_plan F_work_plan.kp b_work_plan .nil pass0 (pa_cons (pv 1) pa_nil)) rfl)
      (pss_cons (ps_fldK K rfl (pv 0) (pe_call G_doors_out (hr.mono (by decide)) (by rfl) m_doors_out F_doors_out.kp b_doors_out .nil pass0 (pa_cons (pv 1) pa_nil)) rfl)
      (pss_one (ps_fldK K rfl (pv 0) pe_int rfl))))), ?_⟩
  refine ⟨_, rfl, _, rfl, p, C, dx, _, rfl, hp, T.cl, T.n_stands, (by show 0 < 1000; decide), ?_⟩
  have k1 : TK H _ := ins_tk (gs := putF "stands" (.ref r) []) hp
  refine ⟨_, rfl, r, hs, bs, rk, rfl, hR.keep k1, by omega, by omega, ok.ends, hrk, fun pl D ord pls H1 npl hpl alp soon s1 => ?_⟩
  have p1 := s1 _ _ upd_same
  refine ⟨_, rfl, p, C, dx, _, rfl, p1, T.cl, T.n_plan, (by show 1 < 1000; decide), ?_⟩
  have k2 : TK H1 _ := ins_tk (gs := putF "plan" (.ref pl) (putF "stands" (.ref r) [])) p1
  refine ⟨_, rfl, r, hs, bs, rfl, (hR.keep k1).keep ((TK.same s1).trans k2), by omega, ok.good, fun dr H2 ndr hdr s2 => ?_⟩
  have p2 := s2 _ _ upd_same
  refine ⟨_, rfl, p, C, dx, _, rfl, p2, T.cl, T.n_doors, (by show 2 < 1000; decide), ?_⟩
  refine ⟨_, rfl, p, C, dx, _, rfl, upd_same, T.cl, T.n_many, (by show 3 < 1000; decide), ?_⟩
  have e4 : putF "many" (.int 0) (putF "doors" (.ref dr) (putF "plan" (.ref pl) (putF "stands" (.ref r) []))) = rf r pl dr (([] : List (List Int)).length : Nat) := by rfl
  rw [upd_upd, e4]
  have b1 : But p H _ := (But.refl (f := p) (H := H)).upd (o := .ins C dx (putF "stands" (.ref r) []))
  have b2 : But p H _ := ((b1.same s1).upd (o := .ins C dx (putF "plan" (.ref pl) (putF "stands" (.ref r) [])))).same s2
  have b3 : But p H (upd H2 p (.ins C dx (rf r pl dr (([] : List (List Int)).length : Nat)))) := b2.upd
  have plp : pl ≠ p := ne_of hpl p1 (fun z => nomatch z)
  have drp : dr ≠ p := ne_of hdr p2 (fun z => nomatch z)
  have b12 : But p H1 (upd H2 p (.ins C dx (rf r pl dr (([] : List (List Int)).length : Nat)))) := (((But.refl (f := p) (H := H1)).upd (o := .ins C dx (putF "plan" (.ref pl) (putF "stands" (.ref r) [])))).same s2).upd
  have npl0 : H pl = none := b1.none npl plp
  have ndr0 : H dr = none := (b1.same s1).upd.none ndr drp
  let G : Hp := fun b => match H b with | some _ => none | none => if b = p then none else upd H2 p (.ins C dx (rf r pl dr (([] : List (List Int)).length : Nat))) b
  have gof : ∀ b, H b = none → b ≠ p → G b = upd H2 p (.ins C dx (rf r pl dr (([] : List (List Int)).length : Nat))) b := fun b h1 h2 => by
    show (match H b with | some _ => none | none => if b = p then none else _) = _
    rw [h1]
    exact if_neg h2
  have gold : ∀ b o, H b = some o → G b = none := fun b o e => by
    show (match H b with | some _ => none | none => if b = p then none else _) = none
    rw [e]
  have sg : Same G (upd H2 p (.ins C dx (rf r pl dr (([] : List (List Int)).length : Nat)))) := fun b o e => by
    cases hb : H b with
    | some x => rw [gold b x hb] at e; cases e
    | none =>
      by_cases h2 : b = p
      · rw [h2] at hb; rw [hp] at hb; cases hb
      · rw [gof b hb h2] at e; exact e
  refine q G _ ⟨dx, r, pl, dr, D, upd H p (.ins C dx (putF "stands" (.ref r) [])), ord, pls, upd_same, by rw [stand_zero]; exact hR.keep ((((k1.trans (TK.same s1)).trans k2).trans (TK.same s2)).trans (ins_tk p2)), (gof pl npl0 plp).trans (b12 _ _ hpl plp), alp.imp fun v k z => ?_, soon, (gof dr ndr0 drp).trans (by rw [upd_ne drp]; exact hdr), sg, gold p _ hp⟩ gold b3
  obtain ⟨t', l, e1, e2, e3, e5, e6, e7⟩ := z
  have tp : t' ≠ p := ne_of e2 p1 (fun z => nomatch z)
  have lp : l ≠ p := ne_of e3 p1 (fun z => nomatch z)
  exact ⟨t', l, e1, (gof t' (by rw [upd_ne tp] at e6; exact e6) tp).trans (b12 _ _ e2 tp), (gof l (by rw [upd_ne lp] at e7; exact e7) lp).trans (b12 _ _ e3 lp), e5, e6, e7⟩
end
section
variable {P : Program} {w : World} {K : PySem.W.Frag} {mg : Str → Option Value} {base : Heap}
def sp_worked (K : PySem.W.Frag) : Sp := fun vs H Q _ => ∃ (r a : Addr) (hs : List HR) (bs : List BR) (rows : List (List Int)), vs = [.ref r, .ref a] ∧ RoomAt H r hs bs ∧ RoomOk hs bs ∧ RowsAt H a rows ∧ (∀ x ∈ rows, x.length = (doorsOf "in" hs).length) ∧ rows.length ≤ 100 ∧
  ∀ (p : Addr) (ov : List V) (ms : List (List Int)) (H' : Hp), H p = none → H' p = some (.lst ov) → All2 (RowAt H') ov ms → WS hs bs rows ms → Same H H' → Q (.ref p) H'
theorem ok_worked {f : Addr} {fd : FuncData} (F : Fun K "worked" "worked" s_worked f fd) {C : Addr} (T : Top K mg C) : FnOk P w K mg base CX0 4 f fd ["room", "rows"] (sp_worked K) := by
  obtain ⟨f_work_plan, fd_work_plan, F_work_plan, b_work_plan, m_work_plan⟩ := T.d_work_plan
  have G_work_plan := ok_work_plan (P := P) (w := w) (base := base) F_work_plan T
  obtain ⟨f_made_at_bell, fd_made_at_bell, F_made_at_bell, b_made_at_bell, m_made_at_bell⟩ := T.d_made_at_bell
  have G_made_at_bell := ok_made_at_bell (P := P) (w := w) (base := base) F_made_at_bell T
  obtain ⟨f_behind_bell, fd_behind_bell, F_behind_bell, b_behind_bell, m_behind_bell⟩ := T.d_behind_bell
  have G_behind_bell := ok_behind_bell (P := P) (w := w) (base := base) F_behind_bell T
  refine F.ok sc_worked (fun vs H Q E h => ?_) (fun cdv A outer s H vs Q E hr h => ?_)
  · obtain ⟨r, a, hs, bs, rows, rfl, _⟩ := h
    rfl
  obtain ⟨r, a, hs, bs, rows, rfl, hR, ok, ⟨rv, hrv, alr⟩, hw, lr, q⟩ := h
  have lh := ok.hands
  have lb := ok.many
  have lrv := alr.length
  obtain ⟨rk, hrk⟩ := ok.rk
  refine ⟨_, (pss_cons (ps_set (i := 2) sc_worked.nd rfl (Or.inl rfl) (pe_call G_work_plan (hr.mono (by decide)) (by rfl) m_work_plan F_work_plan.kp b_work_plan .nil pass0 (pa_cons (pv 0) pa_nil)))
      (pss_cons (ps_set (i := 3) sc_worked.nd rfl (Or.inl rfl) (pv 0))
      (pss_cons (ps_set (i := 4) sc_worked.nd rfl (Or.inl rfl) (pe_lst pa_nil))
      (pss_cons (ps_for PassesOwn.never rfl (pi_or (pi_listK K rfl (pv 1)) (pi_tupK K rfl (pv 1))) (pg_name (i := 5) sc_worked.nd rfl (Or.inl rfl))
        (pss_cons (ps_set (i := 6) sc_worked.nd rfl (Or.inl rfl) (pe_call G_made_at_bell (hr.mono (by decide)) (by rfl) m_made_at_bell F_made_at_bell.kp b_made_at_bell .nil pass0 (pa_cons (pv 3) (pa_cons (pv 2) (pa_cons (pv 5) pa_nil)))))
      (pss_cons (ps_set (i := 3) sc_worked.nd rfl (Or.inl rfl) (pe_call G_behind_bell (hr.mono (by decide)) (by rfl) m_behind_bell F_behind_bell.kp b_behind_bell .nil pass0 (pa_cons (pv 3) (pa_cons (pv 6) pa_nil))))
      (pss_one (ps_expr (pe_bmK K rfl PySem.F.plainAttrs_list PySem.F.slot_list_append PySem.F.type_list_append mt_append (pv 4) (pa_cons (pv 6) pa_nil)))))))
      (pss_one (ps_ret (pv 4))))))), ?_⟩
  refine ⟨_, rfl, r, hs, bs, rk, rfl, hR, by omega, by omega, ok.ends, hrk, fun pl D ord pls H1 npl hpl alp soon s1 => ?_⟩
  refine ⟨_, rfl, (by show 0 ≤ sizeLine; decide), fun tl ntl => ?_⟩
  have s2 : Same H (upd H1 tl (.lst [])) := s1.trans (same_new ntl)
  have tl0 : H tl = none := same_none s1 ntl
  refine or_seq (a := a) (xs := rv) (fun Q q => ⟨_, rfl, q⟩) (hrv.imp (s2 _ _) (s2 _ _)) (fun J gj sj yj => for_it (J := J) (n := rv.length) (fun i σ H2 => ∃ (st : Addr) (ms : List (List Int)) (tv : List V) (v5 v6 : Option V), σ = [some (.ref r), some (.ref a), some (.ref pl), some (.ref st), some (.ref tl), v5, v6] ∧ RoomAt H2 st hs (stand bs ms) ∧ H2 tl = some (.lst tv) ∧ All2 (RowAt H2) tv ms ∧ WS hs bs (rows.take i) ms ∧ Same H1 H2)
    ⟨r, [], [], none, none, rfl, by rw [stand_zero]; exact hR.keep (TK.same s2), upd_same, .nil, WS.nil, same_new ntl⟩ ?_ ?_ ?_ ?_)
  · rintro i σ H2 hi ⟨st, ms, tv, v5, v6, rfl, hst, htl, alt, ws, s3⟩
    exact gj i H2 ((either_stays (s1.trans s3) hrv).trans (either_stays s2 hrv).symm) hi
  · rintro σ H2 ⟨st, ms, tv, v5, v6, rfl, hst, htl, alt, ws, s3⟩
    exact sj H2 ((either_stays (s1.trans s3) hrv).trans (either_stays s2 hrv).symm)
  · rintro i x σ H2 H3 hi ⟨st, ms, tv, v5, v6, rfl, hst, htl, alt, ws, s3⟩ y
    obtain ⟨ex, rfl⟩ := yj i H2 x H3 ((either_stays (s1.trans s3) hrv).trans (either_stays s2 hrv).symm) y
    obtain ⟨row, er, ⟨t, rfl, ht⟩⟩ := alr.getL ex
    have ht2 := s3 _ _ (s1 _ _ ht)
    have lms : ms.length = i := by
      have := ws.len
      rw [List.length_take] at this
      omega
    refine ⟨_, rfl, _, rfl, _, rfl, st, pl, t, D, H, hs, stand bs ms, pls, ord, row, rfl, hst, s3 _ _ hpl, alp.imp fun v k z => ?_, ht2, ok.bell ms, by rw [loose_stand]; exact soon, hw row (List.mem_of_getElem? er), fun p m H4 np hp bell s4 => ?_⟩
    · obtain ⟨t', l, e1, e2, e3, e4⟩ := z.same s3
      exact ⟨t', l, e1, e2, by rw [coming_stand]; exact e3, e4⟩
    have lm := bell.len
    refine ⟨_, rfl, _, rfl, st, p, hs, stand bs ms, m, rfl, hst.keep (TK.same s4), hp, fun b hb => ?_, by rw [List.length_map]; omega, fun st2 H5 hst2 s5 => ?_⟩
    · have e1 := ((ok.bell ms).ends b hb).1
      obtain ⟨c, hc, rfl⟩ := List.mem_map.mp hb
      have e2 := stand_len ms c
      have e3 := (ok.th c hc).1
      exact ⟨by omega, by omega⟩
    rw [stand_next] at hst2
    have htl5 := s5 _ _ (s4 _ _ htl)
    refine ⟨_, rfl, .inl ⟨rfl, _, SqL.of htl5⟩, _, rfl, tl, _, _, rfl, rfl, htl5, by rw [alt.length, lms]; exact small1000 (by omega), ?_⟩
    refine ⟨st2, ms ++ [m], tv ++ [V.ref p], _, _, rfl, hst2.keep (TK.lst htl5), upd_same, ?_, ?_, Same.own ((s3.trans s4).trans s5) ntl⟩
    · exact ((alt.imp fun _ _ z => z.keep (TK.same (s4.trans s5))).snoc ⟨p, rfl, s5 _ _ hp⟩).imp fun _ _ z => z.keep (TK.lst htl5)
    · rw [List.take_add_one, er]
      exact ws.snoc bell
  · rintro σ H2 ⟨st, ms, tv, v5, v6, rfl, hst, htl, alt, ws, s3⟩
    rw [lrv, List.take_length] at ws
    exact ⟨_, rfl, q tl tv ms H2 tl0 htl alt ws (s1.trans s3)⟩
end
section
variable {P : Program} {w : World} {K : PySem.W.Frag} {mg : Str → Option Value} {base : Heap}
def sp_standing (K : PySem.W.Frag) : Sp := fun vs H Q _ => ∃ (r a : Addr) (hs : List HR) (bs : List BR) (rows : List (List Int)), vs = [.ref r, .ref a] ∧ RoomAt H r hs bs ∧ RoomOk hs bs ∧ RowsAt H a rows ∧ (∀ x ∈ rows, x.length = (doorsOf "in" hs).length) ∧ rows.length ≤ 100 ∧
  ∀ (p : Addr) (ms : List (List Int)) (H' : Hp), RoomAt H' p hs (stand bs ms) → WS hs bs rows ms → Same H H' → Q (.ref p) H'
theorem ok_standing {f : Addr} {fd : FuncData} (F : Fun K "standing" "standing" s_standing f fd) {C : Addr} (T : Top K mg C) : FnOk P w K mg base CX0 5 f fd ["room", "rows"] (sp_standing K) := by
  obtain ⟨f_worked, fd_worked, F_worked, b_worked, m_worked⟩ := T.d_worked
  have G_worked := ok_worked (P := P) (w := w) (base := base) F_worked T
  obtain ⟨f_behind_bell, fd_behind_bell, F_behind_bell, b_behind_bell, m_behind_bell⟩ := T.d_behind_bell
  have G_behind_bell := ok_behind_bell (P := P) (w := w) (base := base) F_behind_bell T
  refine F.ok sc_standing (fun vs H Q E h => ?_) (fun cdv A outer s H vs Q E hr h => ?_)
  · obtain ⟨r, a, hs, bs, rows, rfl, _⟩ := h
    rfl
  obtain ⟨r, a, hs, bs, rows, rfl, hR, ok, hrows, hw, lr, q⟩ := h
  have lb := ok.many
  refine ⟨_, (pss_cons (ps_set (i := 2) sc_standing.nd rfl (Or.inl rfl) (pv 0))
      (pss_cons (ps_for PassesOwn.never rfl (pi_listK K rfl (pe_call G_worked (hr.mono (by decide)) (by rfl) m_worked F_worked.kp b_worked .nil pass0 (pa_cons (pv 0) (pa_cons (pv 1) pa_nil)))) (pg_name (i := 3) sc_standing.nd rfl (Or.inl rfl))
        (pss_one (ps_set (i := 2) sc_standing.nd rfl (Or.inl rfl) (pe_call G_behind_bell (hr.mono (by decide)) (by rfl) m_behind_bell F_behind_bell.kp b_behind_bell .nil pass0 (pa_cons (pv 2) (pa_cons (pv 3) pa_nil))))))
      (pss_one (ps_ret (pv 2))))), ?_⟩
  refine ⟨_, rfl, _, rfl, _, rfl, r, a, hs, bs, rows, rfl, hR, ok, hrows, hw, lr, fun wl wv ms H1 nwl hwl alw ws s1 => ?_⟩
  refine ⟨wl, rfl, ⟨_, SqL.of hwl⟩, for_list (K := K) (a := wl) (xs := wv) (fun i σ H2 => ∃ (st : Addr) (v3 : Option V), σ = [some (.ref r), some (.ref a), some (.ref st), v3] ∧ RoomAt H2 st hs (stand bs (ms.take i)) ∧ Same H1 H2)
    ⟨r, none, rfl, by rw [List.take_zero, stand_zero]; exact hR.keep (TK.same s1), fun _ _ e => e⟩ (fun i σ H2 _ ⟨_, _, _, _, s2⟩ => SqL.of (s2 _ _ hwl)) ?_ ?_⟩
  · rintro i x σ H2 hx ⟨st, v3, rfl, hst, s2⟩
    obtain ⟨m, em, ⟨t, rfl, ht⟩⟩ := alw.getL hx
    have lm := ws.row m (List.mem_of_getElem? em)
    refine ⟨_, rfl, _, rfl, st, t, hs, stand bs (ms.take i), m, rfl, hst, s2 _ _ ht, fun b hb => ?_, by rw [List.length_map]; omega, fun st2 H3 hst2 s3 => ?_⟩
    · have e1 := ((ok.bell (ms.take i)).ends b hb).1
      obtain ⟨c, hc, rfl⟩ := List.mem_map.mp hb
      have e2 := stand_len (ms.take i) c
      have e3 := (ok.th c hc).1
      exact ⟨by omega, by omega⟩
    rw [stand_next] at hst2
    refine ⟨st2, _, rfl, ?_, s2.trans s3⟩
    rw [List.take_add_one, em]
    exact hst2
  · rintro σ H2 ⟨st, v3, rfl, hst, s2⟩
    rw [alw.length, List.take_length] at hst
    exact ⟨_, rfl, q st ms H2 hst ws (s1.trans s2)⟩
end
section
variable {P : Program} {w : World} {K : PySem.W.Frag} {mg : Str → Option Value} {base : Heap}
def sp_run (K : PySem.W.Frag) : Sp := fun vs H Q _ => ∃ (r a : Addr) (hs : List HR) (bs : List BR) (rows : List (List Int)), vs = [.ref r, .ref a] ∧ RoomAt H r hs bs ∧ RoomOk hs bs ∧ RowsAt H a rows ∧ (∀ x ∈ rows, x.length = (doorsOf "in" hs).length) ∧ rows.length ≤ 100 ∧
  ∀ (p : Addr) (ov : List V) (ms : List (List Int)) (H' : Hp), H p = none → H' p = some (.lst ov) → All2 (RowAt H') ov (ms.map (outsOf hs)) → WS hs bs rows ms → Same H H' → Q (.ref p) H'
theorem ok_run {f : Addr} {fd : FuncData} (F : Fun K "run" "run" s_run f fd) {C : Addr} (T : Top K mg C) : FnOk P w K mg base CX0 5 f fd ["room", "rows"] (sp_run K) := by
  obtain ⟨f_doors_out, fd_doors_out, F_doors_out, b_doors_out, m_doors_out⟩ := T.d_doors_out
  have G_doors_out := ok_doors_out (P := P) (w := w) (base := base) F_doors_out T
  obtain ⟨f_picked, fd_picked, F_picked, b_picked, m_picked⟩ := T.d_picked
  have G_picked := ok_picked (P := P) (w := w) (base := base) F_picked T
  obtain ⟨f_worked, fd_worked, F_worked, b_worked, m_worked⟩ := T.d_worked
  have G_worked := ok_worked (P := P) (w := w) (base := base) F_worked T
  refine F.ok sc_run (fun vs H Q E h => ?_) (fun cdv A outer s H vs Q E hr h => ?_)
  · obtain ⟨r, a, hs, bs, rows, rfl, _⟩ := h
    rfl
  obtain ⟨r, a, hs, bs, rows, rfl, hR, ok, hrows, hw, lr, q⟩ := h
  have lh := ok.hands
  have ld := doors_len (z := "out") (hs := hs)
  refine ⟨_, (pss_cons (ps_set (i := 2) sc_run.nd rfl (Or.inr rfl) (pe_call G_doors_out (hr.mono (by decide)) (by rfl) m_doors_out F_doors_out.kp b_doors_out .nil pass0 (pa_cons (pv 0) pa_nil)))
      (pss_one (ps_ret (pe_lc (own := [("made", 3)]) (g := gName 3) (tt := tYes) (by rfl) sc_run.nd (pi_listK K rfl (pe_call G_worked (hr.mono (by decide)) (by rfl) m_worked F_worked.kp b_worked .nil pass0 (pa_cons (pv 0) (pa_cons (pv 1) pa_nil)))) (blkOk_by (own := [("made", 3)]) (N := N_run) (sc := defScope s_run) (by decide +kernel)) (fun _ _ _ _ _ => (pg_name (i := 3) sc_run.nd rfl (Or.inl rfl))) (fun _ _ _ _ _ => pts_nil) (fun _ _ _ _ _ => (pe_call G_picked (hr.mono (by decide)) (by rfl) m_picked F_picked.kp b_picked .nil pass0 (pa_cons (pv 3) (pa_cons (pv 2) pa_nil)))))))), ?_⟩
  refine ⟨_, rfl, r, hs, bs, rfl, hR, by omega, ok.good, fun dd H1 ndd hdd s1 => ?_⟩
  refine ⟨_, rfl, _, rfl, r, a, hs, bs, rows, rfl, hR.keep (TK.same s1), ok, hrows.same s1, hw, lr, fun wl wv ms H2 nwl hwl alw ws s2 => ?_⟩
  have lms := ws.len
  refine ⟨wl, rfl, ⟨_, SqL.of hwl⟩, fun D nD => lc_list (K := K) (a := wl) (xs := wv) (fun i H5 => ∃ ov : List V, H5 D = some (.lst ov) ∧ All2 (RowAt H5) ov ((ms.take i).map (outsOf hs)) ∧ Same H2 H5) ⟨[], upd_same, .nil, same_new nD⟩ (fun i H5 _ ⟨_, _, _, s5⟩ => SqL.of (s5 _ _ hwl)) ?_ ?_⟩
  · rintro i x H5 hx ⟨ov, hD, al, s5⟩
    obtain ⟨m, em, ⟨t, rfl, ht⟩⟩ := alw.getL hx
    have il := (List.getElem?_eq_some_iff.mp em).1
    have lm := ws.row m (List.mem_of_getElem? em)
    refine ⟨rfl, yes_in ⟨_, rfl, _, rfl, t, dd, m, doorsOf "out" hs, rfl, s5 _ _ ht, s5 _ _ (s2 _ _ hdd), out_lt lm, by omega, fun p H6 np hp s6 => ⟨ov, s6 _ _ hD, ?_, ov ++ [V.ref p], upd_same, ?_, Same.own (s5.trans s6) nD⟩⟩⟩
    · have := al.length
      rw [List.length_map, List.length_take] at this
      exact small1000 (by omega)
    · rw [List.take_add_one, em, List.map_append]
      exact ((al.imp fun _ _ z => z.keep (TK.same s6)).snoc ⟨p, rfl, hp⟩).imp fun _ _ z => z.keep (TK.lst (s6 _ _ hD))
  · rintro H5 ⟨ov, hD, al, s5⟩
    rw [alw.length, List.take_length] at al
    exact q D ov ms H5 (same_none (s1.trans s2) nD) hD al ws ((s1.trans s2).trans s5)
end
section
variable {P : Program} {w : World} {K : PySem.W.Frag} {mg : Str → Option Value} {base : Heap}
def sp_law_rows (K : PySem.W.Frag) : Sp := fun vs H Q _ => ∃ (f c r : Addr) (hs : List HR) (bs : List BR) (m : Int), vs = [.ref f, .ref r, .int m] ∧ 0 ≤ m ∧ m ≤ 100 ∧ Flow H f c ∧ RoomAt H r hs bs ∧ hs.length ≤ 12 ∧ (∀ h ∈ hs, GoodHand h) ∧
  ∀ (p : Addr) (rv : List V) (rows : List (List Int)) (H' : Hp), H p = none → H' p = some (.lst rv) → All2 (RowAt H') rv rows → rows.length = m.toNat → (∀ x ∈ rows, x.length = (doorsOf "in" hs).length ∧ ∀ y ∈ x, Small y) → Flow H' f c → But f H H' → Q (.ref p) H'
theorem ok_law_rows {f : Addr} {fd : FuncData} (F : Fun K "_law_rows" "_law_rows" s_law_rows f fd) {C : Addr} (T : Top K mg C) : FnOk P w K mg base CX0 3 f fd ["_law_flow_here", "_law_room_here", "_law_many"] (sp_law_rows K) := by
  obtain ⟨f_law_thing, fd_law_thing, F_law_thing, b_law_thing, m_law_thing⟩ := T.d_law_thing
  have G_law_thing := ok_law_thing (P := P) (w := w) (base := base) F_law_thing T
  refine F.ok sc_law_rows (fun vs H Q E h => ?_) (fun cdv A outer s H vs Q E hr h => ?_)
  · obtain ⟨f, c, r, hs, bs, m, rfl, _⟩ := h
    rfl
  obtain ⟨f, c, r, hs, bs, m, rfl, m0, m1, hF, hR, lh, good, q⟩ := h
  obtain ⟨ha, ba, hv, bv, er, eh, eb, alh, alb⟩ := hR.ex
  have lhv := alh.length
  refine ⟨_, (pss_cons (ps_set (i := 3) sc_law_rows.nd rfl (Or.inr rfl) (pe_lc (own := [("_law_hand", 4)]) (g := gName 4) (by rfl) sc_law_rows.nd (pi_tupK K rfl (pe_ix (ix_tupK K rfl) (pv 1) pe_int (fun _ _ => rfl))) (blkOk_by (own := [("_law_hand", 4)]) (N := N_law_rows) (sc := defScope s_law_rows) (by decide +kernel)) (fun _ _ _ _ _ => (pg_name (i := 4) sc_law_rows.nd rfl (Or.inl rfl))) (fun _ _ _ _ _ => pts_one (pt_cmpR (op_eqDK K rfl hr.units) (pe_ix (ix_tupK K rfl) (pv 4) pe_int (fun _ _ => rfl)) (pe_tup (pa_cons pe_str pa_nil)) (nomark _))) (fun _ _ _ _ _ => (pv 4))))
      (pss_one (ps_ret (pe_lc (own := [("_law_k", 6)]) (g := gName 6) (tt := tYes) (by rfl) sc_law_rows.nd (pi_range1 (by rfl) T.m_range (pa_cons (pv 2) pa_nil)) (blkOk_by (own := [("_law_k", 6)]) (N := N_law_rows) (sc := defScope s_law_rows) (by decide +kernel)) (fun _ _ _ _ _ => (pg_name (i := 6) sc_law_rows.nd rfl (Or.inl rfl))) (fun _ _ _ _ _ => pts_nil) (fun _ _ _ _ _ => (pe_callTy (call_tuple_ofK K rfl) (by rfl) T.m_tuple (by decide +kernel) (pa_cons (pe_lc (own := [("_law_door", 5)]) (g := gName 5) (tt := tYes) (by rfl) sc_law_rows.nd (pi_listK K rfl (pv 3)) (blkOk_by (own := [("_law_door", 5)]) (N := N_law_rows) (sc := { kind := .function, names := [(".0", .local), ("_law_k", .local), ("tuple", .globalImplicit), ("_law_doors", .cell), ("_law_flow_here", .cell)], isGenerator := false, isCoroutine := false }) (by decide +kernel)) (fun _ _ _ _ _ => (pg_name (i := 5) sc_law_rows.nd rfl (Or.inl rfl))) (fun _ _ _ _ _ => pts_nil) (fun _ _ _ _ _ => (pe_call G_law_thing (hr.mono (by decide)) (by rfl) m_law_thing F_law_thing.kp b_law_thing .nil pass0 (pa_cons (pv 0) pa_nil)))) pa_nil))))))), ?_⟩
  refine ⟨_, rfl, r, _, _, _, rfl, rfl, SqT.of er, atI_nat (j := 0) rfl, ha, rfl, ⟨_, SqT.of eh⟩, fun D nD => lc_tup (K := K) (a := ha) (xs := hv) (fun i H5 => ∃ dv : List V, H5 D = some (.lst dv) ∧ dv.length = ((List.range i).filter fun j => decide (hs[j]?.map HR.wd = some ("in" : Str))).length ∧ Same H H5) ⟨[], upd_same, rfl, same_new nD⟩ (fun i H5 _ ⟨_, _, _, s5⟩ => SqT.of (s5 _ _ eh)) ?_ ?_⟩
  · rintro i x H5 hx ⟨dv, hD, ld, s5⟩
    obtain ⟨hh, eb2, ⟨t2, g, rfl, e1, e2⟩⟩ := alh.getL hx
    have il := (List.getElem?_eq_some_iff.mp eb2).1
    have gh := good _ (List.mem_of_getElem? eb2)
    have few := filt_len (p := fun j => decide (hs[j]?.map HR.wd = some ("in" : Str))) i
    refine ⟨rfl, _, rfl, t2, _, _, _, rfl, rfl, SqT.of (s5 _ _ e1), atI_nat (j := 0) rfl, (by show 1 ≤ sizeLine; decide), fun o1 no1 => ?_⟩
    have s6 := s5.trans (same_new (o := .tup [V.str "in"]) no1)
    have hD6 := same_new (o := .tup [V.str "in"]) no1 _ _ hD
    refine ⟨_, _, rule_dp (s6 _ _ e2), .tup (SqT.of upd_same) (.cons (.str _) .nil), rule_shaped gh.lay, one_shaped (by decide +kernel), _, rfl, ?_⟩
    rw [rule_eqv, gh.door "in" (.inl rfl)]
    by_cases cc : hh.wd = "in"
    · rw [decide_eq_true cc]
      refine if_bl (fun _ => ⟨_, rfl, dv, hD6, small1000 (by omega), _, upd_same, ?_, Same.own s6 nD⟩) (fun z => nomatch z)
      rw [filt_succ, if_pos (decide_eq_true (by rw [eb2, ← cc]; rfl)), List.length_append, List.length_append, ld]
      rfl
    · rw [decide_eq_false cc]
      refine if_bl (fun z => nomatch z) (fun _ => ⟨dv, hD6, ?_, s6⟩)
      rw [filt_succ, if_neg fun z => cc (by have := of_decide_eq_true z; rw [eb2] at this; exact Option.some.inj this), List.append_nil]
      exact ld
  · rintro H5 ⟨dv, hD, ld, s5⟩
    rw [lhv] at ld
    have ld : dv.length = (doorsOf "in" hs).length := ld
    have ldl := doors_len (z := "in") (hs := hs)
    have F5 := hF.same s5
    have df : D ≠ f := hF.ne nD
    refine ⟨_, rfl, _, rfl, by omega, by omega, fun L nL => lc_range (lo := 0) (n := m.toNat) (fun i H6 => ∃ (rv : List V) (rows : List (List Int)), H6 L = some (.lst rv) ∧ H6 D = some (.lst dv) ∧ All2 (RowAt H6) rv rows ∧ rows.length = i ∧ (∀ x ∈ rows, x.length = (doorsOf "in" hs).length ∧ ∀ y ∈ x, Small y) ∧ Flow H6 f c ∧ But f H5 H6) ⟨[], [], upd_same, same_new nL _ _ hD, .nil, rfl, (fun _ z => nomatch z), F5.new nL, But.refl.new nL⟩ ?_ ?_⟩
    · rintro i H6 hi ⟨rv, rows, hL, hD6, al, lr, ok, F6, B6⟩
      refine ⟨rfl, yes_in ⟨_, rfl, D, rfl, ⟨_, SqL.of hD6⟩, fun M nM => lc_list (K := K) (a := D) (xs := dv) (fun j H7 => ∃ vs : List Int, vs.length = j ∧ H7 M = some (.lst (vs.map V.int)) ∧ (∀ y ∈ vs, Small y) ∧ H7 D = some (.lst dv) ∧ Flow H7 f c ∧ But f H6 H7) ⟨[], rfl, upd_same, (fun _ z => nomatch z), same_new nM _ _ hD6, F6.new nM, But.refl.new nM⟩ (fun j H7 _ ⟨_, _, _, _, h, _⟩ => SqL.of h) ?_ ?_⟩⟩
      · rintro j x H7 hx ⟨vs, lv, hM, sm, hD7, F7, B7⟩
        have jl := (List.getElem?_eq_some_iff.mp hx).1
        have mf : M ≠ f := F6.ne nM
        have mc : M ≠ c := F6.nec nM
        have md : D ≠ M := ne_of_none hD6 nM
        refine ⟨rfl, yes_in ⟨_, rfl, f, c, rfl, F7, fun y H8 sy F8 B8 => ⟨_, B8 _ _ hM mf, ?_, vs ++ [y], by rw [List.length_append, lv]; rfl, ?_, ?_, ?_, F8.lst mf mc, (B7.trans B8).own nM⟩⟩⟩
        · rw [List.length_map, lv]; exact small1000 (by omega)
        · rw [upd_same, List.map_append]; rfl
        · intro z hz
          rcases List.mem_append.mp hz with hz | hz
          · exact sm z hz
          · obtain rfl : z = y := by simpa using hz
            exact sy
        · rw [upd_ne md]; exact B8 _ _ hD7 df
      · rintro H7 ⟨vs, lv, hM, sm, hD7, F7, B7⟩
        have lf : L ≠ f := F5.ne nL
        have lc : L ≠ c := F5.nec nL
        refine ⟨M, _, rfl, .inl ⟨SqL.of hM, fun p np => ?_⟩⟩
        have hL7 := same_new (o := .tup (vs.map V.int)) np _ _ (B7 _ _ hL lf)
        refine ⟨rv, hL7, by rw [al.length, lr]; exact small1000 (by omega), rv ++ [V.ref p], rows ++ [vs], upd_same, ?_, ?_, by rw [List.length_append, lr]; rfl, ?_, (F7.new np).lst lf lc, ?_⟩
        · rw [upd_ne (ne_of_none hD nL)]; exact same_new np _ _ hD7
        · exact ((al.imp fun _ _ z => z.keep ((TK.but F6 B7).trans (TK.new np))).snoc ⟨p, rfl, upd_same⟩).imp fun _ _ z => z.keep (TK.lst hL7)
        · intro x hx
          rcases List.mem_append.mp hx with hx | hx
          · exact ok x hx
          · obtain rfl : x = vs := by simpa using hx
            exact ⟨by rw [lv, ld], sm⟩
        · exact ((B6.trans B7).new np).own nL
    · rintro H6 ⟨rv, rows, hL, hD6, al, lr, ok, F6, B6⟩
      exact q L rv rows H6 (same_none s5 nL) hL al lr ok F6 ((But.of s5).trans B6)
end
section
variable {P : Program} {w : World} {K : PySem.W.Frag} {mg : Str → Option Value} {base : Heap}
def sp_law_some_rows (K : PySem.W.Frag) : Sp := fun vs H Q _ => ∃ (f c r : Addr) (hs : List HR) (bs : List BR), vs = [.ref f, .ref r] ∧ Flow H f c ∧ RoomAt H r hs bs ∧ hs.length ≤ 12 ∧ (∀ h ∈ hs, GoodHand h) ∧
  ∀ (p : Addr) (rv : List V) (rows : List (List Int)) (H' : Hp), H p = none → H' p = some (.lst rv) → All2 (RowAt H') rv rows → rows.length ≤ 100 → (∀ x ∈ rows, x.length = (doorsOf "in" hs).length ∧ ∀ y ∈ x, Small y) → Flow H' f c → But f H H' → Q (.ref p) H'
theorem ok_law_some_rows {f : Addr} {fd : FuncData} (F : Fun K "_law_some_rows" "_law_some_rows" s_law_some_rows f fd) {C : Addr} (T : Top K mg C) : FnOk P w K mg base CX0 4 f fd ["_law_flow_here", "_law_room_here"] (sp_law_some_rows K) := by
  obtain ⟨f_law_pick, fd_law_pick, F_law_pick, b_law_pick, m_law_pick⟩ := T.d_law_pick
  have G_law_pick := ok_law_pick (P := P) (w := w) (base := base) F_law_pick T
  obtain ⟨f_law_rows, fd_law_rows, F_law_rows, b_law_rows, m_law_rows⟩ := T.d_law_rows
  have G_law_rows := ok_law_rows (P := P) (w := w) (base := base) F_law_rows T
  refine F.ok sc_law_some_rows (fun vs H Q E h => ?_) (fun cdv A outer s H vs Q E hr h => ?_)
  · obtain ⟨f, c, r, hs, bs, rfl, _⟩ := h
    rfl
  obtain ⟨f, c, r, hs, bs, rfl, hF, hR, lh, good, q⟩ := h
  obtain ⟨ha, ba, hv, bv, er, eh, eb, alh, alb⟩ := hR.ex
  refine ⟨_, (pss_cons (ps_set (i := 2) sc_law_some_rows.nd rfl (Or.inl rfl) (pe_call G_law_pick (hr.mono (by decide)) (by rfl) m_law_pick F_law_pick.kp b_law_pick .nil pass0 (pa_cons (pv 0) (pa_cons pe_int pa_nil))))
      (pss_cons (ps_if (PW.pt (pw_and (pt_cmpR op_eq (pe_call G_law_pick (hr.mono (by decide)) (by rfl) m_law_pick F_law_pick.kp b_law_pick .nil pass0 (pa_cons (pv 0) (pa_cons pe_int pa_nil))) pe_int (nomark _)) (pw_and1 (pt_cmpR op_lt (pe_callB (call_len_seqK K rfl) (by rfl) T.m_len (by decide +kernel) (pa_cons (pe_ix (ix_tupK K rfl) (pv 1) pe_int (fun _ _ => rfl)) pa_nil)) pe_int (nomark _))))) (pss_one (ps_set (i := 2) sc_law_some_rows.nd rfl (Or.inl rfl) (pe_op op_add pe_int (pe_call G_law_pick (hr.mono (by decide)) (by rfl) m_law_pick F_law_pick.kp b_law_pick .nil pass0 (pa_cons (pv 0) (pa_cons pe_int pa_nil)))))) pss_nil)
      (pss_one (ps_ret (pe_call G_law_rows (hr.mono (by decide)) (by rfl) m_law_rows F_law_rows.kp b_law_rows .nil pass0 (pa_cons (pv 0) (pa_cons (pv 1) (pa_cons (pv 2) pa_nil)))))))), ?_⟩
  refine ⟨_, rfl, f, c, 10, rfl, by decide, by decide +kernel, hF, fun v H1 v0 v1 F1 B1 => ?_⟩
  refine ⟨_, rfl, f, c, 8, rfl, by decide, by decide +kernel, F1, fun u H2 u0 u1 F2 B2 => ?_⟩
  have B12 := B1.trans B2
  have k2 : TK H H2 := TK.but hF B12
  have fin : ∀ (m : Int) (H3 : Hp), 0 ≤ m → m ≤ 100 → Flow H3 f c → But f H H3 → sp_law_rows K [.ref f, .ref r, .int m] H3 Q E0 := fun m H3 m0 m1 F3 B3 => by
    refine ⟨f, c, r, hs, bs, m, rfl, m0, m1, F3, hR.keep (TK.but hF B3), lh, good, fun p rv rows H4 np hp al lr ok F4 B4 => ?_⟩
    exact q p rv rows H4 (B3.none np (F3.ne np)) hp al (by omega) ok F4 (B3.trans B4)
  refine ⟨rfl, _, rfl, if_bl (fun _ => ?_) (fun _ => ?_)⟩
  · refine ⟨_, rfl, r, _, _, _, rfl, rfl, SqT.of (k2 _ _ er), atI_nat (j := 0) rfl, ha, _, rfl, .inr (SqT.of (k2 _ _ eh)), _, _, rfl, rfl, _, rfl, if_bl (fun _ => ?_) (fun _ => ?_)⟩
    · refine ⟨_, rfl, f, c, 21, rfl, by decide, by decide +kernel, F2, fun z H3 z0 z1 F3 B3 => ⟨_, _, rfl, rfl, ?_⟩⟩
      exact ⟨_, rfl, _, rfl, _, rfl, fin _ H3 (by omega) (by omega) F3 (B12.trans B3)⟩
    · exact ⟨_, rfl, _, rfl, _, rfl, fin _ H2 (by omega) (by omega) F2 B12⟩
  · exact ⟨_, rfl, _, rfl, _, rfl, fin _ H2 (by omega) (by omega) F2 B12⟩
end
section
variable {P : Program} {w : World} {K : PySem.W.Frag} {mg : Str → Option Value} {base : Heap}
def sp_law_any_room (K : PySem.W.Frag) : Sp := fun vs H Q _ => ∃ f c : Addr, vs = [.ref f] ∧ Flow H f c ∧ ∀ (r : Addr) (hs : List HR) (bs : List BR) (H' : Hp), RoomAt H' r hs bs → RoomOk hs bs → Flow H' f c → But f H H' → Q (.ref r) H'
theorem bare_ok {hs : List HR} (l : hs.length ≤ 12) (g : ∀ h ∈ hs, GoodHand h ∧ (h.wd = "in" ∨ h.wd = "always")) : RoomOk hs [] := by
  refine ⟨l, fun h hh => (g h hh).1, (fun _ z => nomatch z), (fun _ z => nomatch z), (fun _ z => nomatch z), ⟨fun _ => 0, (fun _ z => nomatch z)⟩, fun k h e => ?_, by decide⟩
  have := (g h (List.mem_of_getElem? e)).2
  show ((0 : Nat) : Int) = needs h.wd
  rcases this with z | z <;> rw [z] <;> decide +kernel
theorem ok_law_any_room {f : Addr} {fd : FuncData} (F : Fun K "_law_any_room" "_law_any_room" s_law_any_room f fd) {C : Addr} (T : Top K mg C) : FnOk P w K mg base CX0 6 f fd ["_law_flow_here"] (sp_law_any_room K) := by
  obtain ⟨f_law_pick, fd_law_pick, F_law_pick, b_law_pick, m_law_pick⟩ := T.d_law_pick
  have G_law_pick := ok_law_pick (P := P) (w := w) (base := base) F_law_pick T
  obtain ⟨f_law_room, fd_law_room, F_law_room, b_law_room, m_law_room⟩ := T.d_law_room
  have G_law_room := ok_law_room (P := P) (w := w) (base := base) F_law_room T
  obtain ⟨f_law_thing, fd_law_thing, F_law_thing, b_law_thing, m_law_thing⟩ := T.d_law_thing
  have G_law_thing := ok_law_thing (P := P) (w := w) (base := base) F_law_thing T
  refine F.ok sc_law_any_room (fun vs H Q E h => ?_) (fun cdv A outer s H vs Q E hr h => ?_)
  · obtain ⟨f, c, rfl, _⟩ := h
    rfl
  obtain ⟨f, c, rfl, hF, q⟩ := h
  refine ⟨_, (pss_cons (ps_set (i := 1) sc_law_any_room.nd rfl (Or.inl rfl) (pe_call G_law_pick (hr.mono (by decide)) (by rfl) m_law_pick F_law_pick.kp b_law_pick .nil pass0 (pa_cons (pv 0) (pa_cons pe_int pa_nil))))
      (pss_cons (ps_if (pt_cmpR op_eq (pv 1) pe_int (nomark _)) (pss_one (ps_ret (pe_tup (pa_cons (pe_tup pa_nil) (pa_cons (pe_tup pa_nil) pa_nil))))) pss_nil)
      (pss_cons (ps_if (pt_cmpR op_eq (pv 1) pe_int (nomark _)) (pss_cons (ps_set (i := 2) sc_law_any_room.nd rfl (Or.inl rfl) (pe_lst pa_nil))
      (pss_cons (ps_for PassesOwn.never rfl (pi_range1 (by rfl) T.m_range (pa_cons (pe_op op_add pe_int (pe_call G_law_pick (hr.mono (by decide)) (by rfl) m_law_pick F_law_pick.kp b_law_pick .nil pass0 (pa_cons (pv 0) (pa_cons pe_int pa_nil)))) pa_nil)) (pg_name (i := 3) sc_law_any_room.nd rfl (Or.inl rfl))
        (pss_one (ps_expr (pe_bmK K rfl PySem.F.plainAttrs_list PySem.F.slot_list_append PySem.F.type_list_append mt_append (pv 2) (pa_cons (pe_ix (ix_listK K rfl) (pe_lst (pa_cons (pe_tup (pa_cons (pe_tup (pa_cons pe_str pa_nil)) (pa_cons pe_int pa_nil))) (pa_cons (pe_tup (pa_cons (pe_tup (pa_cons pe_str (pa_cons (pe_call G_law_thing (hr.mono (by decide)) (by rfl) m_law_thing F_law_thing.kp b_law_thing .nil pass0 (pa_cons (pv 0) pa_nil)) pa_nil))) (pa_cons (pe_call G_law_pick (hr.mono (by decide)) (by rfl) m_law_pick F_law_pick.kp b_law_pick .nil pass0 (pa_cons (pv 0) (pa_cons pe_int pa_nil))) pa_nil))) pa_nil))) (pe_call G_law_pick (hr.mono (by decide)) (by rfl) m_law_pick F_law_pick.kp b_law_pick .nil pass0 (pa_cons (pv 0) (pa_cons pe_int pa_nil))) (fun _ _ => rfl)) pa_nil)))))
      (pss_one (ps_ret (pe_tup (pa_cons (pe_callTy (call_tuple_ofK K rfl) (by rfl) T.m_tuple (by decide +kernel) (pa_cons (pv 2) pa_nil)) (pa_cons (pe_tup pa_nil) pa_nil))))))) pss_nil)
      (pss_one (ps_ret (pe_call G_law_room (hr.mono (by decide)) (by rfl) m_law_room F_law_room.kp b_law_room .nil pass0 (pa_cons (pv 0) (pa_cons (pe_ix (ix_listK K rfl) (pe_lst (pa_cons pe_int (pa_cons pe_int (pa_cons pe_int pa_nil)))) (pe_call G_law_pick (hr.mono (by decide)) (by rfl) m_law_pick F_law_pick.kp b_law_pick .nil pass0 (pa_cons (pv 0) (pa_cons pe_int pa_nil))) (fun _ _ => rfl)) pa_nil)))))))), ?_⟩
  refine ⟨_, rfl, f, c, 16, rfl, by decide, by decide +kernel, hF, fun v H1 v0 v1 F1 B1 => ?_⟩
  refine ⟨_, rfl, rfl, _, rfl, if_bl (fun _ => ?_) (fun _ => ?_)⟩
  · refine ⟨(by show 0 ≤ sizeLine; decide), fun t1 nt1 => ⟨(by show 0 ≤ sizeLine; decide), fun t2 nt2 => ⟨(by show 2 ≤ sizeLine; decide), fun t3 nt3 => ?_⟩⟩⟩
    exact q t3 [] [] _ ⟨t1, t2, [], [], upd_same, same_new nt3 _ _ (same_new nt2 _ _ upd_same), same_new nt3 _ _ upd_same, .nil, .nil⟩ (bare_ok (by decide) (fun _ z => nomatch z)) (((F1.new nt1).new nt2).new nt3) (((B1.new nt1).new nt2).new nt3)
  refine ⟨_, rfl, rfl, _, rfl, if_bl (fun _ => ?_) (fun _ => ?_)⟩
  · refine ⟨(by show 0 ≤ sizeLine; decide), fun hh nhh => ?_⟩
    have hf : hh ≠ f := F1.ne nhh
    have hc : hh ≠ c := F1.nec nhh
    have nh0 : H hh = none := B1.none nhh hf
    refine ⟨_, rfl, f, c, 4, rfl, by decide, by decide +kernel, F1.new nhh, fun n H2 n0 n4 F2 B2 => ?_⟩
    refine ⟨_, _, rfl, rfl, _, rfl, by omega, by omega, for_range (lo := 0) (n := (1 + n).toNat) (fun i σ H3 => ∃ (vs : List V) (hs : List HR) (v3 : Option V), σ = [some (.ref f), some (.int v), some (.ref hh), v3] ∧ H3 hh = some (.lst vs) ∧ All2 (HandAt H3) vs hs ∧ hs.length = i ∧ (∀ h ∈ hs, GoodHand h ∧ (h.wd = "in" ∨ h.wd = "always")) ∧ Flow H3 f c ∧ But f H H3)
      ⟨[], [], none, rfl, B2 _ _ upd_same hf, .nil, rfl, (fun _ z => nomatch z), F2, (B1.new nhh).trans B2⟩ ?_ ?_⟩
    · rintro i σ H3 hi ⟨vs, hs, v3, rfl, hhh, al, li, good, F3, B3⟩
      refine ⟨_, rfl, .inl ⟨rfl, _, SqL.of hhh⟩, (by show 1 ≤ sizeLine; decide), fun a1 na1 => ⟨(by show 2 ≤ sizeLine; decide), fun a2 na2 => ?_⟩⟩
      have F5 := (F3.new (o := .tup [V.str "in"]) na1).new (o := .tup [V.ref a1, V.int 0]) na2
      have B5 := (B3.new (o := .tup [V.str "in"]) na1).new (o := .tup [V.ref a1, V.int 0]) na2
      have k5 : TK H3 _ := (TK.new (o := .tup [V.str "in"]) na1).trans (TK.new (o := .tup [V.ref a1, V.int 0]) na2)
      have h5 := same_new (o := .tup [V.ref a1, V.int 0]) na2 _ _ (same_new (o := .tup [V.str "in"]) na1 _ _ hhh)
      refine ⟨_, rfl, f, c, rfl, F5, fun n1 H6 s6 F6 B6 => ⟨(by show 2 ≤ sizeLine; decide), fun a3 na3 => ?_⟩⟩
      have F7 := F6.new (o := .tup [V.str "always", V.int n1]) na3
      refine ⟨_, rfl, f, c, 31, rfl, by decide, by decide +kernel, F7, fun n2 H8 m0 m31 F8 B8 => ⟨(by show 2 ≤ sizeLine; decide), fun a4 na4 => ⟨(by show 2 ≤ sizeLine; decide), fun l nl => ?_⟩⟩⟩
      have F9 := (F8.new (o := .tup [V.ref a3, V.int n2]) na4).new (o := .lst [V.ref a2, V.ref a4]) nl
      refine ⟨_, rfl, f, c, 2, rfl, by decide, by decide +kernel, F9, fun z H10 z0 z2 F10 B10 => ?_⟩
      have hl := B10 _ _ upd_same ((F8.new (o := .tup [V.ref a3, V.int n2]) na4).ne nl)
      have k8 : TK H6 _ := (TK.new (o := .tup [V.str "always", V.int n1]) na3).trans (TK.but F7 B8)
      have k10 : TK H8 H10 := ((TK.new (o := .tup [V.ref a3, V.int n2]) na4).trans (TK.new (o := .lst [V.ref a2, V.ref a4]) nl)).trans (TK.but F9 B10)
      have ka : TK _ H10 := (TK.but F5 B6).trans (k8.trans k10)
      have x0 : HandAt H10 (V.ref a2) ⟨"in", none, 0⟩ := ⟨a2, a1, rfl, ka _ _ upd_same, ka _ _ (same_new na2 _ _ upd_same)⟩
      have x1 : HandAt H10 (V.ref a4) ⟨"always", some n1, n2⟩ := ⟨a4, a3, rfl, TK.but F9 B10 _ _ (same_new nl _ _ upd_same), k10 _ _ (TK.but F7 B8 _ _ upd_same)⟩
      have g0 : GoodHand ⟨"in", none, 0⟩ := ⟨.inr ⟨.inl rfl, rfl⟩, (show (0 : Int) ≤ 0 by decide), (show (0 : Int) ≤ 30 by decide)⟩
      have g1 : GoodHand ⟨"always", some n1, n2⟩ := ⟨.inl ⟨(show ("always" : Str) ∈ nine by decide +kernel), ⟨fun _ => .inr rfl, fun _ => rfl⟩, fun n e => by cases e; exact s6⟩, m0, (show n2 ≤ 30 by omega)⟩
      obtain ⟨x, y, hx, hy, gy, wy⟩ : ∃ (x : V) (y : HR), atI [V.ref a2, V.ref a4] z = some x ∧ HandAt H10 x y ∧ GoodHand y ∧ (y.wd = "in" ∨ y.wd = "always") := by
        have : z = 0 ∨ z = 1 := by omega
        rcases this with rfl | rfl
        · exact ⟨_, _, rfl, x0, g0, .inl rfl⟩
        · exact ⟨_, _, rfl, x1, g1, .inr rfl⟩
      have Ball := (((((B5.trans B6).new na3).trans B8).new na4).new nl).trans B10
      have hh10 := B10 _ _ (same_new nl _ _ (same_new na4 _ _ (B8 _ _ (same_new na3 _ _ (B6 _ _ h5 hf)) hf))) hf
      refine ⟨l, _, _, _, rfl, rfl, SqL.of hl, hx, hh, _, _, rfl, rfl, hh10, by rw [al.length, li]; exact small1000 (by omega), ?_⟩
      refine ⟨vs ++ [x], hs ++ [y], _, rfl, upd_same, ?_, by rw [List.length_append, li]; rfl, fun h hm => ?_, F10.lst hf hc, Ball.own nh0⟩
      · exact ((al.imp fun _ _ z => z.keep (k5.trans ka)).snoc hy).imp fun _ _ z => z.keep (TK.lst hh10)
      · rcases List.mem_append.mp hm with hm | hm
        · exact good h hm
        · obtain rfl : h = y := by simpa using hm
          exact ⟨gy, wy⟩
    · rintro σ H3 ⟨vs, hs, v3, rfl, hhh, al, li, good, F3, B3⟩
      refine ⟨_, rfl, hh, _, rfl, .inl ⟨SqL.of hhh, fun a1 na1 => ⟨(by show 0 ≤ sizeLine; decide), fun a2 na2 => ⟨(by show 2 ≤ sizeLine; decide), fun a3 na3 => ?_⟩⟩⟩⟩
      have k1 : TK H3 (upd (upd (upd H3 a1 (.tup vs)) a2 (.tup [])) a3 (.tup [V.ref a1, V.ref a2])) := ((TK.new na1).trans (TK.new na2)).trans (TK.new na3)
      exact q a3 hs [] _ ⟨a1, a2, vs, [], upd_same, same_new na3 _ _ (same_new na2 _ _ upd_same), same_new na3 _ _ upd_same, al.imp fun _ _ z => z.keep k1, .nil⟩ (bare_ok (by omega) good) (((F3.new na1).new na2).new na3) (((B3.new na1).new na2).new na3)
  refine ⟨_, rfl, (by show 3 ≤ sizeLine; decide), fun l nl => ⟨_, rfl, f, c, 3, rfl, by decide, by decide +kernel, F1.new nl, fun z H2 z0 z3 F2 B2 => ?_⟩⟩
  obtain ⟨mm, hmm, m1, m8⟩ : ∃ mm : Int, atI [V.int 3, V.int 5, V.int 8] z = some (.int mm) ∧ 1 ≤ mm ∧ mm ≤ 8 := by
    have : z = 0 ∨ z = 1 ∨ z = 2 := by omega
    rcases this with rfl | rfl | rfl
    · exact ⟨3, rfl, by decide, by decide⟩
    · exact ⟨5, rfl, by decide, by decide⟩
    · exact ⟨8, rfl, by decide, by decide⟩
  exact ⟨l, _, _, _, rfl, rfl, SqL.of (B2 _ _ upd_same (F1.ne nl)), hmm, f, c, mm, rfl, m1, m8, F2, fun r hs bs H3 hR ok F3 B3 => q r hs bs H3 hR ok F3 (((B1.new nl).trans B2).trans B3)⟩
end
/-! ### data of known size -/
structure Neat (d : PyData) (dp wt : Nat) : Prop where
  lay : d.canLay0 = true
  dep : d.depth ≤ dp
  wei : d.weight ≤ wt
  sho : d.intsShort 13 = true
  say : d.showable = true
  nod : d.hasDict = false
structure NeatAll (ds : List PyData) (dp wt : Nat) : Prop where
  lay : PyData.canLayAll0 ds = true
  dep : PyData.depthAll ds ≤ dp
  wei : PyData.weightAll ds ≤ wt
  sho : PyData.intsShortAll 13 ds = true
  say : PyData.showableAll ds = true
  nod : PyData.hasDictAll ds = false
theorem Neat.non {dp : Nat} : Neat .none dp 0 := ⟨rfl, Nat.zero_le _, Nat.le_refl _, by simp [PyData.intsShort], by simp [PyData.showable], by simp [PyData.hasDict]⟩
theorem Neat.bool {b : Bool} {dp : Nat} : Neat (.bool b) dp 0 := ⟨rfl, Nat.zero_le _, Nat.le_refl _, by simp [PyData.intsShort], by simp [PyData.showable], by simp [PyData.hasDict]⟩
theorem Neat.int {i : Int} {dp : Nat} (h : i.natAbs < 10 ^ 12) : Neat (.int i) dp 41 := by
  have l : i.natAbs.log2 < 40 := by
    by_cases z : i.natAbs = 0
    · rw [z]; decide
    · exact (Nat.log2_lt z).mpr (Nat.lt_trans h (by decide))
  refine ⟨rfl, Nat.zero_le _, ?_, ?_, ?_, by simp [PyData.hasDict]⟩
  · simp only [PyData.weight]
    split <;> omega
  · simp only [PyData.intsShort, decide_eq_true_eq]
    exact PyData.shown_int_le h
  · simp only [PyData.showable, decide_eq_true_eq]
    omega
theorem Neat.str {x : Str} {n dp : Nat} (h : PyData.canLay0 (.str x) = true) (hn : x.cps.size ≤ n) : Neat (.str x) dp n := ⟨h, Nat.zero_le _, hn, by simp [PyData.intsShort], by simp [PyData.showable], by simp [PyData.hasDict]⟩
theorem NeatAll.nil {dp : Nat} : NeatAll [] dp 0 := ⟨rfl, Nat.zero_le _, Nat.le_refl _, by simp [PyData.intsShortAll], by simp [PyData.showableAll], by simp [PyData.hasDictAll]⟩
theorem NeatAll.cons {d : PyData} {ds : List PyData} {dp a b : Nat} (h : Neat d dp a) (t : NeatAll ds dp b) : NeatAll (d :: ds) dp (a + 1 + b) := by
  refine ⟨?_, ?_, ?_, ?_, ?_, ?_⟩
  · simp only [PyData.canLayAll0, h.lay, t.lay, Bool.and_self]
  · simp only [PyData.depthAll]
    exact Nat.max_le.mpr ⟨h.dep, t.dep⟩
  · simp only [PyData.weightAll]
    have := h.wei
    have := t.wei
    omega
  · simp only [PyData.intsShortAll, h.sho, t.sho, Bool.and_self]
  · simp only [PyData.showableAll, h.say, t.say, Bool.and_self]
  · simp only [PyData.hasDictAll, h.nod, t.nod, Bool.or_self]
theorem Neat.mono {d : PyData} {a b c e : Nat} (h : Neat d a b) (x : a ≤ c) (y : b ≤ e) : Neat d c e := ⟨h.lay, Nat.le_trans h.dep x, Nat.le_trans h.wei y, h.sho, h.say, h.nod⟩
theorem NeatAll.mono {d : List PyData} {a b c e : Nat} (h : NeatAll d a b) (x : a ≤ c) (y : b ≤ e) : NeatAll d c e := ⟨h.lay, Nat.le_trans h.dep x, Nat.le_trans h.wei y, h.sho, h.say, h.nod⟩
theorem Neat.tup {ds : List PyData} {dp n : Nat} (h : NeatAll ds dp n) : Neat (.tuple ds) (dp + 1) n := by
  refine ⟨?_, ?_, ?_, ?_, ?_, ?_⟩
  · simp only [PyData.canLay0, h.lay]
  · simp only [PyData.depth]
    have := h.dep
    omega
  · simp only [PyData.weight]
    exact h.wei
  · simp only [PyData.intsShort, h.sho]
  · simp only [PyData.showable, h.say]
  · simp only [PyData.hasDict, h.nod]
theorem Neat.lst {ds : List PyData} {dp n : Nat} (h : NeatAll ds dp n) : Neat (.list ds) (dp + 1) n := by
  refine ⟨?_, ?_, ?_, ?_, ?_, ?_⟩
  · simp only [PyData.canLay0, h.lay]
  · simp only [PyData.depth]
    have := h.dep
    omega
  · simp only [PyData.weight]
    exact h.wei
  · simp only [PyData.intsShort, h.sho]
  · simp only [PyData.showable, h.say]
  · simp only [PyData.hasDict, h.nod]
theorem NeatAll.map {α : Type} {f : α → PyData} {dp n : Nat} : ∀ {l : List α}, (∀ x ∈ l, Neat (f x) dp n) → NeatAll (l.map f) dp (l.length * (n + 1))
  | [], _ => by rw [List.length_nil, Nat.zero_mul]; exact .nil
  | x :: l, h => by
    have t : NeatAll (l.map f) dp (l.length * (n + 1)) := NeatAll.map fun y hy => h y (List.mem_cons_of_mem _ hy)
    have := NeatAll.cons (h x (List.mem_cons_self ..)) t
    refine NeatAll.mono this (Nat.le_refl _) ?_
    rw [List.length_cons, Nat.add_mul]
    omega
theorem Neat.shaped {d : PyData} {dp n : Nat} (h : Neat d dp n) (k : dp ≤ 60) : SeqAt.shaped d = true := by
  unfold SeqAt.shaped
  rw [h.lay, Bool.true_and]
  exact decide_eq_true (by have := h.dep; omega)
theorem Neat.fits {d : PyData} {dp n : Nat} (h : Neat d dp n) (k : dp ≤ 60) (m : n ≤ 1000000) : d.shown.length ≤ sizeLine := by
  refine PyData.shown_fits_of_layable0 (B := 13) (by decide) (by decide) ?_ h.sho
  have a : d.canLay0 = true := h.lay
  have b : decide (d.depth ≤ 64) = true := decide_eq_true (by have := h.dep; omega)
  have c : decide (d.weight ≤ 2 ^ 20) = true := decide_eq_true (by have := h.wei; omega)
  unfold PyData.layable0
  rw [a, b, c]
  rfl
theorem dp_ints {K : PySem.W.Frag} {H : Hp} : ∀ ns : List Int, DpAll K H (ns.map V.int) (ns.map PyData.int)
  | [] => .nil
  | n :: ns => .cons (.int n) (dp_ints ns)
theorem dp_nats {K : PySem.W.Frag} {H : Hp} : ∀ ns : List Nat, DpAll K H (ns.map nV) (ns.map fun n => PyData.int ((n : Nat) : Int))
  | [] => .nil
  | n :: ns => .cons (.int _) (dp_nats ns)
theorem eqv_nil {ds : List PyData} : PyData.eqvAll ds [] = ds.isEmpty := by cases ds <;> rfl
/-! ### a room as data -/
abbrev handD (h : HR) : PyData := .tuple [.tuple (ruleD h), .int h.mom]
abbrev beltD (b : BR) : PyData := .tuple [.int ((b.one : Nat) : Int), .int ((b.to : Nat) : Int), .tuple (b.th.map PyData.int)]
abbrev roomD (hs : List HR) (bs : List BR) : PyData := .tuple [.tuple (hs.map handD), .tuple (bs.map beltD)]
theorem hands_dp {K : PySem.W.Frag} {H : Hp} {vs : List V} {hs : List HR} (a : All2 (HandAt H) vs hs) : DpAll K H vs (hs.map handD) := by
  induction a with
  | nil => exact .nil
  | cons h t ih =>
    obtain ⟨t, r, rfl, e1, e2⟩ := h
    exact .cons (.tup (SqT.of e1) (.cons (rule_dp e2) (.cons (.int _) .nil))) ih
theorem belts_dp {K : PySem.W.Frag} {H : Hp} {vs : List V} {bs : List BR} (a : All2 (BeltAt H) vs bs) : DpAll K H vs (bs.map beltD) := by
  induction a with
  | nil => exact .nil
  | cons h t ih =>
    obtain ⟨t, r, rfl, e1, e2⟩ := h
    exact .cons (.tup (SqT.of e1) (.cons (.int _) (.cons (.int _) (.cons (.tup (SqT.of e2) (dp_ints _)) .nil)))) ih
theorem RoomAt.dp {K : PySem.W.Frag} {H : Hp} {r : Addr} {hs : List HR} {bs : List BR} (a : RoomAt H r hs bs) : Dp K H (.ref r) (roomD hs bs) := by
  obtain ⟨ha, ba, hv, bv, e1, e2, e3, a1, a2⟩ := a.ex
  exact .tup (SqT.of e1) (.cons (.tup (SqT.of e2) (hands_dp a1)) (.cons (.tup (SqT.of e3) (belts_dp a2)) .nil))
theorem GoodHand.size {h : HR} (g : GoodHand h) : h.wd.cps.size ≤ 10 := by
  have : h.wd ∈ nine ∨ h.wd = "in" ∨ h.wd = "out" := g.1.elim (fun k => .inl k.wd) (fun k => .inr k.1)
  rcases this with k | k | k
  · unfold nine at k
    simp only [List.mem_cons, List.not_mem_nil, or_false] at k
    rcases k with k | k | k | k | k | k | k | k | k <;> rw [k] <;> decide +kernel
  · rw [k]; decide +kernel
  · rw [k]; decide +kernel
theorem GoodHand.neat {h : HR} (g : GoodHand h) : Neat (handD h) 2 200 := by
  obtain ⟨wd, no, mom⟩ := h
  have r : NeatAll (ruleD ⟨wd, no, mom⟩) 0 60 := by
    cases no with
    | none => exact (NeatAll.cons (Neat.str g.lay g.size) .nil).mono (Nat.le_refl _) (by decide)
    | some n =>
      have : -1000000 ≤ n ∧ n ≤ 1000000 := by
        rcases g.1 with k | k
        · exact k.big n rfl
        · exact nomatch k.2
      exact (NeatAll.cons (Neat.str g.lay g.size) (.cons (Neat.int (by omega)) .nil)).mono (Nat.le_refl _) (by decide)
  have m : Neat (.int mom) 1 41 := Neat.int (by have := g.2.1; have := g.2.2; simp only at *; omega)
  exact (Neat.tup (.cons (Neat.tup r) (.cons m .nil))).mono (Nat.le_refl _) (by decide)
abbrev rowD (m : List Int) : PyData := .tuple (m.map PyData.int)
theorem rows_dp {K : PySem.W.Frag} {H : Hp} {vs : List V} {ms : List (List Int)} (a : All2 (RowAt H) vs ms) : DpAll K H vs (ms.map rowD) := by
  induction a with
  | nil => exact .nil
  | cons h t ih =>
    obtain ⟨t, rfl, e1⟩ := h
    exact .cons (.tup (SqT.of e1) (dp_ints _)) ih
theorem lay_ints : ∀ m : List Int, PyData.canLayAll0 (m.map PyData.int) = true
  | [] => rfl
  | x :: m => by
    rw [List.map_cons]
    simp only [PyData.canLayAll0, PyData.canLay0, lay_ints m, Bool.and_self]
theorem lay_rows : ∀ m : List (List Int), PyData.canLayAll0 (m.map rowD) = true
  | [] => rfl
  | x :: m => by
    rw [List.map_cons]
    simp only [PyData.canLayAll0, PyData.canLay0, lay_rows m, lay_ints, Bool.and_self]
theorem dep_ints : ∀ m : List Int, PyData.depthAll (m.map PyData.int) ≤ 0
  | [] => Nat.le_refl _
  | x :: m => by
    rw [List.map_cons]
    simp only [PyData.depthAll, PyData.depth]
    have := dep_ints m
    omega
theorem dep_rows : ∀ m : List (List Int), PyData.depthAll (m.map rowD) ≤ 1
  | [] => Nat.zero_le _
  | x :: m => by
    rw [List.map_cons]
    simp only [PyData.depthAll, PyData.depth]
    have := dep_ints x
    have := dep_rows m
    omega
theorem rows_lay (m : List (List Int)) : PyData.canLay0 (.list (m.map rowD)) = true := by
  simp only [PyData.canLay0, lay_rows]
theorem rows_shaped (m : List (List Int)) : SeqAt.shaped (.list (m.map rowD)) = true := by
  unfold SeqAt.shaped
  rw [rows_lay, Bool.true_and]
  refine decide_eq_true ?_
  simp only [PyData.depth]
  have := dep_rows m
  omega
theorem belt_lay (b : BR) : PyData.canLay0 (beltD b) = true := by
  simp only [PyData.canLay0, PyData.canLayAll0, lay_ints, Bool.and_self]
theorem belt_shaped (b : BR) : SeqAt.shaped (beltD b) = true := by
  unfold SeqAt.shaped
  rw [belt_lay, Bool.true_and]
  refine decide_eq_true ?_
  simp only [PyData.depth, PyData.depthAll]
  have := dep_ints b.th
  omega
theorem hands_neat {hs : List HR} (g : ∀ h ∈ hs, GoodHand h) : Neat (.tuple (hs.map handD)) 3 (hs.length * 201) := Neat.tup (NeatAll.map fun h hh => (g h hh).neat)
/-! ### standing on, going on -/
theorem mt_indexK {X : Cx} (K : PySem.W.Frag) (h : X.K = K) : MtR X "list.index" (rIndex K) := by subst h; exact mt_index
theorem stand_app (bs : List BR) (m1 m2 : List (List Int)) : stand (stand bs m1) m2 = stand bs (m1 ++ m2) := by
  have key : ∀ t, stand (stand bs m1) (m2.take t) = stand bs (m1 ++ m2.take t) := by
    intro t
    induction t with
    | zero => rw [List.take_zero, stand_zero, List.append_nil]
    | succ t ih =>
      rw [List.take_add_one]
      cases e : m2[t]? with
      | none => rw [Option.toList, List.append_nil]; exact ih
      | some m =>
        rw [Option.toList, ← stand_next, ih, stand_next, List.append_assoc]
  have := key m2.length
  rw [List.take_length] at this
  exact this
theorem WS.app {hs : List HR} {bs : List BR} {r1 r2 m1 m2 : List (List Int)} (a : WS hs bs r1 m1) (b : WS hs (stand bs m1) r2 m2) : WS hs bs (r1 ++ r2) (m1 ++ m2) := by
  have key : ∀ t, WS hs bs (r1 ++ r2.take t) (m1 ++ m2.take t) := by
    intro t
    induction t with
    | zero => rw [List.take_zero, List.take_zero, List.append_nil, List.append_nil]; exact a
    | succ t ih =>
      rw [List.take_add_one, List.take_add_one]
      by_cases l : t < r2.length
      · have l2 : t < m2.length := by have := b.len; omega
        have e1 : r2[t]? = some r2[t] := List.getElem?_eq_getElem l
        have e2 : m2[t]? = some m2[t] := List.getElem?_eq_getElem l2
        have q := b.at_ t _ _ e1 e2
        rw [stand_app] at q
        rw [e1, e2, Option.toList, Option.toList, ← List.append_assoc, ← List.append_assoc]
        exact ih.snoc q
      · rw [List.getElem?_eq_none (by omega), List.getElem?_eq_none (by have := b.len; omega), Option.toList, List.append_nil, List.append_nil]
        exact ih
  have := key r2.length
  rw [List.take_length, List.take_of_length_le (by rw [b.len]; exact Nat.le_refl _)] at this
  exact this
theorem RoomOk.standing {hs : List HR} {bs : List BR} (ok : RoomOk hs bs) (ms : List (List Int)) : RoomOk hs (stand bs ms) := by
  obtain ⟨rk, hrk⟩ := ok.rank
  refine ⟨ok.hands, ok.good, (ok.bell ms).ends, fun b hb h e => ?_, fun b hb => ?_, ⟨rk, fun b hb e => ?_⟩, (ok.bell ms).count, (ok.bell ms).belts⟩
  all_goals obtain ⟨c, hc, rfl⟩ := List.mem_map.mp hb
  · rw [stand_one] at e
    exact ok.out c hc h e
  · rw [stand_len]
    exact ok.th c hc
  · rw [stand_one, stand_to]
    exact hrk c hc ((stand_th ms c).mp e)
theorem RunAt.rfs {C : Addr} {G H : Hp} {p : Addr} {hs : List HR} {bs : List BR} {ms : List (List Int)} (h : RunAt C G H p hs bs ms) : ∃ (dx st pl dr : Addr) (n : Int), H p = some (.ins C dx (rf st pl dr n)) := by
  obtain ⟨dx, st, pl, dr, D, Z, ord, pls, h1, _⟩ := h.ex
  exact ⟨_, _, _, _, _, h1⟩
theorem gs_none {C : Addr} {G H : Hp} {p b : Addr} {hs : List HR} {bs : List BR} {ms : List (List Int)} (h : RunAt C G H p hs bs ms) (e : H b = none) : G b = none := by
  cases z : G b with
  | none => rfl
  | some o => rw [h.gs.1 _ _ z] at e; cases e
theorem made_same {C p dx : Addr} {H H' : Hp} (np : H p = none) (ndx : H dx = none) (ne : dx ≠ p) (b : But p (upd (upd H dx (.own p)) p (.ins C dx [])) H') : Same H H' := fun x o e => by
  have xp : x ≠ p := ne_of_none e np
  have xd : x ≠ dx := ne_of_none e ndx
  exact b _ _ (by rw [upd_ne xp, upd_ne xd]; exact e) xp
theorem All2.app {α β : Type} {R : α → β → Prop} {cs : List α} {ds : List β} (b : All2 R cs ds) : ∀ {as : List α} {bs : List β}, All2 R as bs → All2 R (as ++ cs) (bs ++ ds)
  | _, _, .nil => b
  | _, _, .cons h t => .cons h (b.app t)
theorem belts_lay : ∀ bs : List BR, PyData.canLayAll0 (bs.map beltD) = true
  | [] => rfl
  | b :: bs => by
    rw [List.map_cons]
    simp only [PyData.canLayAll0]
    rw [belt_lay, belts_lay bs]
    rfl
theorem belts_dep : ∀ bs : List BR, PyData.depthAll (bs.map beltD) ≤ 2
  | [] => Nat.zero_le _
  | b :: bs => by
    rw [List.map_cons]
    have h1 := belts_dep bs
    have h2 := dep_ints b.th
    simp only [PyData.depthAll, PyData.depth] at h1 h2 ⊢
    omega
theorem room_lay {hs : List HR} {bs : List BR} (g : ∀ h ∈ hs, GoodHand h) : PyData.canLay0 (roomD hs bs) = true := by
  have h1 := (hands_neat g).lay
  have h2 := belts_lay bs
  simp only [PyData.canLay0, PyData.canLayAll0] at h1 h2 ⊢
  rw [h1, h2]
  rfl
theorem room_shaped {hs : List HR} {bs : List BR} (g : ∀ h ∈ hs, GoodHand h) : SeqAt.shaped (roomD hs bs) = true := by
  unfold SeqAt.shaped
  rw [room_lay g, Bool.true_and]
  refine decide_eq_true ?_
  have h1 := (hands_neat g).dep
  have h2 := belts_dep bs
  simp only [PyData.depth, PyData.depthAll] at h1 h2 ⊢
  omega
theorem row_lay (m : List Int) : PyData.canLay0 (rowD m) = true := by
  simp only [PyData.canLay0, lay_ints]
theorem row_shaped (m : List Int) : SeqAt.shaped (rowD m) = true := by
  unfold SeqAt.shaped
  rw [row_lay, Bool.true_and]
  refine decide_eq_true ?_
  simp only [PyData.depth]
  have := dep_ints m
  omega
theorem ins_but {C p dx : Addr} {H H' : Hp} {fs : List (Str × V)} (h : H p = some (.ins C dx fs)) (b : But p H H') : TK H H' := fun x xs e => b _ _ e (ne_of e h (fun z => nomatch z))
section
variable {P : Program} {w : World} {K : PySem.W.Frag} {mg : Str → Option Value} {base : Heap}
def sp_law_goes_on (K : PySem.W.Frag) (C : Addr) : Sp := fun vs H Q _ => ∃ (r a1 a2 : Addr) (hs : List HR) (bs : List BR) (rv1 rv2 : List V) (r1 r2 : List (List Int)), vs = [.ref r, .ref a1, .ref a2] ∧ RoomAt H r hs bs ∧ RoomOk hs bs ∧ H a1 = some (.lst rv1) ∧ All2 (RowAt H) rv1 r1 ∧ H a2 = some (.lst rv2) ∧ All2 (RowAt H) rv2 r2 ∧
  (∀ x ∈ r1, x.length = (doorsOf "in" hs).length) ∧ (∀ x ∈ r2, x.length = (doorsOf "in" hs).length) ∧ r1.length + r2.length ≤ 100 ∧ ∀ H', Same H H' → Q (.bl true) H'
theorem ok_law_goes_on {f : Addr} {fd : FuncData} (F : Fun K "_law_goes_on" "_law_goes_on" s_law_goes_on f fd) {C : Addr} (T : Top K mg C) : FnOk P w K mg base CX0 6 f fd ["_law_room_here", "_law_first", "_law_rest"] (sp_law_goes_on K C) := by
  obtain ⟨f_standing, fd_standing, F_standing, b_standing, m_standing⟩ := T.d_standing
  have G_standing := ok_standing (P := P) (w := w) (base := base) F_standing T
  obtain ⟨f_Run___init__, fd_Run___init__, F_Run___init__, b_Run___init__, m_Run___init__⟩ := T.d_Run___init__
  have G_Run___init__ := ok_Run___init__ (P := P) (w := w) (base := base) F_Run___init__ T
  obtain ⟨f_Run_bell, fd_Run_bell, F_Run_bell, b_Run_bell, m_Run_bell⟩ := T.d_Run_bell
  have G_Run_bell := ok_Run_bell (P := P) (w := w) (base := base) F_Run_bell T
  obtain ⟨f_Run_room, fd_Run_room, F_Run_room, b_Run_room, m_Run_room⟩ := T.d_Run_room
  have G_Run_room := ok_Run_room (P := P) (w := w) (base := base) F_Run_room T
  obtain ⟨f_run, fd_run, F_run, b_run, m_run⟩ := T.d_run
  have G_run := ok_run (P := P) (w := w) (base := base) F_run T
  obtain ⟨f_worked, fd_worked, F_worked, b_worked, m_worked⟩ := T.d_worked
  have G_worked := ok_worked (P := P) (w := w) (base := base) F_worked T
  obtain ⟨f_Run_bells, fd_Run_bells, F_Run_bells, b_Run_bells, m_Run_bells⟩ := T.d_Run_bells
  have G_Run_bells := ok_Run_bells (P := P) (w := w) (base := base) F_Run_bells T
  refine F.ok sc_law_goes_on (fun vs H Q E h => ?_) (fun cdv A outer s H vs Q E hr h => ?_)
  · obtain ⟨r, a1, a2, hs, bs, rv1, rv2, r1, r2, rfl, _⟩ := h
    rfl
  obtain ⟨r, a1, a2, hs, bs, rv1, rv2, r1, r2, rfl, hR, ok, h1, al1, h2, al2, fit1, fit2, few, q⟩ := h
  have lh := ok.hands
  have lb := ok.many
  obtain ⟨rk, hrk⟩ := ok.rk
  have l1 := al1.length
  have l2 := al2.length
  have fit : ∀ x ∈ r1 ++ r2, x.length = (doorsOf "in" hs).length := fun x hx => (List.mem_append.mp hx).elim (fit1 x) (fit2 x)
  have few12 : (r1 ++ r2).length ≤ 100 := by rw [List.length_append]; exact few
  have szc : rv1.length + rv2.length ≤ sizeLine := by have := small1000 (n := rv1.length + rv2.length) (by omega); omega
  have alc : ∀ {H'}, Same H H' → All2 (RowAt H') (rv1 ++ rv2) (r1 ++ r2) := fun s => (al2.imp fun _ _ z => z.keep (TK.same s)).app (al1.imp fun _ _ z => z.keep (TK.same s))
  refine ⟨_, (pss_cons (ps_set (i := 3) sc_law_goes_on.nd rfl (Or.inl rfl) (pe_call G_standing (hr.mono (by decide)) (by rfl) m_standing F_standing.kp b_standing .nil pass0 (pa_cons (pv 0) (pa_cons (pv 1) pa_nil))))
      (pss_cons (ps_if (pt_cmpR (op_neDK K rfl hr.units) (pe_call G_run (hr.mono (by decide)) (by rfl) m_run F_run.kp b_run .nil pass0 (pa_cons (pv 0) (pa_cons (pe_op op_cat (pv 1) (pv 2)) pa_nil))) (pe_op op_cat (pe_call G_run (hr.mono (by decide)) (by rfl) m_run F_run.kp b_run .nil pass0 (pa_cons (pv 0) (pa_cons (pv 1) pa_nil))) (pe_call G_run (hr.mono (by decide)) (by rfl) m_run F_run.kp b_run .nil pass0 (pa_cons (pv 3) (pa_cons (pv 2) pa_nil)))) (nomark _)) (pss_one (ps_ret pe_bl)) pss_nil)
      (pss_cons (ps_if (pt_cmpR (op_neDK K rfl hr.units) (pe_call G_worked (hr.mono (by decide)) (by rfl) m_worked F_worked.kp b_worked .nil pass0 (pa_cons (pv 0) (pa_cons (pe_op op_cat (pv 1) (pv 2)) pa_nil))) (pe_op op_cat (pe_call G_worked (hr.mono (by decide)) (by rfl) m_worked F_worked.kp b_worked .nil pass0 (pa_cons (pv 0) (pa_cons (pv 1) pa_nil))) (pe_call G_worked (hr.mono (by decide)) (by rfl) m_worked F_worked.kp b_worked .nil pass0 (pa_cons (pv 3) (pa_cons (pv 2) pa_nil)))) (nomark _)) (pss_one (ps_ret pe_bl)) pss_nil)
      (pss_cons (ps_if (pt_cmpR (op_neDK K rfl hr.units) (pe_call G_standing (hr.mono (by decide)) (by rfl) m_standing F_standing.kp b_standing .nil pass0 (pa_cons (pv 0) (pa_cons (pe_op op_cat (pv 1) (pv 2)) pa_nil))) (pe_call G_standing (hr.mono (by decide)) (by rfl) m_standing F_standing.kp b_standing .nil pass0 (pa_cons (pv 3) (pa_cons (pv 2) pa_nil))) (nomark _)) (pss_one (ps_ret pe_bl)) pss_nil)
      (pss_cons (ps_set (i := 4) sc_law_goes_on.nd rfl (Or.inr rfl) (pe_make m_Run___init__ G_Run___init__ (hr.mono (by decide)) (by rfl) T.mgC b_Run___init__ .nil pass0 (pa_cons (pv 0) pa_nil)))
      (pss_cons (ps_for PassesOwn.never rfl (pi_listK K rfl (pv 1)) (pg_name (i := 5) sc_law_goes_on.nd rfl (Or.inl rfl))
        (pss_one (ps_expr (pe_meth (pv 4) T.cl m_Run_bell G_Run_bell (hr.mono (by decide)) b_Run_bell .nil pass0 (pa_cons (pv 5) pa_nil)))))
      (pss_cons (ps_set (i := 6) sc_law_goes_on.nd rfl (Or.inr rfl) (pe_make m_Run___init__ G_Run___init__ (hr.mono (by decide)) (by rfl) T.mgC b_Run___init__ .nil pass0 (pa_cons (pe_meth0 (pv 4) T.cl m_Run_room G_Run_room (hr.mono (by decide)) b_Run_room .nil pass0) pa_nil)))
      (pss_cons (ps_if (PW.pt (pw_or (pt_cmpR (op_neDK K rfl hr.units) (pe_meth0 (pv 4) T.cl m_Run_room G_Run_room (hr.mono (by decide)) b_Run_room .nil pass0) (pv 3) (nomark _)) (pw_or (pt_cmpR op_ne (pe_meth0 (pv 4) T.cl m_Run_bells G_Run_bells (hr.mono (by decide)) b_Run_bells .nil pass0) (pe_callB (call_len_seqK K rfl) (by rfl) T.m_len (by decide +kernel) (pa_cons (pv 1) pa_nil)) (nomark _)) (pw_or1 (pt_cmpR op_ne (pe_meth0 (pv 6) T.cl m_Run_bells G_Run_bells (hr.mono (by decide)) b_Run_bells .nil pass0) pe_int (nomark _)))))) (pss_one (ps_ret pe_bl)) pss_nil)
      (pss_one (ps_ret (pe_and (pe_callB (cr_allK K rfl rfl) (by rfl) T.m_all (by decide +kernel) (pa_cons (pe_lc (own := [("_law_things", 5)]) (g := gName 5) (tt := tYes) (by rfl) sc_law_goes_on.nd (pi_listK K rfl (pv 2)) (blkOk_by (own := [("_law_things", 5)]) (N := N_law_goes_on) (sc := defScope s_law_goes_on) (by decide +kernel)) (fun _ _ _ _ _ => (pg_name (i := 5) sc_law_goes_on.nd rfl (Or.inl rfl))) (fun _ _ _ _ _ => pts_nil) (fun _ _ _ _ _ => (pe_cmpR (op_eqDK K rfl hr.units) (pe_meth (pv 4) T.cl m_Run_bell G_Run_bell (hr.mono (by decide)) b_Run_bell .nil pass0 (pa_cons (pv 5) pa_nil)) (pe_meth (pv 6) T.cl m_Run_bell G_Run_bell (hr.mono (by decide)) b_Run_bell .nil pass0 (pa_cons (pv 5) pa_nil)) (nomark _)))) pa_nil)) (pe_one (pe_cmpR (op_eqDK K rfl hr.units) (pe_meth0 (pv 4) T.cl m_Run_room G_Run_room (hr.mono (by decide)) b_Run_room .nil pass0) (pe_meth0 (pv 6) T.cl m_Run_room G_Run_room (hr.mono (by decide)) b_Run_room .nil pass0) (nomark _)))))))))))))), ?_⟩
  refine ⟨_, rfl, _, rfl, r, a1, hs, bs, r1, rfl, hR, ok, ⟨rv1, .inl h1, al1⟩, fit1, by omega, fun th m1 H1 hT ws1 s1 => ?_⟩
  have okT := ok.standing m1
  obtain ⟨rkT, hrkT⟩ := okT.rk
  have lm1 := ws1.len
  -- run
  refine ⟨_, rfl, _, rfl, _, rfl, a1, a2, rv1, rv2, rfl, rfl, s1 _ _ h1, s1 _ _ h2, szc, fun c1 nc1 => ?_⟩
  have s2 := s1.trans (same_new (o := .lst (rv1 ++ rv2)) nc1)
  refine ⟨r, c1, hs, bs, r1 ++ r2, rfl, hR.keep (TK.same s2), ok, ⟨_, .inl upd_same, alc s2⟩, fit, few12, fun o1 ov1 mA H3 no1 ho1 alo1 wsA s3 => ?_⟩
  have s13 := s2.trans s3
  have hc1 := s3 _ _ upd_same
  refine ⟨_, rfl, _, rfl, r, a1, hs, bs, r1, rfl, hR.keep (TK.same s13), ok, ⟨rv1, .inl (s13 _ _ h1), al1.imp fun _ _ z => z.keep (TK.same s13)⟩, fit1, by omega, fun o2 ov2 mB H4 no2 ho2 alo2 wsB s4 => ?_⟩
  obtain rfl : mB = m1 := WS.one hrk wsB ws1
  have s14 := s13.trans s4
  have hT4 := hT.keep (TK.same (((same_new nc1).trans s3).trans s4))
  refine ⟨_, rfl, _, rfl, th, a2, hs, stand bs mB, r2, rfl, hT4, okT, ⟨rv2, .inl (s14 _ _ h2), al2.imp fun _ _ z => z.keep (TK.same s14)⟩, fit2, by omega, fun o3 ov3 m2 H5 no3 ho3 alo3 ws2 s5 => ?_⟩
  have wsA2 := ws1.app ws2
  obtain rfl : mA = mB ++ m2 := WS.one hrk wsA wsA2
  have lm2 := ws2.len
  have s15 := s14.trans s5
  have lov2 := alo2.length
  have lov3 := alo3.length
  rw [List.length_map] at lov2 lov3
  refine ⟨o2, o3, ov2, ov3, rfl, rfl, s5 _ _ ho2, ho3, by have := small1000 (n := ov2.length + ov3.length) (by omega); omega, fun c2 nc2 => ?_⟩
  have s56 : Same H5 (upd H5 c2 (.lst (ov2 ++ ov3))) := same_new nc2
  have s36 := (s4.trans s5).trans s56
  have al23 : All2 (RowAt (upd H5 c2 (.lst (ov2 ++ ov3)))) (ov2 ++ ov3) ((mB ++ m2).map (outsOf hs)) := by
    rw [List.map_append]
    exact (alo3.imp fun _ _ z => z.keep (TK.same s56)).app (alo2.imp fun _ _ z => z.keep (TK.same (s5.trans s56)))
  refine ⟨_, _, .lst (SqL.of (s36 _ _ ho1)) (rows_dp (alo1.imp fun _ _ z => z.keep (TK.same s36))), .lst (SqL.of upd_same) (rows_dp al23), rows_shaped _, rows_shaped _, _, rfl, ?_⟩
  rw [PySem.SeqAt.eqv_refl _ (rows_lay _)]
  refine if_bl (fun z => nomatch z) (fun _ => ?_)
  have s16 := s15.trans s56
  have hT6 := hT4.keep (TK.same (s5.trans s56))
  obtain ⟨H6, eH6⟩ : ∃ H6, H6 = upd H5 c2 (.lst (ov2 ++ ov3)) := ⟨_, rfl⟩
  rw [← eH6] at s16 hT6 ⊢
  clear eH6 al23 s36 s56 nc2 ho3 alo3 no3 s15 s5 ho2 alo2 no2 s14 hT4 s4 ho1 alo1 no1 hc1 s13 s3 s2 wsB
  -- worked
  refine ⟨_, rfl, _, rfl, _, rfl, a1, a2, rv1, rv2, rfl, rfl, s16 _ _ h1, s16 _ _ h2, szc, fun c3 nc3 => ?_⟩
  have s2 := s16.trans (same_new (o := .lst (rv1 ++ rv2)) nc3)
  refine ⟨r, c3, hs, bs, r1 ++ r2, rfl, hR.keep (TK.same s2), ok, ⟨_, .inl upd_same, alc s2⟩, fit, few12, fun o1 ov1 mA H7 no1 ho1 alo1 wsA1 s3 => ?_⟩
  obtain rfl : mA = mB ++ m2 := WS.one hrk wsA1 wsA2
  have s17 := s2.trans s3
  refine ⟨_, rfl, _, rfl, r, a1, hs, bs, r1, rfl, hR.keep (TK.same s17), ok, ⟨rv1, .inl (s17 _ _ h1), al1.imp fun _ _ z => z.keep (TK.same s17)⟩, fit1, by omega, fun o2 ov2 mC H8 no2 ho2 alo2 wsC s4 => ?_⟩
  obtain rfl : mC = mB := WS.one hrk wsC ws1
  have s18 := s17.trans s4
  have hT8 := hT6.keep (TK.same (((same_new nc3).trans s3).trans s4))
  refine ⟨_, rfl, _, rfl, th, a2, hs, stand bs mC, r2, rfl, hT8, okT, ⟨rv2, .inl (s18 _ _ h2), al2.imp fun _ _ z => z.keep (TK.same s18)⟩, fit2, by omega, fun o3 ov3 mD H9 no3 ho3 alo3 wsD s5 => ?_⟩
  obtain rfl : mD = m2 := WS.one hrkT wsD ws2
  have s19 := s18.trans s5
  have lov2 := alo2.length
  have lov3 := alo3.length
  refine ⟨o2, o3, ov2, ov3, rfl, rfl, s5 _ _ ho2, ho3, by have := small1000 (n := ov2.length + ov3.length) (by omega); omega, fun c2 nc2 => ?_⟩
  have s56 : Same H9 (upd H9 c2 (.lst (ov2 ++ ov3))) := same_new nc2
  have s36 := (s4.trans s5).trans s56
  have al23 : All2 (RowAt (upd H9 c2 (.lst (ov2 ++ ov3)))) (ov2 ++ ov3) (mC ++ mD) := (alo3.imp fun _ _ z => z.keep (TK.same s56)).app (alo2.imp fun _ _ z => z.keep (TK.same (s5.trans s56)))
  refine ⟨_, _, .lst (SqL.of (s36 _ _ ho1)) (rows_dp (alo1.imp fun _ _ z => z.keep (TK.same s36))), .lst (SqL.of upd_same) (rows_dp al23), rows_shaped _, rows_shaped _, _, rfl, ?_⟩
  rw [PySem.SeqAt.eqv_refl _ (rows_lay _)]
  refine if_bl (fun z => nomatch z) (fun _ => ?_)
  have s1a := s19.trans s56
  have hTa := hT8.keep (TK.same (s5.trans s56))
  obtain ⟨Ha, eHa⟩ : ∃ Ha, Ha = upd H9 c2 (.lst (ov2 ++ ov3)) := ⟨_, rfl⟩
  rw [← eHa] at s1a hTa ⊢
  clear eHa al23 s36 s56 nc2 ho3 alo3 no3 s19 s5 ho2 alo2 no2 s18 hT8 s4 ho1 alo1 no1 s17 s3 s2 wsC wsD wsA1
  -- standing
  refine ⟨_, rfl, _, rfl, _, rfl, a1, a2, rv1, rv2, rfl, rfl, s1a _ _ h1, s1a _ _ h2, szc, fun c4 nc4 => ?_⟩
  have s2 := s1a.trans (same_new (o := .lst (rv1 ++ rv2)) nc4)
  refine ⟨r, c4, hs, bs, r1 ++ r2, rfl, hR.keep (TK.same s2), ok, ⟨_, .inl upd_same, alc s2⟩, fit, few12, fun t1 mA Hb ht1 wsA1 s3 => ?_⟩
  obtain rfl : mA = mC ++ mD := WS.one hrk wsA1 wsA2
  have s1b := s2.trans s3
  have hTb := hTa.keep (TK.same ((same_new nc4).trans s3))
  refine ⟨_, rfl, _, rfl, th, a2, hs, stand bs mC, r2, rfl, hTb, okT, ⟨rv2, .inl (s1b _ _ h2), al2.imp fun _ _ z => z.keep (TK.same s1b)⟩, fit2, by omega, fun t2 mE Hc ht2 wsE s4 => ?_⟩
  obtain rfl : mE = mD := WS.one hrkT wsE ws2
  rw [stand_app] at ht2
  refine ⟨_, _, (ht1.keep (TK.same s4)).dp, ht2.dp, room_shaped ok.good, room_shaped ok.good, _, rfl, ?_⟩
  rw [PySem.SeqAt.eqv_refl _ (room_lay ok.good)]
  refine if_bl (fun z => nomatch z) (fun _ => ?_)
  have s1c := s1b.trans s4
  have hTc := hTb.keep (TK.same s4)
  clear ht1 ht2 s4 hTb s1b s3 s2 hTa s1a wsA1 wsE
  -- a Run, begun
  refine ⟨_, rfl, fun p dx np ndx ne => ?_⟩
  have s3 : Same Hc (upd (upd Hc dx (.own p)) p (.ins C dx [])) := fun x o e => by
    rw [upd_ne (ne_of_none e np), upd_ne (ne_of_none e ndx)]; exact e
  refine ⟨p, r, dx, hs, bs, rfl, upd_same, hR.keep (TK.same (s1c.trans s3)), ok, fun G Hd run0 gold0 b0 => ⟨rfl, ?_⟩⟩
  have scd := made_same np ndx ne b0
  have s1d := s1c.trans scd
  obtain ⟨dx0, _, _, _, _, ep0⟩ := run0.rfs
  have h1d := s1d _ _ h1
  have h2d := s1d _ _ h2
  refine ⟨_, rfl, a1, rfl, ⟨_, SqL.of h1d⟩, for_list (K := K) (a := a1) (xs := rv1) (fun i σ H6 => ∃ (ms : List (List Int)) (v5 : Option V), σ = [some (.ref r), some (.ref a1), some (.ref a2), some (.ref th), some (.ref p), v5, none] ∧ RunAt C G H6 p hs bs ms ∧ WS hs bs (r1.take i) ms ∧ But p Hd H6)
    ⟨[], none, rfl, run0, WS.nil, But.refl⟩ (fun i σ H6 _ ⟨_, _, _, _, _, b6⟩ => SqL.of (b6 _ _ h1d (ne_of h1d ep0 (fun z => nomatch z)))) ?_ ?_⟩
  · rintro i x σ H6 hx ⟨ms, v5, rfl, run6, ws6, b6⟩
    obtain ⟨row, erow, ⟨tr, rfl, htr⟩⟩ := al1.getL hx
    obtain ⟨dx, st, pl, dr, D0, Z, ord, pls, hp, hst, _⟩ := run6.ex
    have htrd := s1d _ _ htr
    refine ⟨_, rfl, p, dx, _, rfl, hp, (by rfl), _, rfl, p, tr, hs, bs, ms, G, row, rfl, run6, ok, b6 _ _ htrd (ne_of htrd ep0 (fun z => nomatch z)), fit1 row (List.mem_of_getElem? erow), fun o m H7 bell run7 no ho b7 => ?_⟩
    refine ⟨ms ++ [m], _, rfl, run7, ?_, b6.trans b7⟩
    rw [List.take_add_one, erow]
    exact ws6.snoc bell
  rintro σ H6 ⟨ms, v5, rfl, run6, ws6, b6⟩
  rw [l1, List.take_length] at ws6
  obtain rfl : ms = mC := WS.one hrk ws6 ws1
  have sd6 : Same Hc H6 := fun x o e => b6 _ _ (scd _ _ e) (ne_of_none e np)
  have s16' := s1c.trans sd6
  have hT6 := hTc.keep (TK.same sd6)
  obtain ⟨dx1, st1, _, _, _, _, _, _, hp6, _⟩ := run6.ex
  refine ⟨_, rfl, p, dx1, _, rfl, hp6, (by rfl), p, hs, bs, ms, G, rfl, run6, fun st hst => fun p2 dx2 np2 ndx2 ne2 => ?_⟩
  have s4 : Same H6 (upd (upd H6 dx2 (.own p2)) p2 (.ins C dx2 [])) := fun x o e => by
    rw [upd_ne (ne_of_none e np2), upd_ne (ne_of_none e ndx2)]; exact e
  refine ⟨p2, st, dx2, hs, stand bs ms, rfl, upd_same, hst.keep (TK.same s4), okT, fun G2 H7 run20 gold2 b2 => ⟨rfl, ?_⟩⟩
  have s67 := made_same np2 ndx2 ne2 b2
  have hp7 := s67 _ _ hp6
  have run7 : RunAt C G H7 p hs bs ms := run6.go (hp7.trans hp6.symm) (TK.same s67) (run6.gs.1.trans s67)
  have pp2 : p ≠ p2 := ne_of_none hp6 np2
  have g2p : G2 p = none := gold2 p _ (s4 _ _ hp6)
  have gp2 : G p2 = none := gs_none run6 np2
  have s17' := s16'.trans s67
  have hT7 := hT6.keep (TK.same s67)
  obtain ⟨dx2', _, _, _, _, ep2⟩ := run20.rfs
  refine ⟨_, rfl, p, dx1, _, rfl, hp7, (by rfl), p, hs, bs, ms, G, rfl, run7, fun st' hst' => ?_⟩
  refine ⟨_, rfl, _, _, hst'.dp, hT7.dp, room_shaped ok.good, room_shaped ok.good, _, rfl, ?_⟩
  rw [PySem.SeqAt.eqv_refl _ (room_lay ok.good)]
  refine if_bl (fun z => nomatch z) (fun _ => ?_)
  refine ⟨_, rfl, p, dx1, _, rfl, hp7, (by rfl), p, hs, bs, ms, G, rfl, run7, _, rfl, a1, _, rfl, .inl (SqL.of (s17' _ _ h1)), rfl, _, rfl, ?_⟩
  refine if_bl (fun z => ?_) (fun _ => ?_)
  · exfalso
    have e : ((ms.length : Nat) : Int) = ((rv1.length : Nat) : Int) := by omega
    simp [e] at z
  refine ⟨_, rfl, p2, dx2', _, rfl, ep2, (by rfl), p2, hs, stand bs ms, [], G2, rfl, run20, rfl, _, rfl, if_bl (fun z => nomatch z) (fun _ => ?_)⟩
  have h27 := s17' _ _ h2
  refine ⟨_, rfl, a2, rfl, ⟨_, SqL.of h27⟩, fun D nD => lc_list (K := K) (a := a2) (xs := rv2) (fun i H8 => ∃ ms2 : List (List Int), H8 D = some (.lst ((List.replicate i true).map V.bl)) ∧ RunAt C G H8 p hs bs (ms ++ ms2) ∧ RunAt C G2 H8 p2 hs (stand bs ms) ms2 ∧ ∀ b o, H7 b = some o → b ≠ p → b ≠ p2 → H8 b = some o) ?_ (fun i H8 _ ⟨_, _, _, _, fr⟩ => SqL.of (fr _ _ h27 (ne_of h27 hp7 (fun z => nomatch z)) (ne_of h27 ep2 (fun z => nomatch z)))) ?_ ?_⟩
  · refine ⟨[], upd_same, ?_, ?_, fun b o e _ _ => same_new nD _ _ e⟩
    · rw [List.append_nil]
      exact run7.go (upd_ne (ne_of_none hp7 nD)) (TK.new nD) (run7.gs.1.trans (same_new nD))
    · exact run20.go (upd_ne (ne_of_none ep2 nD)) (TK.new nD) (run20.gs.1.trans (same_new nD))
  · rintro i x H8 hx ⟨ms2, hD, runA, runB, fr⟩
    obtain ⟨row, erow, ⟨tr, rfl, htr⟩⟩ := al2.getL hx
    have il := (List.getElem?_eq_some_iff.mp hx).1
    have fr' : ∀ {t xs}, H t = some (.tup xs) → H8 t = some (.tup xs) := fun {t xs} e => by
      have e7 := s17' _ _ e
      exact fr _ _ e7 (ne_of e7 hp7 (fun z => nomatch z)) (ne_of e7 ep2 (fun z => nomatch z))
    obtain ⟨dxA, _, _, _, _, hpA⟩ := runA.rfs
    obtain ⟨dxB, _, _, _, _, hpB⟩ := runB.rfs
    refine ⟨rfl, yes_in ⟨_, rfl, p, dxA, _, rfl, hpA, (by rfl), _, rfl, p, tr, hs, bs, ms ++ ms2, G, row, rfl, runA, ok, fr' htr, fit2 row (List.mem_of_getElem? erow), fun o m H9 bell run9 no ho b9 => ?_⟩⟩
    have hpB9 := b9 _ _ hpB pp2.symm
    have runB9 := runB.go (hpB9.trans hpB.symm) (ins_but hpA b9) (fun b o e => b9 _ _ (runB.gs.1 _ _ e) (fun z => by rw [z, g2p] at e; cases e))
    have htr9 := ins_but hpA b9 _ _ (fr' htr)
    refine ⟨_, rfl, p2, dxB, _, rfl, hpB9, (by rfl), _, rfl, p2, tr, hs, stand bs ms, ms2, G2, row, rfl, runB9, okT, htr9, fit2 row (List.mem_of_getElem? erow), fun o' m' Ha bell' run10 no' ho' b10 => ?_⟩
    rw [stand_app] at bell'
    obtain rfl : m' = m := bell_one (rk := rk) (by rw [loose_stand]; exact hrk) bell' bell
    have ho10 := b10 _ _ ho (ne_of ho hpB9 (fun z => nomatch z))
    refine ⟨_, _, .tup (SqT.of ho10) (dp_ints _), .tup (SqT.of ho') (dp_ints _), row_shaped _, row_shaped _, ?_⟩
    rw [PySem.SeqAt.eqv_refl _ (row_lay _)]
    have Dp1 : D ≠ p := ne_of hD hpA (fun z => nomatch z)
    have Dp2 : D ≠ p2 := ne_of hD hpB (fun z => nomatch z)
    have hD10 := b10 _ _ (b9 _ _ hD Dp1) Dp2
    obtain ⟨dxC, _, _, _, _, hpC⟩ := run9.rfs
    have hpC10 := b10 _ _ hpC pp2
    have runA10 := run9.go (hpC10.trans hpC.symm) (ins_but hpB9 b10) (fun b o e => b10 _ _ (run9.gs.1 _ _ e) (fun z => by rw [z, gp2] at e; cases e))
    refine ⟨_, hD10, ?_, ms2 ++ [m'], ?_, ?_, ?_, fun b o e n1 n2 => ?_⟩
    · rw [List.length_map, List.length_replicate]; exact small1000 (by omega)
    · rw [upd_same, List.replicate_succ', List.map_append]; rfl
    · rw [← List.append_assoc]
      exact runA10.go (upd_ne Dp1.symm) (TK.lst hD10) (Same.own runA10.gs.1 (gs_none run7 nD))
    · exact run10.go (upd_ne Dp2.symm) (TK.lst hD10) (Same.own run10.gs.1 (gs_none run20 nD))
    · rw [upd_ne (ne_of_none e nD)]
      exact b10 _ _ (b9 _ _ (fr _ _ e n1 n2) n1) n2
  · rintro H8 ⟨ms2, hD, runA, runB, fr⟩
    refine ⟨D, _, rfl, SqL.of hD, _, rfl, if_bl (fun _ => ?_) (fun z => ?_)⟩
    · obtain ⟨dxA, _, _, _, _, hpA⟩ := runA.rfs
      obtain ⟨dxB, _, _, _, _, hpB⟩ := runB.rfs
      refine ⟨_, rfl, p, dxA, _, rfl, hpA, (by rfl), p, hs, bs, ms ++ ms2, G, rfl, runA, fun sA hsA => ?_⟩
      refine ⟨_, rfl, p2, dxB, _, rfl, hpB, (by rfl), p2, hs, stand bs ms, ms2, G2, rfl, runB, fun sB hsB => ?_⟩
      rw [stand_app] at hsB
      refine ⟨_, _, hsA.dp, hsB.dp, room_shaped ok.good, room_shaped ok.good, ?_⟩
      rw [PySem.SeqAt.eqv_refl _ (room_lay ok.good)]
      exact q _ fun b o e => fr _ _ (s17' _ _ e) (ne_of_none (s1c _ _ e) np) (ne_of_none (s16' _ _ e) np2)
    · exfalso
      rw [List.all_replicate] at z
      simp at z
end
/-! ### a room turned: its hands in another order -/
def ren (ord : List Nat) (b : BR) : BR := ⟨ord.idxOf b.one, ord.idxOf b.to, b.th⟩
structure Turned (hs : List HR) (bs : List BR) (ord : List Nat) (hs' : List HR) (bs' : List BR) : Prop where
  perm : ord.Perm (List.range hs.length)
  hlen : hs'.length = ord.length
  hand : ∀ j k : Nat, ord[j]? = some k → hs'[j]? = hs[k]?
  len : bs'.length = bs.length
  of : ∀ b' ∈ bs', ∃ b ∈ bs, b' = ren ord b
  at_ : ∀ k, k < hs.length → bs'.filter (fun b => decide (b.to = ord.idxOf k)) = (bs.filter fun b => decide (b.to = k)).map (ren ord)
theorem rest_pop {p : BR → Bool} {x : BR} {t : List BR} : ∀ {rest : List BR}, rest.filter p = x :: t → ∃ rest' : List BR, rest'.length + 1 = rest.length ∧ rest'.filter p = t ∧ (∀ q : BR → Bool, q x = false → rest'.filter q = rest.filter q) ∧ (∀ b ∈ rest', b ∈ rest)
  | [], h => nomatch h
  | a :: l, h => by
    cases e : p a with
    | true =>
      rw [List.filter_cons_of_pos e] at h
      injection h with h1 h2
      refine ⟨l, rfl, h2, fun q hq => ?_, fun b hb => List.mem_cons_of_mem _ hb⟩
      rw [List.filter_cons_of_neg (by rw [h1, hq]; exact Bool.false_ne_true)]
    | false =>
      rw [List.filter_cons_of_neg (by rw [e]; exact Bool.false_ne_true)] at h
      obtain ⟨r, h1, h2, h3, h4⟩ := rest_pop h
      refine ⟨a :: r, congrArg (· + 1) h1, ?_, fun q hq => ?_, fun b hb => ?_⟩
      · rw [List.filter_cons_of_neg (by rw [e]; exact Bool.false_ne_true), h2]
      · rw [List.filter_cons, List.filter_cons, h3 q hq]
      · rcases List.mem_cons.mp hb with z | z
        · rw [z]; exact List.mem_cons_self ..
        · exact List.mem_cons_of_mem _ (h4 b z)
structure Mid (n : Nat) (bs : List BR) (ord : List Nat) (found rest : List BR) : Prop where
  len : found.length + rest.length = bs.length
  of : ∀ b' ∈ found, ∃ b ∈ bs, b' = ren ord b
  sub : ∀ b ∈ rest, b ∈ bs
  at_ : ∀ k, k < n → found.filter (fun b => decide (b.to = ord.idxOf k)) ++ (rest.filter fun b => decide (b.to = k)).map (ren ord) = (bs.filter fun b => decide (b.to = k)).map (ren ord)
theorem Mid.zero {n : Nat} {bs : List BR} {ord : List Nat} : Mid n bs ord [] bs := ⟨Nat.zero_add _, (fun _ z => nomatch z), (fun _ z => z), fun _ _ => rfl⟩
theorem idx_inj {l : List Nat} {a b : Nat} (ha : a ∈ l) (h : l.idxOf a = l.idxOf b) (hb : b ∈ l) : a = b := by
  have i1 := List.idxOf_lt_length_of_mem ha
  have i2 := List.idxOf_lt_length_of_mem hb
  have e1 := List.getElem_idxOf i1
  have e2 := List.getElem_idxOf i2
  rw [← e1, ← e2]
  simp only [h]
theorem Mid.step {n : Nat} {bs : List BR} {ord : List Nat} {found rest t : List BR} {x : BR} {k0 : Nat} (h : Mid n bs ord found rest) (pm : ∀ k, k < n → k ∈ ord) (k0n : k0 < n) (e : rest.filter (fun b => decide (b.to = k0)) = x :: t) :
    ∃ rest' : List BR, Mid n bs ord (found ++ [ren ord x]) rest' ∧ rest'.length + 1 = rest.length ∧ rest'.filter (fun b => decide (b.to = k0)) = t ∧ ∀ k, k ≠ k0 → rest'.filter (fun b => decide (b.to = k)) = rest.filter fun b => decide (b.to = k) := by
  have hx : x ∈ rest.filter (fun b => decide (b.to = k0)) := by rw [e]; exact List.mem_cons_self ..
  have xr := (List.mem_filter.mp hx).1
  have xt : x.to = k0 := of_decide_eq_true (List.mem_filter.mp hx).2
  obtain ⟨r, h1, h2, h3, h4⟩ := rest_pop e
  have h3' : ∀ k, k ≠ k0 → r.filter (fun b => decide (b.to = k)) = rest.filter fun b => decide (b.to = k) := fun k hk => h3 _ (decide_eq_false fun z => hk (z.symm.trans xt))
  refine ⟨r, ⟨?_, fun b hb => ?_, fun b hb => h.sub b (h4 b hb), fun k hk => ?_⟩, h1, h2, h3'⟩
  · have := h.len
    rw [List.length_append]
    show found.length + 1 + r.length = _
    omega
  · rcases List.mem_append.mp hb with z | z
    · exact h.of b z
    · rw [List.mem_singleton.mp z]; exact ⟨x, h.sub x xr, rfl⟩
  · rw [List.filter_append]
    have q := h.at_ k hk
    by_cases ek : k = k0
    · subst ek
      rw [e, List.map_cons] at q
      rw [h2, List.filter_cons_of_pos (by rw [show (ren ord x).to = ord.idxOf x.to from rfl, xt]; exact decide_eq_true rfl), List.filter_nil, List.append_assoc]
      exact q
    · rw [h3' k ek, List.filter_cons_of_neg, List.filter_nil, List.append_nil]
      · exact q
      · rw [decide_eq_true_eq, show (ren ord x).to = ord.idxOf x.to from rfl, xt]
        exact fun z => ek (idx_inj (pm k0 k0n) z (pm k hk)).symm
theorem Mid.some {n : Nat} {bs : List BR} {ord : List Nat} {found rest : List BR} (h : Mid n bs ord found rest) (ends : ∀ b ∈ bs, b.to < n) (l : found.length < bs.length) : ∃ k, k < n ∧ rest.filter (fun b => decide (b.to = k)) ≠ [] := by
  have hl := h.len
  cases er : rest with
  | nil => rw [er] at hl; simp at hl; omega
  | cons b r =>
    have hb : b ∈ rest := by rw [er]; exact List.mem_cons_self ..
    refine ⟨b.to, ends b (h.sub b hb), fun z => ?_⟩
    have y : b ∈ (b :: r).filter (fun a => decide (a.to = b.to)) := List.mem_filter.mpr ⟨List.mem_cons_self .., decide_eq_true rfl⟩
    rw [z] at y
    cases y
/-! #### what a turned room keeps -/
theorem Turned.mem {hs : List HR} {bs : List BR} {ord : List Nat} {hs' : List HR} {bs' : List BR} (t : Turned hs bs ord hs' bs') {k : Nat} : k ∈ ord ↔ k < hs.length := by
  rw [t.perm.mem_iff, List.mem_range]
theorem Turned.nd {hs : List HR} {bs : List BR} {ord : List Nat} {hs' : List HR} {bs' : List BR} (t : Turned hs bs ord hs' bs') : ord.Nodup := t.perm.nodup_iff.mpr List.nodup_range
theorem Turned.olen {hs : List HR} {bs : List BR} {ord : List Nat} {hs' : List HR} {bs' : List BR} (t : Turned hs bs ord hs' bs') : ord.length = hs.length := by
  rw [t.perm.length_eq, List.length_range]
theorem Turned.back {hs : List HR} {bs : List BR} {ord : List Nat} {hs' : List HR} {bs' : List BR} (t : Turned hs bs ord hs' bs') {k : Nat} (h : k < hs.length) : ord[ord.idxOf k]? = some k := by
  have il := List.idxOf_lt_length_of_mem (t.mem.mpr h)
  rw [List.getElem?_eq_getElem il, List.getElem_idxOf]
theorem Turned.lt {hs : List HR} {bs : List BR} {ord : List Nat} {hs' : List HR} {bs' : List BR} (t : Turned hs bs ord hs' bs') {k : Nat} (h : k < hs.length) : ord.idxOf k < hs'.length := by
  rw [t.hlen]; exact List.idxOf_lt_length_of_mem (t.mem.mpr h)
theorem Turned.pre {hs : List HR} {bs : List BR} {ord : List Nat} {hs' : List HR} {bs' : List BR} (t : Turned hs bs ord hs' bs') {j : Nat} {h : HR} (e : hs'[j]? = some h) : ∃ k, ord[j]? = some k ∧ hs[k]? = some h ∧ k < hs.length ∧ ord.idxOf k = j := by
  have jl := (List.getElem?_eq_some_iff.mp e).1
  have jo : j < ord.length := by rw [← t.hlen]; exact jl
  have ek : ord[j]? = some ord[j] := List.getElem?_eq_getElem jo
  exact ⟨_, ek, (t.hand _ _ ek).symm.trans e, t.mem.mp (List.mem_of_getElem? ek), idx_at t.nd ek⟩
theorem count_filter (bs : List BR) (k : Nat) : (bs.map BR.to).count k = (bs.filter fun b => decide (b.to = k)).length := by
  induction bs with
  | nil => rfl
  | cons b bs ih =>
    rw [List.map_cons, List.count_cons, List.filter_cons, ih]
    by_cases e : b.to = k
    · rw [if_pos (by simp [e]), if_pos (by simp [e])]; rfl
    · rw [if_neg (by simp [e]), if_neg (by simp [e])]; rfl
theorem Turned.ok {hs : List HR} {bs : List BR} {ord : List Nat} {hs' : List HR} {bs' : List BR} (t : Turned hs bs ord hs' bs') (ok : RoomOk hs bs) : RoomOk hs' bs' := by
  obtain ⟨rk, hrk⟩ := ok.rank
  have lh := ok.hands
  have lo := t.olen
  have hl := t.hlen
  refine ⟨by omega, fun h hh => ?_, fun b' hb => ?_, fun b' hb h e => ?_, fun b' hb => ?_, ⟨fun j => rk (ord.getD j 0), fun b' hb e => ?_⟩, fun j h e => ?_, by rw [t.len]; exact ok.many⟩
  · obtain ⟨j, ej⟩ := List.getElem?_of_mem hh
    obtain ⟨k, _, e2, _⟩ := t.pre ej
    exact ok.good h (List.mem_of_getElem? e2)
  · obtain ⟨b, hbm, rfl⟩ := t.of b' hb
    exact ⟨t.lt (ok.ends b hbm).1, t.lt (ok.ends b hbm).2⟩
  · obtain ⟨b, hbm, rfl⟩ := t.of b' hb
    obtain ⟨k, e1, e2, e3, e4⟩ := t.pre e
    have : ord[ord.idxOf b.one]? = some b.one := t.back (ok.ends b hbm).1
    rw [show (ren ord b).one = ord.idxOf b.one from rfl, this] at e1
    cases e1
    exact ok.out b hbm h e2
  · obtain ⟨b, hbm, rfl⟩ := t.of b' hb
    exact ok.th b hbm
  · obtain ⟨b, hbm, rfl⟩ := t.of b' hb
    show rk (ord.getD (ord.idxOf b.one) 0) < rk (ord.getD (ord.idxOf b.to) 0)
    rw [List.getD_eq_getElem?_getD, List.getD_eq_getElem?_getD, t.back (ok.ends b hbm).1, t.back (ok.ends b hbm).2]
    exact hrk b hbm e
  · obtain ⟨k, e1, e2, e3, e4⟩ := t.pre e
    have q := ok.count k h e2
    rw [count_filter] at q ⊢
    have z := t.at_ k e3
    rw [e4] at z
    rw [z, List.length_map]
    exact q
/-- a bell's things, in the other order -/
abbrev turn (ord : List Nat) (m : List Int) : List Int := ord.map (gD m)
theorem turn_at {ord : List Nat} {m : List Int} {k : Nat} (h : k ∈ ord) : gD (turn ord m) (ord.idxOf k) = gD m k := by
  have il := List.idxOf_lt_length_of_mem h
  show (ord.map (gD m)).getD (ord.idxOf k) 0 = _
  rw [List.getD_eq_getElem?_getD, List.getElem?_map, List.getElem?_eq_getElem il, List.getElem_idxOf]
  rfl
theorem ren_stand {ord : List Nat} {ms : List (List Int)} {b : BR} (h : b.one ∈ ord) : standB (ms.map (turn ord)) (ren ord b) = ren ord (standB ms b) := by
  unfold standB
  by_cases e : b.th = []
  · rw [if_pos e, if_pos (show (ren ord b).th = [] from e)]
  · rw [if_neg e, if_neg (show ¬ (ren ord b).th = [] from e)]
    show (⟨ord.idxOf b.one, ord.idxOf b.to, (b.th ++ (ms.map (turn ord)).map fun m => gD m (ord.idxOf b.one)).drop (ms.map (turn ord)).length⟩ : BR) = ⟨ord.idxOf b.one, ord.idxOf b.to, (b.th ++ ms.map fun m => gD m b.one).drop ms.length⟩
    rw [List.length_map, List.map_map]
    congr 4
    funext m
    exact turn_at h
theorem Turned.stand {hs : List HR} {bs : List BR} {ord : List Nat} {hs' : List HR} {bs' : List BR} (t : Turned hs bs ord hs' bs') (ends : ∀ b ∈ bs, b.one < hs.length) (ms : List (List Int)) : Turned hs (Mine.stand bs ms) ord hs' (Mine.stand bs' (ms.map (turn ord))) := by
  refine ⟨t.perm, t.hlen, t.hand, by rw [List.length_map, List.length_map]; exact t.len, fun b' hb => ?_, fun k hk => ?_⟩
  · obtain ⟨c', hc, rfl⟩ := List.mem_map.mp hb
    obtain ⟨b, hbm, rfl⟩ := t.of c' hc
    exact ⟨standB ms b, List.mem_map.mpr ⟨b, hbm, rfl⟩, ren_stand (t.mem.mpr (ends b hbm))⟩
  · rw [List.filter_map, List.filter_map, List.map_map]
    have e1 : ((fun b : BR => decide (b.to = ord.idxOf k)) ∘ standB (ms.map (turn ord))) = fun b => decide (b.to = ord.idxOf k) := by
      funext b
      show decide ((standB _ b).to = _) = _
      rw [stand_to]
    have e2 : ((fun b : BR => decide (b.to = k)) ∘ standB ms) = fun b => decide (b.to = k) := by
      funext b
      show decide ((standB _ b).to = _) = _
      rw [stand_to]
    rw [e1, e2, t.at_ k hk, List.map_map]
    refine List.map_congr_left fun b hb => ?_
    exact ren_stand (t.mem.mpr (ends b (List.mem_filter.mp hb).1))
def turnRow (hs : List HR) (ord : List Nat) (hs' : List HR) (x : List Int) : List Int := ((doorsOf "in" hs').map fun j => ord.getD j 0).map fun k => x.getD ((doorsOf "in" hs).idxOf k) 0
theorem Turned.bell {hs : List HR} {bs : List BR} {ord : List Nat} {hs' : List HR} {bs' : List BR} (t : Turned hs bs ord hs' bs') (ends : ∀ b ∈ bs, b.one < hs.length) {ins m : List Int} (li : ins.length = (doorsOf "in" hs).length) (h : IsBell hs bs ins m) : IsBell hs' bs' (turnRow hs ord hs' ins) (turn ord m) := by
  have lm := h.len
  refine ⟨by rw [List.length_map]; exact t.hlen.symm, fun j k e => ?_, fun j g e w => ?_⟩
  · obtain ⟨g, e1, e2⟩ := mem_doors.mp (List.mem_of_getElem? e)
    obtain ⟨k0, f1, f2, f3, f4⟩ := t.pre e1
    unfold turnRow
    rw [List.getElem?_map, f1, List.map_map, List.getElem?_map, e]
    show some (gD m k0) = some (ins.getD ((doorsOf "in" hs).idxOf (ord.getD k 0)) 0)
    rw [List.getD_eq_getElem?_getD (l := ord), f1]
    show some (m.getD k0 0) = some (ins.getD ((doorsOf "in" hs).idxOf k0) 0)
    have dm : k0 ∈ doorsOf "in" hs := mem_doors.mpr ⟨g, f2, e2⟩
    have il := List.idxOf_lt_length_of_mem dm
    have q := h.door ((doorsOf "in" hs).idxOf k0) k0 (by rw [List.getElem?_eq_getElem il, List.getElem_idxOf])
    rw [List.getD_eq_getElem?_getD, List.getD_eq_getElem?_getD, q]
  · obtain ⟨k0, f1, f2, f3, f4⟩ := t.pre e
    have q := h.hand k0 g f2 w
    rw [List.getElem?_map, f1]
    show some (m.getD k0 0) = _
    rw [List.getD_eq_getElem?_getD, q]
    show some (mkR g (takes bs (gD m) k0)) = _
    congr 2
    unfold takes
    have z := t.at_ k0 f3
    rw [f4] at z
    rw [z, List.map_map]
    refine List.map_congr_left fun b hb => ?_
    have bo := t.mem.mpr (ends b (List.mem_filter.mp hb).1)
    show valB (gD m) b = valB (gD (turn ord m)) (ren ord b)
    unfold valB
    show _ = match b.th with | [] => gD (turn ord m) (ord.idxOf b.one) | x :: _ => x
    cases b.th with
    | nil => exact (turn_at bo).symm
    | cons x l => rfl
theorem Turned.ws {hs : List HR} {bs : List BR} {ord : List Nat} {hs' : List HR} {bs' : List BR} (t : Turned hs bs ord hs' bs') (ends : ∀ b ∈ bs, b.one < hs.length) {rows ms : List (List Int)} (li : ∀ x ∈ rows, x.length = (doorsOf "in" hs).length) (h : WS hs bs rows ms) : WS hs' bs' (rows.map (turnRow hs ord hs')) (ms.map (turn ord)) := by
  refine ⟨by rw [List.length_map, List.length_map]; exact h.len, fun i r m e1 e2 => ?_⟩
  rw [List.getElem?_map] at e1 e2
  cases er : rows[i]? with
  | none => rw [er] at e1; cases e1
  | some x =>
  cases em : ms[i]? with
  | none => rw [em] at e2; cases e2
  | some y =>
  rw [er] at e1
  rw [em] at e2
  cases e1
  cases e2
  rw [← List.map_take]
  refine (t.stand ends (ms.take i)).bell (fun b hb => ?_) (li x (List.mem_of_getElem? er)) (h.at_ i x y er em)
  obtain ⟨c, hc, rfl⟩ := List.mem_map.mp hb
  rw [stand_one]
  exact ends c hc
/-! ### the queues of a turned room -/
structure QsAt (H0 H : Hp) (od ql : Addr) (qa : Nat → Addr) (n : Nat) (rest : List BR) : Prop where
  hq : H ql = some (.lst ((List.range n).map fun k => V.ref (qa k)))
  at_ : ∀ k, k < n → ∃ vs : List V, H (qa k) = some (.lst vs) ∧ All2 (BeltAt H) vs (rest.filter fun b => decide (b.to = k))
  inj : ∀ k m, k < n → m < n → qa k = qa m → k = m
  old : ∀ k, k < n → H0 (qa k) = none
  nod : ∀ k, k < n → qa k ≠ od ∧ qa k ≠ ql
  ql0 : H0 ql = none ∧ ql ≠ od
theorem QsAt.get {H0 H : Hp} {od ql : Addr} {qa : Nat → Addr} {n : Nat} {rest : List BR} {k : Nat} (h : k < n) : ((List.range n).map fun k => V.ref (qa k))[k]? = some (V.ref (qa k)) := by
  rw [List.getElem?_map, List.getElem?_range h]; rfl
theorem QsAt.go {H0 H H' : Hp} {od ql : Addr} {qa : Nat → Addr} {n : Nat} {rest : List BR} (t : QsAt H0 H od ql qa n rest) (e1 : H' ql = H ql) (e2 : ∀ k, k < n → H' (qa k) = H (qa k)) (kk : TK H H') : QsAt H0 H' od ql qa n rest := by
  refine ⟨e1.trans t.hq, fun k hk => ?_, t.inj, t.old, t.nod, t.ql0⟩
  obtain ⟨vs, h1, h2⟩ := t.at_ k hk
  exact ⟨vs, (e2 k hk).trans h1, h2.imp fun _ _ z => z.keep kk⟩
theorem QsAt.same {H0 H H' : Hp} {od ql : Addr} {qa : Nat → Addr} {n : Nat} {rest : List BR} (t : QsAt H0 H od ql qa n rest) (s : Same H H') : QsAt H0 H' od ql qa n rest := by
  refine t.go ((s _ _ t.hq).trans t.hq.symm) (fun k hk => ?_) (TK.same s)
  obtain ⟨vs, h1, _⟩ := t.at_ k hk
  exact (s _ _ h1).trans h1.symm
theorem QsAt.more {H0 H H' : Hp} {od ql D2 : Addr} {qa : Nat → Addr} {j : Nat} {rest : List BR} {vs : List V} (t : QsAt H0 H od ql qa j rest) (n2 : H D2 = none) (s : Same H H') (h2 : H' D2 = some (.lst vs)) (al : All2 (BeltAt H') vs (rest.filter fun b => decide (b.to = j))) (z0 : H0 D2 = none) (nod : D2 ≠ od) :
    QsAt H0 (upd H' ql (.lst (((List.range j).map fun k => V.ref (qa k)) ++ [.ref D2]))) od ql (fun k => if k = j then D2 else qa k) (j + 1) rest := by
  have hq' := s _ _ t.hq
  have kk : TK H' (upd H' ql (.lst (((List.range j).map fun k => V.ref (qa k)) ++ [.ref D2]))) := TK.lst hq'
  have dq : D2 ≠ ql := (ne_of_none t.hq n2).symm
  have q2 : ∀ k, k < j → qa k ≠ D2 := fun k hk => by
    obtain ⟨vs, h1, _⟩ := t.at_ k hk
    exact ne_of_none h1 n2
  refine ⟨?_, fun k hk => ?_, fun k m hk hm e => ?_, fun k hk => ?_, fun k hk => ?_, t.ql0⟩
  · rw [upd_same, List.range_succ, List.map_append]
    refine congrArg (fun l => some (HO.lst l)) ?_
    refine congr (congrArg _ (List.map_congr_left fun k hk => ?_)) ?_
    · show V.ref (qa k) = V.ref (if k = j then D2 else qa k)
      rw [if_neg (by have := List.mem_range.mp hk; omega)]
    · show [V.ref D2] = [V.ref (if j = j then D2 else qa j)]
      rw [if_pos rfl]
  · by_cases e : k = j
    · refine ⟨vs, ?_, ?_⟩
      · show upd H' ql _ (if k = j then D2 else qa k) = _
        rw [if_pos e, upd_ne dq]; exact h2
      · rw [e]; exact al.imp fun _ _ z => z.keep kk
    · obtain ⟨us, h1, h3⟩ := t.at_ k (by omega)
      refine ⟨us, ?_, h3.imp fun _ _ z => z.keep ((TK.same s).trans kk)⟩
      show upd H' ql _ (if k = j then D2 else qa k) = _
      rw [if_neg e, upd_ne (t.nod k (by omega)).2]; exact s _ _ h1
  · by_cases e1 : k = j
    · by_cases e2 : m = j
      · omega
      · rw [if_pos e1, if_neg e2] at e
        exact absurd e.symm (q2 m (by omega))
    · by_cases e2 : m = j
      · rw [if_neg e1, if_pos e2] at e
        exact absurd e (q2 k (by omega))
      · rw [if_neg e1, if_neg e2] at e
        exact t.inj k m (by omega) (by omega) e
  · by_cases e : k = j
    · rw [if_pos e]; exact z0
    · rw [if_neg e]; exact t.old k (by omega)
  · by_cases e : k = j
    · rw [if_pos e]; exact ⟨nod, dq⟩
    · rw [if_neg e]; exact t.nod k (by omega)
theorem QsAt.pop {H0 H : Hp} {od ql : Addr} {qa : Nat → Addr} {n k0 : Nat} {rest rest' t' : List BR} {v : V} {vs : List V} {x : BR} (t : QsAt H0 H od ql qa n rest) (hk : k0 < n) (h : H (qa k0) = some (.lst (v :: vs))) (al : All2 (BeltAt H) (v :: vs) (x :: t'))
    (e1 : rest'.filter (fun b => decide (b.to = k0)) = t') (e2 : ∀ k, k ≠ k0 → rest'.filter (fun b => decide (b.to = k)) = rest.filter fun b => decide (b.to = k)) : QsAt H0 (upd H (qa k0) (.lst vs)) od ql qa n rest' := by
  have kk : TK H (upd H (qa k0) (.lst vs)) := TK.lst h
  refine ⟨by rw [upd_ne (t.nod k0 hk).2.symm]; exact t.hq, fun k hk' => ?_, t.inj, t.old, t.nod, t.ql0⟩
  by_cases e : k = k0
  · subst e
    cases al with
    | cons a b => exact ⟨vs, upd_same, by rw [e1]; exact b.imp fun _ _ z => z.keep kk⟩
  · obtain ⟨us, h1, h3⟩ := t.at_ k hk'
    exact ⟨us, by rw [upd_ne fun z => e (t.inj k k0 hk' hk z)]; exact h1, by rw [e2 k e]; exact h3.imp fun _ _ z => z.keep kk⟩
theorem index_nat {K : PySem.W.Frag} {H : Hp} {od : Addr} {ord : List Nat} {k : Nat} {Q : VK} (h : H od = some (.lst (ord.map nV))) (m : k ∈ ord) (q : Q (nV (ord.idxOf k)) H) : rIndex K (.ref od) [nV k] H Q := by
  have il := List.idxOf_lt_length_of_mem m
  refine ⟨od, _, nV k, ord.idxOf k, nV k, rfl, rfl, SqL.of h, rfl, ?_, ?_, ?_, fun i z hi hz => ?_, q⟩
  · rw [List.all_map]
    exact List.all_eq_true.mpr fun _ _ => rfl
  · rw [List.getElem?_map, List.getElem?_eq_getElem il, List.getElem_idxOf]; rfl
  · show (((k : Nat) : Int) == ((k : Nat) : Int)) = true
    exact beq_self_eq_true _
  · have il' : i < ord.length := by omega
    rw [List.getElem?_map, List.getElem?_eq_getElem il'] at hz
    obtain rfl : nV ord[i] = z := Option.some.inj hz
    show (((ord[i] : Nat) : Int) == ((k : Nat) : Int)) = false
    have ne : ord[i] ≠ k := by
      have := List.not_of_lt_findIdx (p := (· == k)) (xs := ord) (i := i) hi
      simpa using this
    exact beq_eq_false_iff_ne.mpr (by omega)
section
variable {P : Program} {w : World} {K : PySem.W.Frag} {mg : Str → Option Value} {base : Heap}
def sp_law_turned_room (K : PySem.W.Frag) : Sp := fun vs H Q _ => ∃ (f c r : Addr) (hs : List HR) (bs : List BR), vs = [.ref f, .ref r] ∧ Flow H f c ∧ RoomAt H r hs bs ∧ RoomOk hs bs ∧
  ∀ (t r' od : Addr) (ord : List Nat) (hs' : List HR) (bs' : List BR) (H' : Hp), H' t = some (.tup [.ref r', .ref od]) → RoomAt H' r' hs' bs' → H' od = some (.lst (ord.map nV)) → H od = none → Turned hs bs ord hs' bs' → Flow H' f c → But f H H' → Q (.ref t) H'
theorem ok_law_turned_room {f : Addr} {fd : FuncData} (F : Fun K "_law_turned_room" "_law_turned_room" s_law_turned_room f fd) {C : Addr} (T : Top K mg C) : FnOk P w K mg base CX0 3 f fd ["_law_flow_here", "_law_room_here"] (sp_law_turned_room K) := by
  obtain ⟨f_law_shuffled, fd_law_shuffled, F_law_shuffled, b_law_shuffled, m_law_shuffled⟩ := T.d_law_shuffled
  have G_law_shuffled := ok_law_shuffled (P := P) (w := w) (base := base) F_law_shuffled T
  obtain ⟨f_law_pick, fd_law_pick, F_law_pick, b_law_pick, m_law_pick⟩ := T.d_law_pick
  have G_law_pick := ok_law_pick (P := P) (w := w) (base := base) F_law_pick T
  refine F.ok sc_law_turned_room (fun vs H Q E h => ?_) (fun cdv A outer s H vs Q E hr h => ?_)
  · obtain ⟨f, c, r, hs, bs, rfl, _⟩ := h
    rfl
  obtain ⟨f, c, r, hs, bs, rfl, hF, hR, ok, q⟩ := h
  obtain ⟨ha, ba, hv, bv, er, eh, eb, alh, alb⟩ := hR.ex
  have lhv := alh.length
  have lbv := alb.length
  have lh := ok.hands
  have lb := ok.many
  have hF' := hF
  obtain ⟨_, _, _, _, _, efl, efc, _⟩ := hF'
  let R1 : TS := fun D' σ' H' => D'.rt = Q ∧ ∃ (od : Addr) (ord : List Nat), σ' = [some (.ref f), some (.ref r), some (.ref ha), some (.ref ba), some (.ref od), none, none, none, none, none, none, none, none, none] ∧ H' od = some (.lst (ord.map nV)) ∧ ord.Perm (List.range hs.length) ∧ H od = none ∧ Flow H' f c ∧ But f H H'
  let R2 : TS := fun D' σ' H' => D'.rt = Q ∧ ∃ (od ql : Addr) (qa : Nat → Addr) (ord : List Nat), σ' = [some (.ref f), some (.ref r), some (.ref ha), some (.ref ba), some (.ref od), some (.ref ql), none, none, none, none, none, none, none, none] ∧ QsAt H H' od ql qa hs.length bs ∧ H' od = some (.lst (ord.map nV)) ∧ ord.Perm (List.range hs.length) ∧ H od = none ∧ Flow H' f c ∧ But f H H'
  let R3 : TS := fun D' σ' H' => D'.rt = Q ∧ ∃ (od fd : Addr) (ord : List Nat) (found : List BR) (fv : List V) (v5 v9 v10 v11 v12 v13 : Option V), σ' = [some (.ref f), some (.ref r), some (.ref ha), some (.ref ba), some (.ref od), v5, none, none, some (.ref fd), v9, v10, v11, v12, v13] ∧ H' fd = some (.lst fv) ∧ All2 (BeltAt H') fv found ∧ Mid hs.length bs ord found [] ∧ H' od = some (.lst (ord.map nV)) ∧ ord.Perm (List.range hs.length) ∧ H od = none ∧ Flow H' f c ∧ But f H H'
  refine ⟨_, (pss_cons (ps_asg (pv 1) (pg_tupK K rfl rfl (pgs_cons (pg_name (i := 2) sc_law_turned_room.nd rfl (Or.inr rfl)) (pgs_cons (pg_name (i := 3) sc_law_turned_room.nd rfl (Or.inr rfl)) pgs_nil))))
      (pss_cons (ps_set (i := 4) sc_law_turned_room.nd rfl (Or.inl rfl) (pe_call G_law_shuffled (hr.mono (by decide)) (by rfl) m_law_shuffled F_law_shuffled.kp b_law_shuffled .nil pass0 (pa_cons (pv 0) (pa_cons (pe_listRg rfl (by rfl) T.m_list (prg_1 (by rfl) T.m_range (pe_callB (call_len_seqK K rfl) (by rfl) T.m_len (by decide +kernel) (pa_cons (pv 2) pa_nil)))) pa_nil))))
      (PSs.to (pss_cons (ps_set (i := 5) sc_law_turned_room.nd rfl (Or.inr rfl) (pe_lc (own := [("_law_k", 7)]) (g := gName 7) (tt := tYes) (by rfl) sc_law_turned_room.nd (pi_range1 (by rfl) T.m_range (pa_cons (pe_callB (call_len_seqK K rfl) (by rfl) T.m_len (by decide +kernel) (pa_cons (pv 2) pa_nil)) pa_nil)) (blkOk_by (own := [("_law_k", 7)]) (N := N_law_turned_room) (sc := defScope s_law_turned_room) (by decide +kernel)) (fun _ _ _ _ _ => (pg_name (i := 7) sc_law_turned_room.nd rfl (Or.inr rfl))) (fun _ _ _ _ _ => pts_nil) (fun _ _ _ _ _ => (pe_lc (own := [("_law_belt", 6)]) (g := gName 6) (by rfl) sc_law_turned_room.nd (pi_tupK K rfl (pv 3)) (blkOk_by (own := [("_law_belt", 6)]) (N := N_law_turned_room) (sc := { kind := .function, names := [(".0", .local), ("_law_k", .cell), ("_law_belts", .cell)], isGenerator := false, isCoroutine := false }) (by decide +kernel)) (fun _ _ _ _ _ => (pg_name (i := 6) sc_law_turned_room.nd rfl (Or.inl rfl))) (fun _ _ _ _ _ => pts_one (pt_cmpR op_eq (pe_ix (ix_tupK K rfl) (pv 6) pe_int (fun _ _ => rfl)) (pv 7) (nomark _))) (fun _ _ _ _ _ => (pv 6))))))
      (PSs.to (pss_cons (ps_set (i := 8) sc_law_turned_room.nd rfl (Or.inl rfl) (pe_lst pa_nil))
      (pss_cons (ps_for PassesOwn.never rfl (pi_range1 (by rfl) T.m_range (pa_cons (pe_callB (call_len_seqK K rfl) (by rfl) T.m_len (by decide +kernel) (pa_cons (pv 3) pa_nil)) pa_nil)) (pg_name (i := 9) sc_law_turned_room.nd rfl (Or.inl rfl))
        (pss_cons (ps_setLc (i := 10) (own := [("_law_k", 7)]) (g := gName 7) (by rfl) sc_law_turned_room.nd rfl rfl (sw_true rfl rfl rfl (by decide +kernel)) (pi_range1 (by rfl) T.m_range (pa_cons (pe_callB (call_len_seqK K rfl) (by rfl) T.m_len (by decide +kernel) (pa_cons (pv 2) pa_nil)) pa_nil)) (blkOk_by (own := [("_law_k", 7)]) (N := N_law_turned_room) (sc := defScope s_law_turned_room) (by decide +kernel)) (fun _ _ _ _ _ => (pg_name (i := 7) sc_law_turned_room.nd rfl (Or.inl rfl))) (fun _ _ _ _ _ => pts_one (pt_cmpR op_gt (pe_callB (call_len_seqK K rfl) (by rfl) T.m_len (by decide +kernel) (pa_cons (pe_ix (ix_listK K rfl) (pv 5) (pv 7) (fun _ _ => rfl)) pa_nil)) pe_int (nomark _))) (fun _ _ _ _ _ => (pv 7)))
      (pss_cons (ps_asg (pe_bmK K rfl PySem.F.plainAttrs_list PySem.F.slot_list_pop PySem.F.type_list_pop mt_popAt (pe_ix (ix_listK K rfl) (pv 5) (pe_ix (ix_listK K rfl) (pv 10) (pe_call G_law_pick (hr.mono (by decide)) (by rfl) m_law_pick F_law_pick.kp b_law_pick .nil pass0 (pa_cons (pv 0) (pa_cons (pe_callB (call_len_seqK K rfl) (by rfl) T.m_len (by decide +kernel) (pa_cons (pv 10) pa_nil)) pa_nil))) (fun _ _ => rfl)) (fun _ _ => rfl)) (pa_cons pe_int pa_nil)) (pg_tupK K rfl rfl (pgs_cons (pg_name (i := 11) sc_law_turned_room.nd rfl (Or.inl rfl)) (pgs_cons (pg_name (i := 12) sc_law_turned_room.nd rfl (Or.inl rfl)) (pgs_cons (pg_name (i := 13) sc_law_turned_room.nd rfl (Or.inl rfl)) pgs_nil)))))
      (pss_one (ps_expr (pe_bmK K rfl PySem.F.plainAttrs_list PySem.F.slot_list_append PySem.F.type_list_append mt_append (pv 8) (pa_cons (pe_tup (pa_cons (pe_bmK K rfl PySem.F.plainAttrs_list PySem.F.slot_list_index PySem.F.type_list_index (mt_indexK K rfl) (pv 4) (pa_cons (pv 11) pa_nil)) (pa_cons (pe_bmK K rfl PySem.F.plainAttrs_list PySem.F.slot_list_index PySem.F.type_list_index (mt_indexK K rfl) (pv 4) (pa_cons (pv 12) pa_nil)) (pa_cons (pv 13) pa_nil)))) pa_nil)))))))
      (PSs.to (pss_one (ps_ret (pe_tup (pa_cons (pe_tup (pa_cons (pe_callTy (call_tuple_ofK K rfl) (by rfl) T.m_tuple (by decide +kernel) (pa_cons (pe_lc (own := [("_law_k", 7)]) (g := gName 7) (tt := tYes) (by rfl) sc_law_turned_room.nd (pi_listK K rfl (pv 4)) (blkOk_by (own := [("_law_k", 7)]) (N := N_law_turned_room) (sc := defScope s_law_turned_room) (by decide +kernel)) (fun _ _ _ _ _ => (pg_name (i := 7) sc_law_turned_room.nd rfl (Or.inl rfl))) (fun _ _ _ _ _ => pts_nil) (fun _ _ _ _ _ => (pe_ix (ix_tupK K rfl) (pv 2) (pv 7) (fun _ _ => rfl)))) pa_nil)) (pa_cons (pe_callTy (call_tuple_ofK K rfl) (by rfl) T.m_tuple (by decide +kernel) (pa_cons (pv 8) pa_nil)) pa_nil))) (pa_cons (pv 4) pa_nil))))) R3 ?tail3))) R2 ?tail2)) R1 ?tail1))), ?_⟩
  case tail3 =>
    rintro D' σ' H1 ⟨eD, od, fd, ord, found, fv, v5, v9, v10, v11, v12, v13, rfl, hfd, alf, mid, hod, pm, od0, F1, B1⟩
    have k1 : TK H H1 := TK.but hF B1
    have lo : ord.length = hs.length := by rw [pm.length_eq, List.length_range]
    have olt : ∀ k ∈ ord, k < hs.length := fun k hk => List.mem_range.mp (pm.mem_iff.mp hk)
    let gh : Nat → HR := fun k => hs.getD k ⟨"in", none, 0⟩
    refine ⟨_, rfl, od, rfl, ⟨_, SqL.of hod⟩, fun D nD => lc_list (K := K) (a := od) (xs := ord.map nV) (fun i H5 => ∃ ov : List V, H5 D = some (.lst ov) ∧ All2 (HandAt H5) ov ((ord.take i).map gh) ∧ Same H1 H5 ∧ ov.length ≤ i) ⟨[], upd_same, .nil, same_new nD, Nat.le_refl _⟩ (fun i H5 _ ⟨_, _, _, s5, _⟩ => SqL.of (s5 _ _ hod)) ?_ ?_⟩
    · rintro i x H5 hx ⟨ov, hD, al, s5, lv⟩
      rw [List.getElem?_map] at hx
      cases ek : ord[i]? with
      | none => rw [ek] at hx; cases hx
      | some k =>
      rw [ek] at hx
      obtain rfl : nV k = x := Option.some.inj hx
      have il := (List.getElem?_eq_some_iff.mp ek).1
      have kl := olt k (List.mem_of_getElem? ek)
      have ehk : hs[k]? = some (gh k) := by
        show _ = some (hs.getD k _)
        rw [List.getD_eq_getElem?_getD, List.getElem?_eq_getElem kl]; rfl
      obtain ⟨v, ev, hv'⟩ := alh.get ehk
      refine ⟨rfl, yes_in ⟨_, rfl, _, rfl, ha, _, _, _, rfl, rfl, SqT.of (s5 _ _ (k1 _ _ eh)), atI_nat ev, ov, hD, small1000 (by omega), ov ++ [v], upd_same, ?_, Same.own s5 nD, by rw [List.length_append]; show ov.length + 1 ≤ i + 1; omega⟩⟩
      rw [List.take_add_one, ek, List.map_append]
      exact (al.snoc (hv'.keep (k1.trans (TK.same s5)))).imp fun _ _ z => z.keep (TK.lst hD)
    · rintro H5 ⟨ov, hD, al, s5, lv⟩
      rw [List.length_map, List.take_length] at al
      refine ⟨D, _, rfl, .inl ⟨SqL.of hD, fun tq ntq => ?_⟩⟩
      have s6 := s5.trans (same_new (o := .tup ov) ntq)
      refine ⟨_, rfl, fd, _, rfl, .inl ⟨SqL.of (s6 _ _ hfd), fun tb ntb => ?_⟩⟩
      have s7 := s6.trans (same_new (o := .tup fv) ntb)
      refine ⟨(by show 2 ≤ sizeLine; decide), fun r' nr' => ?_⟩
      have s8 := s7.trans (same_new (o := .tup [V.ref tq, V.ref tb]) nr')
      refine ⟨_, rfl, (by show 2 ≤ sizeLine; decide), fun t nt => ?_⟩
      have s9 := s8.trans (same_new (o := .tup [V.ref r', V.ref od]) nt)
      rw [eD]
      have sx : Same H5 (upd (upd (upd (upd H5 tq (.tup ov)) tb (.tup fv)) r' (.tup [V.ref tq, V.ref tb])) t (.tup [V.ref r', V.ref od])) := (((same_new ntq).trans (same_new ntb)).trans (same_new nr')).trans (same_new nt)
      refine q t r' od ord (ord.map gh) found _ upd_same ⟨tq, tb, ov, fv, same_new nt _ _ upd_same, same_new nt _ _ (same_new nr' _ _ (same_new ntb _ _ upd_same)), same_new nt _ _ (same_new nr' _ _ upd_same), al.imp fun _ _ z => z.keep (TK.same sx), alf.imp fun _ _ z => z.keep (TK.same s9)⟩ (s9 _ _ hod) od0 ⟨pm, by rw [List.length_map], fun j k e => ?_, ?_, mid.of, fun k hk => ?_⟩ (F1.same s9) (B1.same s9)
      · have kl := olt k (List.mem_of_getElem? e)
        rw [List.getElem?_map, e, List.getElem?_eq_getElem kl]
        show some (hs.getD k _) = _
        rw [List.getD_eq_getElem?_getD, List.getElem?_eq_getElem kl]; rfl
      · have := mid.len
        simpa using this
      · have := mid.at_ k hk
        simpa using this
  case tail2 =>
    rintro D' σ' H1 ⟨eD, od, ql, qa, ord, rfl, qs, hod, pm, od0, F1, B1⟩
    have omem : ∀ k, k < hs.length → k ∈ ord := fun k hk => pm.mem_iff.mpr (List.mem_range.mpr hk)
    refine ⟨(by show 0 ≤ sizeLine; decide), fun fd nfd => ?_⟩
    have fd0 : H fd = none := B1.none nfd (F1.ne nfd)
    have fdf : fd ≠ f := hF.ne fd0
    have fdc : fd ≠ c := hF.nec fd0
    have fdq : fd ≠ ql := (ne_of_none qs.hq nfd).symm
    have fdo : fd ≠ od := (ne_of_none hod nfd).symm
    have fdk : ∀ k, k < hs.length → qa k ≠ fd := fun k hk => by
      obtain ⟨vs, h1, _⟩ := qs.at_ k hk
      exact ne_of_none h1 nfd
    have k1 : TK H H1 := TK.but hF B1
    refine ⟨_, rfl, ba, _, rfl, .inr (SqT.of (same_new nfd _ _ (k1 _ _ eb))), _, rfl, by omega, by omega, for_range (lo := 0) (n := bv.length) (fun i σ H2 => ∃ (found rest : List BR) (fv : List V) (v9 v10 v11 v12 v13 : Option V), σ = [some (.ref f), some (.ref r), some (.ref ha), some (.ref ba), some (.ref od), some (.ref ql), none, none, some (.ref fd), v9, v10, v11, v12, v13] ∧ QsAt H H2 od ql qa hs.length rest ∧ H2 fd = some (.lst fv) ∧ All2 (BeltAt H2) fv found ∧ Mid hs.length bs ord found rest ∧ found.length = i ∧ H2 od = some (.lst (ord.map nV)) ∧ Flow H2 f c ∧ But f H H2)
      ⟨[], bs, [], none, none, none, none, none, rfl, qs.same (same_new nfd), upd_same, .nil, Mid.zero, rfl, same_new nfd _ _ hod, F1.new nfd, B1.new nfd⟩ ?_ ?_⟩
    · rintro i σ H2 hi ⟨found, rest, fv, v9, v10, v11, v12, v13, rfl, qs2, hfd2, alf, mid, lf, hod2, F2, B2⟩
      have k2 : TK H H2 := TK.but hF B2
      refine ⟨_, rfl, ha, _, rfl, .inr (SqT.of (k2 _ _ eh)), _, rfl, by omega, by omega, fun sm nsm => lc_range (lo := 0) (n := hv.length) (fun j H5 => ∃ ks : List Nat, H5 sm = some (.lst (ks.map nV)) ∧ Same H2 H5 ∧ ks.length ≤ j ∧ ∀ k, k ∈ ks ↔ k < j ∧ rest.filter (fun b => decide (b.to = k)) ≠ []) ⟨[], upd_same, same_new nsm, Nat.le_refl _, fun k => ⟨(fun z => nomatch z), (fun z => absurd z.1 (Nat.not_lt_zero _))⟩⟩ ?_ ?_⟩
      · rintro j H5 hj ⟨ks, hsm, s5, lk, mem⟩
        obtain ⟨vs, hq, al⟩ := qs2.at_ j (by omega)
        have lal := al.length
        refine ⟨rfl, _, rfl, _, rfl, ql, _, _, _, rfl, rfl, SqL.of (s5 _ _ qs2.hq), at0 (QsAt.get (H0 := H) (H := H) (od := od) (ql := ql) (rest := rest) (by omega)), qa j, _, rfl, .inl (SqL.of (s5 _ _ hq)), _, _, rfl, rfl, _, rfl, if_bl (fun kk => ?_) (fun kk => ?_)⟩
        · have pos := of_decide_eq_true kk
          have ne : rest.filter (fun b => decide (b.to = j)) ≠ [] := fun z => by rw [z] at lal; simp at lal; simp [lal] at pos
          refine ⟨_, rfl, _, hsm, by rw [List.length_map]; exact small1000 (by omega), ks ++ [j], by rw [upd_same, List.map_append, Int.zero_add]; rfl, Same.own s5 nsm, by rw [List.length_append]; show ks.length + 1 ≤ j + 1; omega, fun k => ?_⟩
          rw [List.mem_append, mem, List.mem_singleton]
          constructor
          · rintro (z | z)
            · exact ⟨by omega, z.2⟩
            · rw [z]; exact ⟨by omega, ne⟩
          · rintro ⟨z1, z2⟩
            by_cases e : k = j
            · exact .inr e
            · exact .inl ⟨by omega, z2⟩
        · have neg := of_decide_eq_false kk
          have em : rest.filter (fun b => decide (b.to = j)) = [] := List.length_eq_zero_iff.mp (by omega)
          refine ⟨ks, hsm, s5, by omega, fun k => ?_⟩
          rw [mem]
          constructor
          · rintro ⟨z1, z2⟩
            exact ⟨by omega, z2⟩
          · rintro ⟨z1, z2⟩
            refine ⟨?_, z2⟩
            by_cases e : k = j
            · exact absurd (by rw [e]; exact em) z2
            · omega
      · rintro H5 ⟨ks, hsm, s5, lk, mem⟩
        rw [lhv] at mem
        obtain ⟨k1', k1n, hk1⟩ := mid.some (fun b hb => (ok.ends b hb).2) (by omega)
        have kpos : 0 < ks.length := List.length_pos_iff.mpr fun z => by
          have := (mem k1').mpr ⟨k1n, hk1⟩
          rw [z] at this
          cases this
        have F5 := F2.same s5
        have smf : sm ≠ f := F2.ne nsm
        refine ⟨_, rfl, _, rfl, _, rfl, _, rfl, sm, _, rfl, .inl (SqL.of hsm), f, c, _, rfl, by rw [List.length_map]; omega, by rw [List.length_map]; exact log_small (by omega), F5, fun v H6 v0 v1 F6 B6 => ?_⟩
        rw [List.length_map] at v1
        obtain ⟨u, rfl⟩ : ∃ u : Nat, v = ((u : Nat) : Int) := ⟨v.toNat, by omega⟩
        have ul : u < ks.length := by omega
        obtain ⟨k0, ek0⟩ : ∃ k0, ks[u]? = some k0 := ⟨_, List.getElem?_eq_getElem ul⟩
        obtain ⟨k0n, hk0⟩ := (mem k0).mp (List.mem_of_getElem? ek0)
        have k26 : TK H2 H6 := (TK.same s5).trans (TK.but F5 B6)
        have b26 : ∀ b o, H2 b = some o → b ≠ f → H6 b = some o := fun b o e n => B6 _ _ (s5 _ _ e) n
        have qf : ∀ k, k < hs.length → qa k ≠ f := fun k hk => hF.ne (qs2.old k hk)
        have qs6 : QsAt H H6 od ql qa hs.length rest := qs2.go ((b26 _ _ qs2.hq (hF.ne qs2.ql0.1)).trans qs2.hq.symm) (fun k hk => by
          obtain ⟨vs, h1, _⟩ := qs2.at_ k hk
          exact (b26 _ _ h1 (qf k hk)).trans h1.symm) k26
        obtain ⟨vs0, hq0, al0⟩ := qs6.at_ k0 k0n
        obtain ⟨x, t', ef⟩ : ∃ x t', rest.filter (fun b => decide (b.to = k0)) = x :: t' := by
          cases e : rest.filter (fun b => decide (b.to = k0)) with
          | nil => exact absurd e hk0
          | cons x t' => exact ⟨x, t', rfl⟩
        rw [ef] at al0
        have xin : x ∈ rest := (List.mem_filter.mp (by rw [ef]; exact List.mem_cons_self .. : x ∈ rest.filter (fun b => decide (b.to = k0)))).1
        have xe := ok.ends x (mid.sub x xin)
        cases al0 with
        | @cons w0 _ vs' _ hb alt =>
        have al0' : All2 (BeltAt H6) (w0 :: vs') (x :: t') := .cons hb alt
        obtain ⟨t, g, rfl, e1, e2⟩ := id hb
        obtain ⟨rest', mid', lr', f1, f2⟩ := mid.step omem k0n ef
        have qs7 := qs6.pop k0n hq0 al0' f1 f2
        have k67 : TK H6 (upd H6 (qa k0) (.lst vs')) := TK.lst hq0
        refine ⟨sm, _, _, _, rfl, rfl, SqL.of (B6 _ _ hsm smf), atI_nat (by rw [List.getElem?_map, ek0]; rfl), ql, _, _, _, rfl, rfl, SqL.of qs6.hq, atI_nat (QsAt.get (H0 := H) (H := H) (od := od) (ql := ql) (rest := rest) k0n), .inl ⟨rfl, _, SqL.of hq0⟩, qa k0, _, 0, 0, _, rfl, rfl, hq0, by decide, by decide, seqIndex_of (Int.le_refl 0) (by rw [List.length_cons]; omega), rfl, ?_⟩
        have hfd7 : upd H6 (qa k0) (.lst vs') fd = some (.lst fv) := by rw [upd_ne (fdk k0 k0n).symm]; exact b26 _ _ hfd2 fdf
        have hod7 : upd H6 (qa k0) (.lst vs') od = some (.lst (ord.map nV)) := by rw [upd_ne (qs6.nod k0 k0n).1.symm]; exact b26 _ _ hod2 (hF.ne od0)
        refine ⟨t, _, rfl, SqT.of (k67 _ _ e1), rfl, _, _, rfl, _, _, rfl, _, _, rfl, rfl, ?_⟩
        refine ⟨_, rfl, .inl ⟨rfl, _, SqL.of hfd7⟩, _, rfl, .inl ⟨rfl, _, SqL.of hod7⟩, _, rfl, ?_⟩
        dsimp only [tNil]
        refine index_nat hod7 (omem _ xe.1) ?_
        refine ⟨_, rfl, .inl ⟨rfl, _, SqL.of hod7⟩, _, rfl, ?_⟩
        dsimp only [tNil]
        refine index_nat hod7 (omem _ xe.2) ?_
        refine ⟨_, rfl, (by show 3 ≤ sizeLine; decide), fun tp ntp => ?_⟩
        have s78 : Same (upd H6 (qa k0) (.lst vs')) (upd (upd H6 (qa k0) (.lst vs')) tp (.tup [nV (ord.idxOf x.one), nV (ord.idxOf x.to), V.ref g])) := same_new ntp
        have hfd8 := s78 _ _ hfd7
        have lfv := alf.length
        refine ⟨fd, _, _, rfl, rfl, hfd8, small1000 (by omega), ?_⟩
        have k79 := (TK.same s78).trans (TK.lst (ys := fv ++ [V.ref tp]) hfd8)
        have F7 : Flow (upd H6 (qa k0) (.lst vs')) f c := F6.lst (qf k0 k0n) (hF.nec (qs2.old k0 k0n))
        have B7 : But f H (upd H6 (qa k0) (.lst vs')) := ((B2.same s5).trans B6).own (qs2.old k0 k0n)
        refine ⟨found ++ [ren ord x], rest', fv ++ [V.ref tp], _, _, _, _, _, rfl, (qs7.same s78).go (upd_ne fdq.symm) (fun k hk => upd_ne (fdk k hk)) (TK.lst hfd8), upd_same, ?_, mid', by rw [List.length_append, lf]; rfl, by rw [upd_ne fdo.symm]; exact s78 _ _ hod7, (F7.same s78).lst fdf fdc, (B7.same s78).own fd0⟩
        exact ((alf.imp fun _ _ z => z.keep (k26.trans (k67.trans (TK.same s78)))).snoc (⟨tp, g, rfl, upd_same, s78 _ _ (k67 _ _ e2)⟩ : BeltAt _ (V.ref tp) (ren ord x))).imp fun _ _ z => z.keep (TK.lst hfd8)
    · rintro σ H2 ⟨found, rest, fv, v9, v10, v11, v12, v13, rfl, qs2, hfd2, alf, mid, lf, hod2, F2, B2⟩
      have er : rest = [] := by
        have := mid.len
        exact List.length_eq_zero_iff.mp (by omega)
      subst er
      exact ⟨eD, od, fd, ord, found, fv, _, v9, v10, v11, v12, v13, rfl, hfd2, alf, mid, hod2, pm, od0, F2, B2⟩
  case tail1 =>
    rintro D' σ' H1 ⟨eD, od, ord, rfl, hod, pm, od0, F1, B1⟩
    have k1 : TK H H1 := TK.but hF B1
    refine ⟨_, rfl, ha, _, rfl, .inr (SqT.of (k1 _ _ eh)), _, rfl, by omega, by omega, fun ql nql => lc_range (lo := 0) (n := hv.length) (fun j H5 => ∃ qa : Nat → Addr, QsAt H H5 od ql qa j bs ∧ Same H1 H5) ?_ ?_ ?_⟩
    · refine ⟨fun _ => 0, ⟨upd_same, (fun _ z => absurd z (Nat.not_lt_zero _)), (fun _ _ z => absurd z (Nat.not_lt_zero _)), (fun _ z => absurd z (Nat.not_lt_zero _)), (fun _ z => absurd z (Nat.not_lt_zero _)), B1.none nql (F1.ne nql), (ne_of_none hod nql).symm⟩, same_new nql⟩
    · rintro j H5 hj ⟨qa, qs, s5⟩
      have k5 := k1.trans (TK.same s5)
      refine ⟨rfl, yes_in ⟨_, rfl, ba, rfl, ⟨_, SqT.of (k5 _ _ eb)⟩, fun D2 nD2 => lc_tup (K := K) (a := ba) (xs := bv) (fun i H6 => ∃ vs : List V, H6 D2 = some (.lst vs) ∧ All2 (BeltAt H6) vs ((bs.take i).filter fun b => decide (b.to = j)) ∧ Same H5 H6 ∧ vs.length ≤ i) ⟨[], upd_same, .nil, same_new nD2, Nat.le_refl _⟩ (fun i H6 _ ⟨_, _, _, s6, _⟩ => SqT.of (s6 _ _ (k5 _ _ eb))) ?_ ?_⟩⟩
      · rintro i x H6 hx ⟨vs, hD2, al, s6, lv⟩
        have il := (List.getElem?_eq_some_iff.mp hx).1
        obtain ⟨b, eb', hB⟩ := alb.getL hx
        obtain ⟨t, g, rfl, e1, e2⟩ := hB.keep (k5.trans (TK.same s6))
        refine ⟨rfl, _, rfl, t, _, _, _, rfl, rfl, SqT.of e1, atI_nat (j := 1) rfl, _, rfl, rfl, _, rfl, if_bl (fun kk => ?_) (fun kk => ?_)⟩
        · have ek : b.to = j := by
            have := V.int.inj (of_decide_eq_true kk)
            omega
          refine ⟨_, rfl, vs, hD2, small1000 (by omega), vs ++ [V.ref t], upd_same, ?_, Same.own s6 nD2, by rw [List.length_append]; show vs.length + 1 ≤ i + 1; omega⟩
          rw [List.take_add_one, eb', List.filter_append, Option.toList, List.filter_cons_of_pos (by rw [ek]; exact decide_eq_true rfl), List.filter_nil]
          exact (al.snoc (⟨t, g, rfl, e1, e2⟩ : BeltAt H6 (V.ref t) b)).imp fun _ _ z => z.keep (TK.lst hD2)
        · have ek : b.to ≠ j := fun z => of_decide_eq_false kk (by rw [z, Int.zero_add])
          refine ⟨vs, hD2, ?_, s6, by omega⟩
          rw [List.take_add_one, eb', List.filter_append, Option.toList, List.filter_cons_of_neg (by rw [decide_eq_true_eq]; exact ek), List.filter_nil, List.append_nil]
          exact al
      · rintro H6 ⟨vs, hD2, al, s6, lv⟩
        rw [lbv, List.take_length] at al
        have n1 := same_none s5 nD2
        exact ⟨_, s6 _ _ qs.hq, by rw [List.length_map, List.length_range]; exact small1000 (by omega), _, qs.more nD2 s6 hD2 al (B1.none n1 (F1.ne n1)) (ne_of_none (s5 _ _ hod) nD2).symm, Same.own (s5.trans s6) nql⟩
    · rintro H5 ⟨qa, qs, s5⟩
      rw [lhv] at qs
      exact ⟨eD, od, ql, qa, ord, rfl, qs, s5 _ _ hod, pm, od0, F1.same s5, B1.same s5⟩
  refine ⟨_, rfl, r, _, rfl, SqT.of er, rfl, _, _, rfl, _, _, rfl, rfl, ?_⟩
  refine ⟨_, rfl, _, rfl, ha, _, rfl, .inr (SqT.of eh), _, rfl, ⟨by omega, by omega, by omega, by omega, by omega⟩, fun lf nlf => ?_⟩
  have erg : rgV 0 ((hv.length : Nat) : Int) = (List.range hs.length).map nV := by
    unfold rgV
    rw [show (((hv.length : Nat) : Int) - 0).toNat = hs.length by omega]
    refine List.map_congr_left fun i _ => ?_
    show V.int (0 + ((i : Nat) : Int)) = V.int ((i : Nat) : Int)
    rw [Int.zero_add]
  rw [erg]
  refine ⟨f, c, lf, _, rfl, SqL.of upd_same, hF.ne nlf, by rw [List.length_map, List.length_range]; omega, hF.new nlf, fun od ys H1 pm nod hod F1 B1 => ?_⟩
  obtain ⟨ord, rfl, pm'⟩ := perm_inv (f := nV) (g := unN) (fun _ => rfl) pm
  exact ⟨rfl, od, ord, rfl, hod, pm', same_none (same_new nlf) nod, F1, (But.refl.new nlf).trans B1⟩
end
section
variable {P : Program} {w : World} {K : PySem.W.Frag} {mg : Str → Option Value} {base : Heap}
abbrev dPre (z : Str) (hs : List HR) (i : Nat) : List Nat := (List.range i).filter fun i => decide (hs[i]?.map HR.wd = some z)
theorem dPre_yes {z : Str} {hs : List HR} {i : Nat} {h : HR} (e : hs[i]? = some h) (k : h.wd = z) : dPre z hs (i + 1) = dPre z hs i ++ [i] := by
  unfold dPre
  rw [List.range_succ, List.filter_append, List.filter_cons_of_pos (by rw [e, ← k]; exact decide_eq_true rfl), List.filter_nil]
theorem dPre_no {z : Str} {hs : List HR} {i : Nat} {h : HR} (e : hs[i]? = some h) (k : h.wd ≠ z) : dPre z hs (i + 1) = dPre z hs i := by
  unfold dPre
  rw [List.range_succ, List.filter_append, List.filter_cons_of_neg (by rw [e, decide_eq_true_eq]; exact fun y => k (Option.some.inj y)), List.filter_nil, List.append_nil]
theorem dPre_len {z : Str} {hs : List HR} {i : Nat} : (dPre z hs i).length ≤ i := by
  refine Nat.le_trans (List.length_filter_le ..) ?_
  rw [List.length_range]
  exact Nat.le_refl _
def sp_law_turned_right (K : PySem.W.Frag) : Sp := fun vs H Q _ => ∃ (r a t od : Addr) (hs : List HR) (bs : List BR) (ord : List Nat) (hs' : List HR) (bs' : List BR) (rv : List V) (rows : List (List Int)), vs = [.ref r, .ref a, .ref t, .ref od] ∧ RoomAt H r hs bs ∧ RoomOk hs bs ∧ H a = some (.lst rv) ∧ All2 (RowAt H) rv rows ∧
  (∀ x ∈ rows, x.length = (doorsOf "in" hs).length) ∧ rows.length ≤ 100 ∧ RoomAt H t hs' bs' ∧ H od = some (.lst (ord.map nV)) ∧ Turned hs bs ord hs' bs' ∧ ∀ H', Same H H' → Q (.bl true) H'
theorem ok_law_turned_right {f : Addr} {fd : FuncData} (F : Fun K "_law_turned_right" "_law_turned_right" s_law_turned_right f fd) {C : Addr} (T : Top K mg C) : FnOk P w K mg base CX0 6 f fd ["_law_room_here", "_law_rows_here", "_law_turned", "_law_order"] (sp_law_turned_right K) := by
  obtain ⟨f_worked, fd_worked, F_worked, b_worked, m_worked⟩ := T.d_worked
  have G_worked := ok_worked (P := P) (w := w) (base := base) F_worked T
  obtain ⟨f_run, fd_run, F_run, b_run, m_run⟩ := T.d_run
  have G_run := ok_run (P := P) (w := w) (base := base) F_run T
  refine F.ok sc_law_turned_right (fun vs H Q E h => ?_) (fun cdv A outer s H vs Q E hr h => ?_)
  · obtain ⟨r, a, t, od, hs, bs, ord, hs', bs', rv, rows, rfl, _⟩ := h
    rfl
  obtain ⟨r, a, t, od, hs, bs, ord, hs', bs', rv, rows, rfl, hR, ok, ha, alr, fit, few, hT, hod, tu, q⟩ := h
  have ok' := tu.ok ok
  have lh := ok.hands
  have lh' := ok'.hands
  have lo := tu.olen
  have lho := tu.hlen
  have lrv := alr.length
  obtain ⟨rk, hrk⟩ := ok.rk
  obtain ⟨rk', hrk'⟩ := ok'.rk
  obtain ⟨hha, hba, hv, bv, er, eh, eb, alh, alb⟩ := hR.ex
  obtain ⟨tha, tba, tv, tbv, er', eh', eb', alh', alb'⟩ := hT.ex
  have lon : (ord.map nV).length = ord.length := List.length_map ..
  have ld := doors_len (z := "in") (hs := hs)
  have ld' := doors_len (z := "in") (hs := hs')
  let news : List Nat := (doorsOf "in" hs').map fun j => ord.getD j 0
  have newsd : ∀ k ∈ news, k ∈ doorsOf "in" hs := fun k hk => by
    obtain ⟨j, hj, rfl⟩ := List.mem_map.mp hk
    obtain ⟨g, e1, e2⟩ := mem_doors.mp hj
    obtain ⟨k0, f1, f2, f3, f4⟩ := tu.pre e1
    rw [List.getD_eq_getElem?_getD, f1]
    exact mem_doors.mpr ⟨g, f2, e2⟩
  have lnews : news.length ≤ 12 := by show (List.map _ _).length ≤ 12; rw [List.length_map]; omega
  let R1 : TS := fun D' σ' H' => D'.rt = Q ∧ ∃ (dr nw : Addr), σ' = [some (.ref r), some (.ref a), some (.ref t), some (.ref od), some (.ref dr), none, some (.ref nw), none, none, none, none, none] ∧ H' dr = some (.lst ((doorsOf "in" hs).map nV)) ∧ H' nw = some (.lst (news.map nV)) ∧ Same H H'
  let R2 : TS := fun D' σ' H' => D'.rt = Q ∧ ∃ (dr nw hd pd po : Addr) (ms : List (List Int)) (dv ov hdv : List V), σ' = [some (.ref r), some (.ref a), some (.ref t), some (.ref od), some (.ref dr), none, some (.ref nw), some (.ref hd), none, some (.ref pd), some (.ref po), none] ∧ H' pd = some (.lst dv) ∧ All2 (RowAt H') dv ms ∧ WS hs bs rows ms ∧ H' po = some (.lst ov) ∧ All2 (RowAt H') ov (ms.map (turn ord)) ∧ H' hd = some (.lst hdv) ∧ All2 (RowAt H') hdv (rows.map (turnRow hs ord hs')) ∧ Same H H'
  let R3 : TS := fun D' σ' H' => D'.rt = Q ∧ ∃ (dr nw hd pd po : Addr) (ms : List (List Int)) (ov hdv : List V), σ' = [some (.ref r), some (.ref a), some (.ref t), some (.ref od), some (.ref dr), none, some (.ref nw), some (.ref hd), none, some (.ref pd), some (.ref po), none] ∧ WS hs bs rows ms ∧ H' po = some (.lst ov) ∧ All2 (RowAt H') ov (ms.map (turn ord)) ∧ H' hd = some (.lst hdv) ∧ All2 (RowAt H') hdv (rows.map (turnRow hs ord hs')) ∧ Same H H'
  refine ⟨_, (pss_cons (ps_set (i := 4) sc_law_turned_right.nd rfl (Or.inr rfl) (pe_lc (own := [("_law_k", 5)]) (g := gName 5) (by rfl) sc_law_turned_right.nd (pi_range1 (by rfl) T.m_range (pa_cons (pe_callB (call_len_seqK K rfl) (by rfl) T.m_len (by decide +kernel) (pa_cons (pv 3) pa_nil)) pa_nil)) (blkOk_by (own := [("_law_k", 5)]) (N := N_law_turned_right) (sc := defScope s_law_turned_right) (by decide +kernel)) (fun _ _ _ _ _ => (pg_name (i := 5) sc_law_turned_right.nd rfl (Or.inl rfl))) (fun _ _ _ _ _ => pts_one (pt_cmpR (op_eqDK K rfl hr.units) (pe_ix (ix_tupK K rfl) (pe_ix (ix_tupK K rfl) (pe_ix (ix_tupK K rfl) (pv 0) pe_int (fun _ _ => rfl)) (pv 5) (fun _ _ => rfl)) pe_int (fun _ _ => rfl)) (pe_tup (pa_cons pe_str pa_nil)) (nomark _))) (fun _ _ _ _ _ => (pv 5))))
      (pss_cons (ps_set (i := 6) sc_law_turned_right.nd rfl (Or.inr rfl) (pe_lc (own := [("_law_k", 5)]) (g := gName 5) (by rfl) sc_law_turned_right.nd (pi_range1 (by rfl) T.m_range (pa_cons (pe_callB (call_len_seqK K rfl) (by rfl) T.m_len (by decide +kernel) (pa_cons (pv 3) pa_nil)) pa_nil)) (blkOk_by (own := [("_law_k", 5)]) (N := N_law_turned_right) (sc := defScope s_law_turned_right) (by decide +kernel)) (fun _ _ _ _ _ => (pg_name (i := 5) sc_law_turned_right.nd rfl (Or.inl rfl))) (fun _ _ _ _ _ => pts_one (pt_cmpR (op_eqDK K rfl hr.units) (pe_ix (ix_tupK K rfl) (pe_ix (ix_tupK K rfl) (pe_ix (ix_tupK K rfl) (pv 2) pe_int (fun _ _ => rfl)) (pv 5) (fun _ _ => rfl)) pe_int (fun _ _ => rfl)) (pe_tup (pa_cons pe_str pa_nil)) (nomark _))) (fun _ _ _ _ _ => (pe_ix (ix_listK K rfl) (pv 3) (pv 5) (fun _ _ => rfl)))))
      (PSs.to (pss_cons (ps_setLc (i := 7) (own := [("_law_row", 8)]) (g := gName 8) (tt := tYes) (by rfl) sc_law_turned_right.nd rfl rfl (sw_true rfl rfl rfl (by decide +kernel)) (pi_listK K rfl (pv 1)) (blkOk_by (own := [("_law_row", 8)]) (N := N_law_turned_right) (sc := defScope s_law_turned_right) (by decide +kernel)) (fun _ _ _ _ _ => (pg_name (i := 8) sc_law_turned_right.nd rfl (Or.inr rfl))) (fun _ _ _ _ _ => pts_nil) (fun _ _ _ _ _ => (pe_callTy (call_tuple_ofK K rfl) (by rfl) T.m_tuple (by decide +kernel) (pa_cons (pe_lc (own := [("_law_k", 5)]) (g := gName 5) (tt := tYes) (by rfl) sc_law_turned_right.nd (pi_listK K rfl (pv 6)) (blkOk_by (own := [("_law_k", 5)]) (N := N_law_turned_right) (sc := { kind := .function, names := [(".0", .local), ("_law_row", .cell), ("tuple", .globalImplicit), ("_law_doors", .cell), ("_law_news", .cell)], isGenerator := false, isCoroutine := false }) (by decide +kernel)) (fun _ _ _ _ _ => (pg_name (i := 5) sc_law_turned_right.nd rfl (Or.inl rfl))) (fun _ _ _ _ _ => pts_nil) (fun _ _ _ _ _ => (pe_ix (ix_tupK K rfl) (pv 8) (pe_bmK K rfl PySem.F.plainAttrs_list PySem.F.slot_list_index PySem.F.type_list_index (mt_indexK K rfl) (pv 4) (pa_cons (pv 5) pa_nil)) (fun _ _ => rfl)))) pa_nil))))
      (pss_cons (ps_par (i := 9) (j := 10) rfl sc_law_turned_right.nd rfl rfl (by decide) rfl rfl (pa_cons (pe_call G_worked (hr.mono (by decide)) (by rfl) m_worked F_worked.kp b_worked .nil pass0 (pa_cons (pv 0) (pa_cons (pv 1) pa_nil))) (pa_cons (pe_call G_worked (hr.mono (by decide)) (by rfl) m_worked F_worked.kp b_worked .nil pass0 (pa_cons (pv 2) (pa_cons (pv 7) pa_nil))) pa_nil)) (by rfl))
      (PSs.to (pss_cons (ps_if (pt_cmpR (op_neDK K rfl hr.units) (pv 10) (pe_lc (own := [("_law_row", 8)]) (g := gName 8) (tt := tYes) (by rfl) sc_law_turned_right.nd (pi_listK K rfl (pv 9)) (blkOk_by (own := [("_law_row", 8)]) (N := N_law_turned_right) (sc := defScope s_law_turned_right) (by decide +kernel)) (fun _ _ _ _ _ => (pg_name (i := 8) sc_law_turned_right.nd rfl (Or.inr rfl))) (fun _ _ _ _ _ => pts_nil) (fun _ _ _ _ _ => (pe_callTy (call_tuple_ofK K rfl) (by rfl) T.m_tuple (by decide +kernel) (pa_cons (pe_lc (own := [("_law_k", 5)]) (g := gName 5) (tt := tYes) (by rfl) sc_law_turned_right.nd (pi_listK K rfl (pv 3)) (blkOk_by (own := [("_law_k", 5)]) (N := N_law_turned_right) (sc := { kind := .function, names := [(".0", .local), ("_law_row", .cell), ("tuple", .globalImplicit), ("_law_order", .cell)], isGenerator := false, isCoroutine := false }) (by decide +kernel)) (fun _ _ _ _ _ => (pg_name (i := 5) sc_law_turned_right.nd rfl (Or.inl rfl))) (fun _ _ _ _ _ => pts_nil) (fun _ _ _ _ _ => (pe_ix (ix_tupK K rfl) (pv 8) (pv 5) (fun _ _ => rfl)))) pa_nil)))) (nomark _)) (pss_one (ps_ret pe_bl)) pss_nil)
      (PSs.to (pss_cons (ps_set (i := 11) sc_law_turned_right.nd rfl (Or.inr rfl) (pe_lc (own := [("_law_k", 5)]) (g := gName 5) (by rfl) sc_law_turned_right.nd (pi_range1 (by rfl) T.m_range (pa_cons (pe_callB (call_len_seqK K rfl) (by rfl) T.m_len (by decide +kernel) (pa_cons (pv 3) pa_nil)) pa_nil)) (blkOk_by (own := [("_law_k", 5)]) (N := N_law_turned_right) (sc := defScope s_law_turned_right) (by decide +kernel)) (fun _ _ _ _ _ => (pg_name (i := 5) sc_law_turned_right.nd rfl (Or.inl rfl))) (fun _ _ _ _ _ => pts_one (pt_cmpR (op_eqDK K rfl hr.units) (pe_ix (ix_tupK K rfl) (pe_ix (ix_tupK K rfl) (pe_ix (ix_tupK K rfl) (pv 2) pe_int (fun _ _ => rfl)) (pv 5) (fun _ _ => rfl)) pe_int (fun _ _ => rfl)) (pe_tup (pa_cons pe_str pa_nil)) (nomark _))) (fun _ _ _ _ _ => (pv 5))))
      (pss_one (ps_ret (pe_cmpR (op_eqDK K rfl hr.units) (pe_call G_run (hr.mono (by decide)) (by rfl) m_run F_run.kp b_run .nil pass0 (pa_cons (pv 2) (pa_cons (pv 7) pa_nil))) (pe_lc (own := [("_law_row", 8)]) (g := gName 8) (tt := tYes) (by rfl) sc_law_turned_right.nd (pi_listK K rfl (pv 10)) (blkOk_by (own := [("_law_row", 8)]) (N := N_law_turned_right) (sc := defScope s_law_turned_right) (by decide +kernel)) (fun _ _ _ _ _ => (pg_name (i := 8) sc_law_turned_right.nd rfl (Or.inr rfl))) (fun _ _ _ _ _ => pts_nil) (fun _ _ _ _ _ => (pe_callTy (call_tuple_ofK K rfl) (by rfl) T.m_tuple (by decide +kernel) (pa_cons (pe_lc (own := [("_law_k", 5)]) (g := gName 5) (tt := tYes) (by rfl) sc_law_turned_right.nd (pi_listK K rfl (pv 11)) (blkOk_by (own := [("_law_k", 5)]) (N := N_law_turned_right) (sc := { kind := .function, names := [(".0", .local), ("_law_row", .cell), ("tuple", .globalImplicit), ("_law_outs", .cell)], isGenerator := false, isCoroutine := false }) (by decide +kernel)) (fun _ _ _ _ _ => (pg_name (i := 5) sc_law_turned_right.nd rfl (Or.inl rfl))) (fun _ _ _ _ _ => pts_nil) (fun _ _ _ _ _ => (pe_ix (ix_tupK K rfl) (pv 8) (pv 5) (fun _ _ => rfl)))) pa_nil)))) (nomark _))))) R3 ?tail3)) R2 ?tail2))) R1 ?tail1))), ?_⟩
  case tail3 =>
    rintro D' σ' H1 ⟨eD, dr, nw, hd, pd, po, ms, ov, hdv, rfl, ws, hpo, alo, hhd, alhd, s1⟩
    have lms := ws.len
    have lod := s1 _ _ hod
    refine ⟨_, rfl, od, _, rfl, .inl (SqL.of lod), _, rfl, by omega, by omega, fun ou nou => lc_range (lo := 0) (n := (ord.map nV).length) (fun i H6 => H6 ou = some (.lst ((dPre "out" hs' i).map nV)) ∧ Same H1 H6) ⟨upd_same, same_new nou⟩ ?_ ?_⟩
    · rintro i H6 hi ⟨hD, s6⟩
      rw [lon] at hi
      have s56 := s1.trans s6
      have ehi : hs'[i]? = some (hs'[i]'(by omega)) := List.getElem?_eq_getElem _
      obtain ⟨x, ex, ⟨tt, rr, rfl, e1, e2⟩⟩ := alh'.get ehi
      have gh := ok'.good _ (List.mem_of_getElem? ehi)
      refine ⟨rfl, _, rfl, t, _, _, _, rfl, rfl, SqT.of (s56 _ _ er'), atI_nat (j := 0) rfl, _, rfl, tha, _, _, _, rfl, rfl, SqT.of (s56 _ _ eh'), at0 ex, tt, _, _, _, rfl, rfl, SqT.of (s56 _ _ e1), atI_nat (j := 0) rfl, (by show 1 ≤ sizeLine; decide), fun o1 no1 => ?_⟩
      have hD6 : (upd H6 o1 (.tup [V.str "out"])) ou = some (.lst ((dPre "out" hs' i).map nV)) := same_new no1 _ _ hD
      have s7 := s6.trans (same_new (o := .tup [V.str "out"]) no1)
      refine ⟨_, _, rule_dp (same_new no1 _ _ (s56 _ _ e2)), .tup (SqT.of upd_same) (.cons (.str _) .nil), rule_shaped gh.lay, one_shaped (by decide +kernel), _, rfl, ?_⟩
      rw [rule_eqv, gh.door "out" (.inr rfl)]
      by_cases k : (hs'[i]'(by omega)).wd = "out"
      · rw [decide_eq_true k]
        refine if_bl (fun _ => ⟨_, rfl, _, hD6, ?_, ?_, Same.own s7 nou⟩) (fun z => absurd z (by decide))
        · rw [List.length_map]; exact small1000 (by have := dPre_len (z := "out") (hs := hs') (i := i); omega)
        · rw [upd_same, dPre_yes ehi k, List.map_append, Int.zero_add]; rfl
      · rw [decide_eq_false k]
        refine if_bl (fun z => absurd z (by decide)) (fun _ => ⟨?_, s7⟩)
        rw [dPre_no ehi k]; exact hD6
    rintro H5 ⟨hou, s5⟩
    rw [lon, ← lho] at hou
    have s15 := s1.trans s5
    have hou : H5 ou = some (.lst ((doorsOf "out" hs').map nV)) := hou
    have lnr : ∀ x ∈ rows.map (turnRow hs ord hs'), x.length = (doorsOf "in" hs').length := fun x hx => by
      obtain ⟨y, _, rfl⟩ := List.mem_map.mp hx
      unfold turnRow
      rw [List.length_map, List.length_map]
    have ldo := doors_len (z := "out") (hs := hs')
    refine ⟨_, rfl, _, rfl, t, hd, hs', bs', rows.map (turnRow hs ord hs'), rfl, hT.keep (TK.same s15), ok', ⟨hdv, .inl (s5 _ _ hhd), alhd.imp fun _ _ z => z.keep (TK.same s5)⟩, lnr, by rw [List.length_map]; exact few, fun pr qv ms' H6 npr hpr alq ws' s6 => ?_⟩
    obtain rfl : ms' = ms.map (turn ord) := WS.one hrk' ws' (tu.ws (fun b hb => (ok.ends b hb).1) fit ws)
    have hpo6 := s6 _ _ (s5 _ _ hpo)
    have hou6 := s6 _ _ hou
    have lov := alo.length
    rw [List.length_map] at lov
    refine ⟨_, rfl, po, rfl, ⟨_, SqL.of hpo6⟩, fun D nD => lc_list (K := K) (a := po) (xs := ov) (fun i H7 => ∃ uv : List V, H7 D = some (.lst uv) ∧ All2 (RowAt H7) uv (((ms.map (turn ord)).take i).map (outsOf hs')) ∧ Same H6 H7 ∧ uv.length ≤ i) ⟨[], upd_same, .nil, same_new nD, Nat.le_refl _⟩ (fun i H7 _ ⟨_, _, _, s7, _⟩ => SqL.of (s7 _ _ hpo6)) ?_ ?_⟩
    · rintro i x H7 hx ⟨uv, hD, al, s7, lv⟩
      have il := (List.getElem?_eq_some_iff.mp hx).1
      obtain ⟨row, erow, ⟨tr, rfl, htr⟩⟩ := alo.getL hx
      have lrow := ws'.row row (List.mem_of_getElem? erow)
      have htr5 := s7 _ _ (s6 _ _ (s5 _ _ htr))
      refine ⟨rfl, yes_in ⟨_, rfl, ou, rfl, ⟨_, SqL.of (s7 _ _ hou6)⟩, fun D2 nD2 => lc_list (K := K) (a := ou) (xs := (doorsOf "out" hs').map nV) (fun j H8 => H8 D2 = some (.lst ((((doorsOf "out" hs').take j).map (gD row)).map V.int)) ∧ Same H7 H8) ⟨upd_same, same_new nD2⟩ (fun j H8 _ ⟨_, s8⟩ => SqL.of (s8 _ _ (s7 _ _ hou6))) ?_ ?_⟩⟩
      · rintro j y H8 hy ⟨hD2, s8⟩
        rw [List.getElem?_map] at hy
        cases ek : (doorsOf "out" hs')[j]? with
        | none => rw [ek] at hy; cases hy
        | some k =>
        rw [ek] at hy
        obtain rfl : nV k = y := Option.some.inj hy
        have jl := (List.getElem?_eq_some_iff.mp ek).1
        have kl := out_lt lrow k (List.mem_of_getElem? ek)
        refine ⟨rfl, yes_in ⟨_, rfl, _, rfl, tr, _, _, _, rfl, rfl, SqT.of (s8 _ _ htr5), at_row kl, _, hD2, ?_, ?_, Same.own s8 nD2⟩⟩
        · rw [List.length_map, List.length_map, List.length_take]; exact small1000 (by omega)
        · rw [upd_same, List.take_add_one, ek, List.map_append, List.map_append]; rfl
      · rintro H8 ⟨hD2, s8⟩
        rw [List.length_map, List.take_length] at hD2
        refine ⟨D2, _, rfl, .inl ⟨SqL.of hD2, fun tp ntp => ?_⟩⟩
        have s67 : Same H8 (upd H8 tp (.tup (((doorsOf "out" hs').map (gD row)).map V.int))) := same_new ntp
        have s57 := s8.trans s67
        refine ⟨uv, s57 _ _ hD, small1000 (by omega), uv ++ [V.ref tp], upd_same, ?_, Same.own (s7.trans s57) nD, by rw [List.length_append]; show uv.length + 1 ≤ i + 1; omega⟩
        rw [List.take_add_one, erow, List.map_append]
        exact ((al.imp fun _ _ z => z.keep (TK.same s57)).snoc (⟨tp, rfl, upd_same⟩ : RowAt _ (V.ref tp) (outsOf hs' row))).imp fun _ _ z => z.keep (TK.lst (s57 _ _ hD))
    · rintro H7 ⟨uv, hD, al, s7, lv⟩
      rw [alo.length, List.take_length] at al
      refine ⟨_, _, .lst (SqL.of (s7 _ _ hpr)) (rows_dp (alq.imp fun _ _ z => z.keep (TK.same s7))), .lst (SqL.of hD) (rows_dp al), rows_shaped _, rows_shaped _, ?_⟩
      rw [PySem.SeqAt.eqv_refl _ (rows_lay _), eD]
      exact q _ ((s15.trans s6).trans s7)
  case tail2 =>
    rintro D' σ' H1 ⟨eD, dr, nw, hd, pd, po, ms, dv, ov, hdv, rfl, hpd, ald, ws, hpo, alo, hhd, alhd, s1⟩
    have lms := ws.len
    have lod := s1 _ _ hod
    refine ⟨_, rfl, _, rfl, pd, rfl, ⟨_, SqL.of hpd⟩, fun D nD => lc_list (K := K) (a := pd) (xs := dv) (fun i H5 => ∃ uv : List V, H5 D = some (.lst uv) ∧ All2 (RowAt H5) uv ((ms.take i).map (turn ord)) ∧ Same H1 H5 ∧ uv.length ≤ i) ⟨[], upd_same, .nil, same_new nD, Nat.le_refl _⟩ (fun i H5 _ ⟨_, _, _, s5, _⟩ => SqL.of (s5 _ _ hpd)) ?_ ?_⟩
    · rintro i x H5 hx ⟨uv, hD, al, s5, lv⟩
      have il := (List.getElem?_eq_some_iff.mp hx).1
      obtain ⟨row, erow, ⟨tr, rfl, htr⟩⟩ := ald.getL hx
      have il' := (List.getElem?_eq_some_iff.mp erow).1
      have lrow := ws.row row (List.mem_of_getElem? erow)
      have htr5 := s5 _ _ htr
      refine ⟨rfl, yes_in ⟨_, rfl, od, rfl, ⟨_, SqL.of (s5 _ _ lod)⟩, fun D2 nD2 => lc_list (K := K) (a := od) (xs := ord.map nV) (fun j H6 => H6 D2 = some (.lst (((ord.take j).map (gD row)).map V.int)) ∧ Same H5 H6) ⟨upd_same, same_new nD2⟩ (fun j H6 _ ⟨_, s6⟩ => SqL.of (s6 _ _ (s5 _ _ lod))) ?_ ?_⟩⟩
      · rintro j y H6 hy ⟨hD2, s6⟩
        rw [List.getElem?_map] at hy
        cases ek : ord[j]? with
        | none => rw [ek] at hy; cases hy
        | some k =>
        rw [ek] at hy
        obtain rfl : nV k = y := Option.some.inj hy
        have jl := (List.getElem?_eq_some_iff.mp ek).1
        have kl := tu.mem.mp (List.mem_of_getElem? ek)
        refine ⟨rfl, yes_in ⟨_, rfl, _, rfl, tr, _, _, _, rfl, rfl, SqT.of (s6 _ _ htr5), at_row (by omega), _, hD2, ?_, ?_, Same.own s6 nD2⟩⟩
        · rw [List.length_map, List.length_map, List.length_take]; exact small1000 (by omega)
        · rw [upd_same, List.take_add_one, ek, List.map_append, List.map_append]; rfl
      · rintro H6 ⟨hD2, s6⟩
        rw [List.length_map, List.take_length] at hD2
        refine ⟨D2, _, rfl, .inl ⟨SqL.of hD2, fun tp ntp => ?_⟩⟩
        have s67 : Same H6 (upd H6 tp (.tup ((ord.map (gD row)).map V.int))) := same_new ntp
        have s57 := s6.trans s67
        refine ⟨uv, s57 _ _ hD, small1000 (by omega), uv ++ [V.ref tp], upd_same, ?_, Same.own (s5.trans s57) nD, by rw [List.length_append]; show uv.length + 1 ≤ i + 1; omega⟩
        rw [List.take_add_one, erow, List.map_append]
        exact ((al.imp fun _ _ z => z.keep (TK.same s57)).snoc (⟨tp, rfl, upd_same⟩ : RowAt _ (V.ref tp) (turn ord row))).imp fun _ _ z => z.keep (TK.lst (s57 _ _ hD))
    · rintro H5 ⟨uv, hD, al, s5, lv⟩
      rw [ald.length, List.take_length] at al
      refine ⟨_, _, .lst (SqL.of (s5 _ _ hpo)) (rows_dp (alo.imp fun _ _ z => z.keep (TK.same s5))), .lst (SqL.of hD) (rows_dp al), rows_shaped _, rows_shaped _, _, rfl, ?_⟩
      rw [PySem.SeqAt.eqv_refl _ (rows_lay _)]
      refine if_bl (fun z => nomatch z) (fun _ => ?_)
      exact ⟨eD, dr, nw, hd, pd, po, ms, ov, hdv, rfl, ws, s5 _ _ hpo, alo.imp fun _ _ z => z.keep (TK.same s5), s5 _ _ hhd, alhd.imp fun _ _ z => z.keep (TK.same s5), s1.trans s5⟩
  case tail1 =>
    rintro D' σ' H1 ⟨eD, dr, nw, rfl, hdr, hnw, s1⟩
    refine ⟨_, rfl, a, rfl, ⟨_, SqL.of (s1 _ _ ha)⟩, fun hd nhd => lc_list (K := K) (a := a) (xs := rv) (fun i H5 => ∃ ov : List V, H5 hd = some (.lst ov) ∧ All2 (RowAt H5) ov ((rows.take i).map (turnRow hs ord hs')) ∧ Same H1 H5 ∧ ov.length ≤ i) ⟨[], upd_same, .nil, same_new nhd, Nat.le_refl _⟩ (fun i H5 _ ⟨_, _, _, s5, _⟩ => SqL.of (s5 _ _ (s1 _ _ ha))) ?_ ?_⟩
    · rintro i x H5 hx ⟨ov, hD, al, s5, lv⟩
      have il := (List.getElem?_eq_some_iff.mp hx).1
      obtain ⟨row, erow, ⟨tr, rfl, htr⟩⟩ := alr.getL hx
      have lrow := fit row (List.mem_of_getElem? erow)
      have htr5 := s5 _ _ (s1 _ _ htr)
      refine ⟨rfl, yes_in ⟨_, rfl, nw, rfl, ⟨_, SqL.of (s5 _ _ hnw)⟩, fun D2 nD2 => lc_list (K := K) (a := nw) (xs := news.map nV) (fun j H6 => H6 D2 = some (.lst (((news.take j).map fun k => row.getD ((doorsOf "in" hs).idxOf k) 0).map V.int)) ∧ Same H5 H6) ⟨upd_same, same_new nD2⟩ (fun j H6 _ ⟨_, s6⟩ => SqL.of (s6 _ _ (s5 _ _ hnw))) ?_ ?_⟩⟩
      · rintro j y H6 hy ⟨hD2, s6⟩
        rw [List.getElem?_map] at hy
        cases ek : news[j]? with
        | none => rw [ek] at hy; cases hy
        | some k =>
        rw [ek] at hy
        obtain rfl : nV k = y := Option.some.inj hy
        have jl := (List.getElem?_eq_some_iff.mp ek).1
        have kd := newsd k (List.mem_of_getElem? ek)
        have kil := List.idxOf_lt_length_of_mem kd
        have s56 := s5.trans s6
        refine ⟨rfl, yes_in ⟨_, rfl, _, rfl, .inl ⟨rfl, _, SqL.of (s56 _ _ hdr)⟩, _, rfl, ?_⟩⟩
        dsimp only [tNil]
        refine index_nat (s56 _ _ hdr) kd ?_
        refine ⟨tr, _, _, _, rfl, rfl, SqT.of (s6 _ _ htr5), at_row (by omega), _, hD2, ?_, ?_, Same.own s6 nD2⟩
        · rw [List.length_map, List.length_map, List.length_take]; exact small1000 (by omega)
        · rw [upd_same, List.take_add_one, ek, List.map_append, List.map_append]; rfl
      · rintro H6 ⟨hD2, s6⟩
        rw [List.length_map, List.take_length] at hD2
        refine ⟨D2, _, rfl, .inl ⟨SqL.of hD2, fun tp ntp => ?_⟩⟩
        have s67 : Same H6 (upd H6 tp (.tup ((news.map fun k => row.getD ((doorsOf "in" hs).idxOf k) 0).map V.int))) := same_new ntp
        have s57 := s6.trans s67
        refine ⟨ov, s57 _ _ hD, small1000 (by omega), ov ++ [V.ref tp], upd_same, ?_, Same.own (s5.trans s57) nhd, by rw [List.length_append]; show ov.length + 1 ≤ i + 1; omega⟩
        rw [List.take_add_one, erow, List.map_append]
        exact ((al.imp fun _ _ z => z.keep (TK.same s57)).snoc (⟨tp, rfl, upd_same⟩ : RowAt _ (V.ref tp) (turnRow hs ord hs' row))).imp fun _ _ z => z.keep (TK.lst (s57 _ _ hD))
    · rintro H5 ⟨hdv, hhd, alhd, s5, lv⟩
      rw [lrv, List.take_length] at alhd
      have s15 := s1.trans s5
      have lnr : ∀ x ∈ rows.map (turnRow hs ord hs'), x.length = (doorsOf "in" hs').length := fun x hx => by
        obtain ⟨y, _, rfl⟩ := List.mem_map.mp hx
        unfold turnRow
        rw [List.length_map, List.length_map]
      refine ⟨_, rfl, _, rfl, r, a, hs, bs, rows, rfl, hR.keep (TK.same s15), ok, ⟨rv, .inl (s15 _ _ ha), alr.imp fun _ _ z => z.keep (TK.same s15)⟩, fit, few, fun pd dv ms H6 npd hpd ald ws s6 => ?_⟩
      have s16 := s15.trans s6
      refine ⟨_, rfl, _, rfl, t, hd, hs', bs', rows.map (turnRow hs ord hs'), rfl, hT.keep (TK.same s16), ok', ⟨hdv, .inl (s6 _ _ hhd), alhd.imp fun _ _ z => z.keep (TK.same s6)⟩, lnr, by rw [List.length_map]; exact few, fun po ov ms' H7 npo hpo alo ws' s7 => ?_⟩
      obtain rfl : ms' = ms.map (turn ord) := WS.one hrk' ws' (tu.ws (fun b hb => (ok.ends b hb).1) fit ws)
      exact ⟨_, _, rfl, eD, dr, nw, hd, pd, po, ms, dv, ov, hdv, rfl, s7 _ _ hpd, ald.imp fun _ _ z => z.keep (TK.same s7), ws, hpo, alo, s7 _ _ (s6 _ _ hhd), alhd.imp fun _ _ z => z.keep (TK.same (s6.trans s7)), s16.trans s7⟩
  refine ⟨_, rfl, od, _, rfl, .inl (SqL.of hod), _, rfl, by omega, by omega, fun dr ndr => lc_range (lo := 0) (n := (ord.map nV).length) (fun i H5 => H5 dr = some (.lst ((dPre "in" hs i).map nV)) ∧ Same H H5) ⟨upd_same, same_new ndr⟩ ?_ ?_⟩
  · rintro i H5 hi ⟨hD, s5⟩
    rw [lon, lo] at hi
    have ehi : hs[i]? = some hs[i] := List.getElem?_eq_getElem hi
    obtain ⟨x, ex, ⟨tt, rr, rfl, e1, e2⟩⟩ := alh.get ehi
    have gh := ok.good _ (List.mem_of_getElem? ehi)
    refine ⟨rfl, _, rfl, r, _, _, _, rfl, rfl, SqT.of (s5 _ _ er), atI_nat (j := 0) rfl, _, rfl, hha, _, _, _, rfl, rfl, SqT.of (s5 _ _ eh), at0 ex, tt, _, _, _, rfl, rfl, SqT.of (s5 _ _ e1), atI_nat (j := 0) rfl, (by show 1 ≤ sizeLine; decide), fun o1 no1 => ?_⟩
    have hD6 : (upd H5 o1 (.tup [V.str "in"])) dr = some (.lst ((dPre "in" hs i).map nV)) := same_new no1 _ _ hD
    have s6 := s5.trans (same_new (o := .tup [V.str "in"]) no1)
    refine ⟨_, _, rule_dp (same_new no1 _ _ (s5 _ _ e2)), .tup (SqT.of upd_same) (.cons (.str _) .nil), rule_shaped gh.lay, one_shaped (by decide +kernel), _, rfl, ?_⟩
    rw [rule_eqv, gh.door "in" (.inl rfl)]
    by_cases k : hs[i].wd = "in"
    · rw [decide_eq_true k]
      refine if_bl (fun _ => ⟨_, rfl, _, hD6, ?_, ?_, Same.own s6 ndr⟩) (fun z => absurd z (by decide))
      · rw [List.length_map]; exact small1000 (by have := dPre_len (z := "in") (hs := hs) (i := i); omega)
      · rw [upd_same, dPre_yes ehi k, List.map_append, Int.zero_add]; rfl
    · rw [decide_eq_false k]
      refine if_bl (fun z => absurd z (by decide)) (fun _ => ⟨?_, s6⟩)
      rw [dPre_no ehi k]; exact hD6
  rintro H5 ⟨hdr, s5⟩
  rw [lon, lo] at hdr
  refine ⟨_, rfl, od, _, rfl, .inl (SqL.of (s5 _ _ hod)), _, rfl, by omega, by omega, fun nw nnw => lc_range (lo := 0) (n := (ord.map nV).length) (fun i H6 => H6 nw = some (.lst (((dPre "in" hs' i).map fun j => ord.getD j 0).map nV)) ∧ Same H5 H6) ⟨upd_same, same_new nnw⟩ ?_ ?_⟩
  · rintro i H6 hi ⟨hD, s6⟩
    rw [lon] at hi
    have s56 := s5.trans s6
    have ehi : hs'[i]? = some (hs'[i]'(by omega)) := List.getElem?_eq_getElem _
    obtain ⟨x, ex, ⟨tt, rr, rfl, e1, e2⟩⟩ := alh'.get ehi
    have gh := ok'.good _ (List.mem_of_getElem? ehi)
    refine ⟨rfl, _, rfl, t, _, _, _, rfl, rfl, SqT.of (s56 _ _ er'), atI_nat (j := 0) rfl, _, rfl, tha, _, _, _, rfl, rfl, SqT.of (s56 _ _ eh'), at0 ex, tt, _, _, _, rfl, rfl, SqT.of (s56 _ _ e1), atI_nat (j := 0) rfl, (by show 1 ≤ sizeLine; decide), fun o1 no1 => ?_⟩
    have hD6 : (upd H6 o1 (.tup [V.str "in"])) nw = some (.lst (((dPre "in" hs' i).map fun j => ord.getD j 0).map nV)) := same_new no1 _ _ hD
    have s7 := s6.trans (same_new (o := .tup [V.str "in"]) no1)
    refine ⟨_, _, rule_dp (same_new no1 _ _ (s56 _ _ e2)), .tup (SqT.of upd_same) (.cons (.str _) .nil), rule_shaped gh.lay, one_shaped (by decide +kernel), _, rfl, ?_⟩
    rw [rule_eqv, gh.door "in" (.inl rfl)]
    by_cases k : (hs'[i]'(by omega)).wd = "in"
    · rw [decide_eq_true k]
      have eo : ord[i]? = some ord[i] := List.getElem?_eq_getElem hi
      refine if_bl (fun _ => ⟨_, rfl, _, rfl, od, _, _, _, rfl, rfl, SqL.of (s7 _ _ (s5 _ _ hod)), at0 (v := nV ord[i]) (by rw [List.getElem?_map, eo]; rfl), _, hD6, ?_, ?_, Same.own s7 nnw⟩) (fun z => absurd z (by decide))
      · rw [List.length_map, List.length_map]; exact small1000 (by have := dPre_len (z := "in") (hs := hs') (i := i); omega)
      · rw [upd_same, dPre_yes ehi k, List.map_append, List.map_append]
        show _ = some (HO.lst (_ ++ [nV (ord.getD i 0)]))
        rw [List.getD_eq_getElem?_getD, eo]; rfl
    · rw [decide_eq_false k]
      refine if_bl (fun z => absurd z (by decide)) (fun _ => ⟨?_, s7⟩)
      rw [dPre_no ehi k]; exact hD6
  rintro H6 ⟨hnw, s6⟩
  rw [lon, ← lho] at hnw
  exact ⟨rfl, dr, nw, rfl, s6 _ _ hdr, hnw, s5.trans s6⟩
end
theorem cut_take (xs : List V) (k : Nat) : cutV xs none (some ((k : Nat) : Int)) = xs.take k := by
  unfold cutV
  rw [HT.sIx_nat, HT.sIx_none, List.drop_zero, Nat.sub_zero]
  by_cases h : k ≤ xs.length
  · rw [Nat.min_eq_left h]
  · rw [Nat.min_eq_right (by omega), List.take_length, List.take_of_length_le (by omega)]
section
variable {P : Program} {w : World} {K : PySem.W.Frag} {mg : Str → Option Value} {base : Heap}
theorem All2.take {α β : Type} {R : α → β → Prop} : ∀ {as : List α} {bs : List β}, All2 R as bs → ∀ n, All2 R (as.take n) (bs.take n)
  | _, _, .nil, n => by rw [List.take_nil, List.take_nil]; exact .nil
  | _, _, .cons h t, 0 => .nil
  | _, _, .cons h t, n + 1 => .cons h (t.take n)
theorem All2.drop {α β : Type} {R : α → β → Prop} : ∀ {as : List α} {bs : List β}, All2 R as bs → ∀ n, All2 R (as.drop n) (bs.drop n)
  | _, _, .nil, n => by rw [List.drop_nil, List.drop_nil]; exact .nil
  | _, _, .cons h t, 0 => .cons h t
  | _, _, .cons h t, n + 1 => t.drop n
def sp_law (K : PySem.W.Frag) : Sp := fun vs H Q _ => ∃ (a : Addr) (ns : List Int), vs = [.ref a] ∧ SqL K H a (ns.map V.int) ∧ ns.length ≤ 63 ∧ ∀ H', Q (.bl true) H'
theorem ok_law {f : Addr} {fd : FuncData} (F : Fun K "law" "law" s_law f fd) {C : Addr} (T : Top K mg C) : FnOk P w K mg base CX0 7 f fd ["_law_script"] (sp_law K) := by
  obtain ⟨f_law_flow, fd_law_flow, F_law_flow, b_law_flow, m_law_flow⟩ := T.d_law_flow
  have G_law_flow := ok_law_flow (P := P) (w := w) (base := base) F_law_flow T
  obtain ⟨f_law_any_room, fd_law_any_room, F_law_any_room, b_law_any_room, m_law_any_room⟩ := T.d_law_any_room
  have G_law_any_room := ok_law_any_room (P := P) (w := w) (base := base) F_law_any_room T
  obtain ⟨f_law_some_rows, fd_law_some_rows, F_law_some_rows, b_law_some_rows, m_law_some_rows⟩ := T.d_law_some_rows
  have G_law_some_rows := ok_law_some_rows (P := P) (w := w) (base := base) F_law_some_rows T
  obtain ⟨f_law_pick, fd_law_pick, F_law_pick, b_law_pick, m_law_pick⟩ := T.d_law_pick
  have G_law_pick := ok_law_pick (P := P) (w := w) (base := base) F_law_pick T
  obtain ⟨f_law_turned_room, fd_law_turned_room, F_law_turned_room, b_law_turned_room, m_law_turned_room⟩ := T.d_law_turned_room
  have G_law_turned_room := ok_law_turned_room (P := P) (w := w) (base := base) F_law_turned_room T
  obtain ⟨f_law_goes_on, fd_law_goes_on, F_law_goes_on, b_law_goes_on, m_law_goes_on⟩ := T.d_law_goes_on
  have G_law_goes_on := ok_law_goes_on (P := P) (w := w) (base := base) F_law_goes_on T
  obtain ⟨f_law_turned_right, fd_law_turned_right, F_law_turned_right, b_law_turned_right, m_law_turned_right⟩ := T.d_law_turned_right
  have G_law_turned_right := ok_law_turned_right (P := P) (w := w) (base := base) F_law_turned_right T
  refine F.ok sc_law (fun vs H Q E h => ?_) (fun cdv A outer s H vs Q E hr h => ?_)
  · obtain ⟨a, ns, rfl, _⟩ := h
    rfl
  obtain ⟨a, ns, rfl, hS, hlen, q⟩ := h
  refine ⟨_, (pss_cons (ps_set (i := 1) sc_law.nd rfl (Or.inl rfl) (pe_call G_law_flow (hr.mono (by decide)) (by rfl) m_law_flow F_law_flow.kp b_law_flow .nil pass0 (pa_cons (pv 0) pa_nil)))
      (pss_cons (ps_set (i := 2) sc_law.nd rfl (Or.inl rfl) (pe_call G_law_any_room (hr.mono (by decide)) (by rfl) m_law_any_room F_law_any_room.kp b_law_any_room .nil pass0 (pa_cons (pv 1) pa_nil)))
      (pss_cons (ps_set (i := 3) sc_law.nd rfl (Or.inl rfl) (pe_call G_law_some_rows (hr.mono (by decide)) (by rfl) m_law_some_rows F_law_some_rows.kp b_law_some_rows .nil pass0 (pa_cons (pv 1) (pa_cons (pv 2) pa_nil))))
      (pss_cons (ps_set (i := 4) sc_law.nd rfl (Or.inl rfl) (pe_call G_law_pick (hr.mono (by decide)) (by rfl) m_law_pick F_law_pick.kp b_law_pick .nil pass0 (pa_cons (pv 1) (pa_cons (pe_op op_add (pe_callB (call_len_seqK K rfl) (by rfl) T.m_len (by decide +kernel) (pa_cons (pv 3) pa_nil)) pe_int) pa_nil))))
      (pss_cons (ps_asg (pe_call G_law_turned_room (hr.mono (by decide)) (by rfl) m_law_turned_room F_law_turned_room.kp b_law_turned_room .nil pass0 (pa_cons (pv 1) (pa_cons (pv 2) pa_nil))) (pg_tupK K rfl rfl (pgs_cons (pg_name (i := 5) sc_law.nd rfl (Or.inl rfl)) (pgs_cons (pg_name (i := 6) sc_law.nd rfl (Or.inl rfl)) pgs_nil))))
      (pss_cons (ps_if (PW.pt (pw_or (pt_not (pt_val (pe_call G_law_goes_on (hr.mono (by decide)) (by rfl) m_law_goes_on F_law_goes_on.kp b_law_goes_on .nil pass0 (pa_cons (pv 2) (pa_cons (pe_slice (sl_listK K rfl) (pv 3) po_none (po_some (pv 4))) (pa_cons (pe_slice (sl_listK K rfl) (pv 3) (po_some (pv 4)) po_none) pa_nil)))))) (pw_or1 (pt_not (pt_val (pe_call G_law_turned_right (hr.mono (by decide)) (by rfl) m_law_turned_right F_law_turned_right.kp b_law_turned_right .nil pass0 (pa_cons (pv 2) (pa_cons (pv 3) (pa_cons (pv 5) (pa_cons (pv 6) pa_nil)))))))))) (pss_one (ps_ret pe_bl)) pss_nil)
      (pss_one (ps_ret (pe_call G_law_goes_on (hr.mono (by decide)) (by rfl) m_law_goes_on F_law_goes_on.kp b_law_goes_on .nil pass0 (pa_cons (pv 2) (pa_cons (pe_slice (sl_listK K rfl) (pv 3) po_none (po_some (pv 4))) (pa_cons (pe_slice (sl_listK K rfl) (pv 3) (po_some (pv 4)) po_none) pa_nil)))))))))))), ?_⟩
  refine ⟨_, rfl, a, ns, rfl, hS, fun f c H1 nf nc F1 s1 => ?_⟩
  refine ⟨_, rfl, f, c, rfl, F1, fun r hs bs H2 hR ok F2 B2 => ?_⟩
  refine ⟨_, rfl, _, rfl, f, c, r, hs, bs, rfl, F2, hR, ok.hands, ok.good, fun p rv rows H3 np hp al lr fit F3 B3 => ?_⟩
  have pf : p ≠ f := F2.ne np
  have lal := al.length
  refine ⟨_, rfl, _, rfl, p, _, rfl, .inl (SqL.of hp), _, _, rfl, rfl, f, c, ((rv.length : Nat) : Int) + 1, rfl, by omega, log_small (m := rv.length + 1) (by omega), F3, fun v H4 v0 v1 F4 B4 => ?_⟩
  obtain ⟨u, rfl⟩ : ∃ u : Nat, v = ((u : Nat) : Int) := ⟨v.toNat, by omega⟩
  have k3 : TK H2 H3 := TK.but F2 B3
  have k4 : TK H3 H4 := TK.but F3 B4
  have hR4 := hR.keep (k3.trans k4)
  have hp4 := B4 _ _ hp pf
  refine ⟨_, rfl, _, rfl, f, c, r, hs, bs, rfl, F4, hR4, ok, fun t r' od ord hs' bs' H5 ht hT hod nod tu F5 B5 => ?_⟩
  have k5 : TK H4 H5 := TK.but F4 B5
  have hR5 := hR4.keep k5
  have hp5 := B5 _ _ hp4 pf
  have al5 : All2 (RowAt H5) rv rows := al.imp fun _ _ z => z.keep (k4.trans k5)
  refine ⟨t, _, rfl, SqT.of ht, rfl, _, _, rfl, _, _, rfl, rfl, ?_⟩
  have fit1 : ∀ x ∈ rows, x.length = (doorsOf "in" hs).length := fun x hx => (fit x hx).1
  have go : ∀ (H6 : Hp) (l1 l2 : Addr) (Q' : VK), Same H5 H6 → H6 l1 = some (.lst (rv.take u)) → H6 l2 = some (.lst (rv.drop u)) → (∀ H', Same H6 H' → Q' (.bl true) H') → sp_law_goes_on K C [.ref r, .ref l1, .ref l2] H6 Q' E0 := fun H6 l1 l2 Q' s h1 h2 q' =>
    ⟨r, l1, l2, hs, bs, _, _, rows.take u, rows.drop u, rfl, hR5.keep (TK.same s), ok, h1, (al5.imp fun _ _ z => z.keep (TK.same s)).take u, h2, (al5.imp fun _ _ z => z.keep (TK.same s)).drop u, fun x hx => fit1 x (List.mem_of_mem_take hx), fun x hx => fit1 x (List.mem_of_mem_drop hx), by rw [List.length_take, List.length_drop]; omega, q'⟩
  refine ⟨_, rfl, _, rfl, _, rfl, _, rfl, p, _, rfl, SqL.of hp5, fun l1 nl1 => ?_⟩
  rw [cut_take]
  have s6 : Same H5 (upd H5 l1 (.lst (rv.take u))) := same_new nl1
  refine ⟨_, rfl, _, rfl, _, rfl, p, _, rfl, SqL.of (s6 _ _ hp5), fun l2 nl2 => ?_⟩
  dsimp only [tNoPart, tNil]
  rw [cut_drop]
  have s7 := s6.trans (same_new (o := .lst (rv.drop u)) nl2)
  refine go _ l1 l2 _ s7 (same_new nl2 _ _ upd_same) upd_same fun H6 s8 => ?_
  have s56 := s7.trans s8
  refine ⟨_, rfl, if_bl (fun z => nomatch z) (fun _ => ?_)⟩
  refine ⟨_, rfl, _, rfl, _, rfl, _, rfl, r, p, r', od, hs, bs, ord, hs', bs', rv, rows, rfl, hR5.keep (TK.same s56), ok, s56 _ _ hp5, al5.imp fun _ _ z => z.keep (TK.same s56), fit1, by omega, hT.keep (TK.same s56), s56 _ _ hod, tu, fun H7 s9 => ⟨_, rfl, if_bl (fun z => nomatch z) (fun _ => ?_)⟩⟩
  have s57 := s56.trans s9
  refine ⟨_, rfl, _, rfl, _, rfl, _, rfl, p, _, rfl, SqL.of (s57 _ _ hp5), fun l3 nl3 => ?_⟩
  rw [cut_take]
  have s8' := s57.trans (same_new (o := .lst (rv.take u)) nl3)
  refine ⟨_, rfl, _, rfl, _, rfl, p, _, rfl, SqL.of (s8' _ _ hp5), fun l4 nl4 => ?_⟩
  dsimp only [tNoPart, tNil]
  rw [cut_drop]
  exact go _ l3 l4 _ (s8'.trans (same_new nl4)) (same_new nl4 _ _ upd_same) upd_same fun H8 _ => q _
end
set_option maxHeartbeats 0 in
theorem all_mk {l : PySem.W.OpenLaw} {w : World} {K : PySem.W.Frag} {h : Heap} {mg : Str → Option Value} {fa C f1 f2 f3 f4 f5 f6 f7 f8 f9 f10 f11 f12 f13 f14 f15 f16 f17 f18 f19 f20 f21 f22 f23 f24 f25 f26 f27 f28 f29 f30 f31 f32 f33 f34 : Addr} (X : K.In h) (G : h.Ns mainGlobals mg) (hfa : mg "law" = some (.ref fa))
    {od1 an1 od2 an2 od3 an3 od4 an4 od5 an5 od6 an6 od7 an7 od8 an8 od9 an9 od10 an10 od11 an11 od12 an12 od13 an13 od14 an14 od15 an15 od16 an16 od17 an17 od18 an18 od19 an19 od20 an20 od21 an21 od22 an22 od23 an23 od24 an24 od25 an25 od26 an26 od27 an27 od28 an28 od29 an29 od30 an30 od31 an31 od32 an32 od33 an33 od34 an34 : Option Addr} {sl1 sl2 sl3 sl4 sl5 sl6 sl7 sl8 sl9 sl10 sl11 sl12 sl13 sl14 sl15 sl16 sl17 sl18 sl19 sl20 sl21 sl22 sl23 sl24 sl25 sl26 sl27 sl28 sl29 sl30 sl31 sl32 sl33 sl34 : Array (Option Value)} {oc1 kV1 dc1 pm1 cd1 ct1 oc2 kV2 dc2 pm2 cd2 ct2 oc3 kV3 dc3 pm3 cd3 ct3 oc4 kV4 dc4 pm4 cd4 ct4 oc5 kV5 dc5 pm5 cd5 ct5 oc6 kV6 dc6 pm6 cd6 ct6 oc7 kV7 dc7 pm7 cd7 ct7 oc8 kV8 dc8 pm8 cd8 ct8 oc9 kV9 dc9 pm9 cd9 ct9 oc10 kV10 dc10 pm10 cd10 ct10 oc11 kV11 dc11 pm11 cd11 ct11 oc12 kV12 dc12 pm12 cd12 ct12 oc13 kV13 dc13 pm13 cd13 ct13 oc14 kV14 dc14 pm14 cd14 ct14 oc15 kV15 dc15 pm15 cd15 ct15 oc16 kV16 dc16 pm16 cd16 ct16 oc17 kV17 dc17 pm17 cd17 ct17 oc18 kV18 dc18 pm18 cd18 ct18 oc19 kV19 dc19 pm19 cd19 ct19 oc20 kV20 dc20 pm20 cd20 ct20 oc21 kV21 dc21 pm21 cd21 ct21 oc22 kV22 dc22 pm22 cd22 ct22 oc23 kV23 dc23 pm23 cd23 ct23 oc24 kV24 dc24 pm24 cd24 ct24 oc25 kV25 dc25 pm25 cd25 ct25 oc26 kV26 dc26 pm26 cd26 ct26 oc27 kV27 dc27 pm27 cd27 ct27 oc28 kV28 dc28 pm28 cd28 ct28 oc29 kV29 dc29 pm29 cd29 ct29 oc30 kV30 dc30 pm30 cd30 ct30 oc31 kV31 dc31 pm31 cd31 ct31 oc32 kV32 dc32 pm32 cd32 ct32 oc33 kV33 dc33 pm33 cd33 ct33 oc34 kV34 dc34 pm34 cd34 ct34 : Value}
    (aC : PySem.W.nsIn K mainGlobals "Run" = some (some (.ref C))) (pg : PySem.W.plainGet K C Str.empty = true) (hd : PySem.W.hasDictIn K C = true) (po : PySem.W.plainOver K C = true) (sa : PySem.W.findIn K (.ref C) "__setattr__" = some (some (.builtin "object.__setattr__"))) (mk : PySem.W.makesIn K C = true) (kc : PySem.W.keepIn K (.ref C) = true)
    (nf_stands : PySem.W.findIn K (.ref C) "stands" = some none) (nf_plan : PySem.W.findIn K (.ref C) "plan" = some none) (nf_doors : PySem.W.findIn K (.ref C) "doors" = some none) (nf_many : PySem.W.findIn K (.ref C) "many" = some none)
    (a1 : PySem.W.nsIn K mainGlobals "work_order" = some (some (.ref f1))) (l1 : K.lookup f1 = some ⟨oc1, od1, .func (PySem.W.fnOf "work_order" "work_order" (defArgs s_work_order) (defBody s_work_order) (defScope s_work_order) .none kV1 dc1 pm1 an1 cd1 ct1), sl1⟩) (c1 : PySem.W.codeIn K cd1 "work_order" = true) (k1 : PySem.W.keepIn K (.ref f1) = true)
    (a2 : PySem.W.nsIn K mainGlobals "made_by" = some (some (.ref f2))) (l2 : K.lookup f2 = some ⟨oc2, od2, .func (PySem.W.fnOf "made_by" "made_by" (defArgs s_made_by) (defBody s_made_by) (defScope s_made_by) .none kV2 dc2 pm2 an2 cd2 ct2), sl2⟩) (c2 : PySem.W.codeIn K cd2 "made_by" = true) (k2 : PySem.W.keepIn K (.ref f2) = true)
    (a3 : PySem.W.nsIn K mainGlobals "made_of_two" = some (some (.ref f3))) (l3 : K.lookup f3 = some ⟨oc3, od3, .func (PySem.W.fnOf "made_of_two" "made_of_two" (defArgs s_made_of_two) (defBody s_made_of_two) (defScope s_made_of_two) .none kV3 dc3 pm3 an3 cd3 ct3), sl3⟩) (c3 : PySem.W.codeIn K cd3 "made_of_two" = true) (k3 : PySem.W.keepIn K (.ref f3) = true)
    (a4 : PySem.W.nsIn K mainGlobals "comings" = some (some (.ref f4))) (l4 : K.lookup f4 = some ⟨oc4, od4, .func (PySem.W.fnOf "comings" "comings" (defArgs s_comings) (defBody s_comings) (defScope s_comings) .none kV4 dc4 pm4 an4 cd4 ct4), sl4⟩) (c4 : PySem.W.codeIn K cd4 "comings" = true) (k4 : PySem.W.keepIn K (.ref f4) = true)
    (a5 : PySem.W.nsIn K mainGlobals "doors_in" = some (some (.ref f5))) (l5 : K.lookup f5 = some ⟨oc5, od5, .func (PySem.W.fnOf "doors_in" "doors_in" (defArgs s_doors_in) (defBody s_doors_in) (defScope s_doors_in) .none kV5 dc5 pm5 an5 cd5 ct5), sl5⟩) (c5 : PySem.W.codeIn K cd5 "doors_in" = true) (k5 : PySem.W.keepIn K (.ref f5) = true)
    (a6 : PySem.W.nsIn K mainGlobals "doors_out" = some (some (.ref f6))) (l6 : K.lookup f6 = some ⟨oc6, od6, .func (PySem.W.fnOf "doors_out" "doors_out" (defArgs s_doors_out) (defBody s_doors_out) (defScope s_doors_out) .none kV6 dc6 pm6 an6 cd6 ct6), sl6⟩) (c6 : PySem.W.codeIn K cd6 "doors_out" = true) (k6 : PySem.W.keepIn K (.ref f6) = true)
    (a7 : PySem.W.nsIn K mainGlobals "run" = some (some (.ref f7))) (l7 : K.lookup f7 = some ⟨oc7, od7, .func (PySem.W.fnOf "run" "run" (defArgs s_run) (defBody s_run) (defScope s_run) .none kV7 dc7 pm7 an7 cd7 ct7), sl7⟩) (c7 : PySem.W.codeIn K cd7 "run" = true) (k7 : PySem.W.keepIn K (.ref f7) = true)
    (a8 : PySem.W.nsIn K mainGlobals "worked" = some (some (.ref f8))) (l8 : K.lookup f8 = some ⟨oc8, od8, .func (PySem.W.fnOf "worked" "worked" (defArgs s_worked) (defBody s_worked) (defScope s_worked) .none kV8 dc8 pm8 an8 cd8 ct8), sl8⟩) (c8 : PySem.W.codeIn K cd8 "worked" = true) (k8 : PySem.W.keepIn K (.ref f8) = true)
    (a9 : PySem.W.nsIn K mainGlobals "standing" = some (some (.ref f9))) (l9 : K.lookup f9 = some ⟨oc9, od9, .func (PySem.W.fnOf "standing" "standing" (defArgs s_standing) (defBody s_standing) (defScope s_standing) .none kV9 dc9 pm9 an9 cd9 ct9), sl9⟩) (c9 : PySem.W.codeIn K cd9 "standing" = true) (k9 : PySem.W.keepIn K (.ref f9) = true)
    (a10 : PySem.W.nsIn K mainGlobals "picked" = some (some (.ref f10))) (l10 : K.lookup f10 = some ⟨oc10, od10, .func (PySem.W.fnOf "picked" "picked" (defArgs s_picked) (defBody s_picked) (defScope s_picked) .none kV10 dc10 pm10 an10 cd10 ct10), sl10⟩) (c10 : PySem.W.codeIn K cd10 "picked" = true) (k10 : PySem.W.keepIn K (.ref f10) = true)
    (a11 : PySem.W.nsIn K mainGlobals "work_plan" = some (some (.ref f11))) (l11 : K.lookup f11 = some ⟨oc11, od11, .func (PySem.W.fnOf "work_plan" "work_plan" (defArgs s_work_plan) (defBody s_work_plan) (defScope s_work_plan) .none kV11 dc11 pm11 an11 cd11 ct11), sl11⟩) (c11 : PySem.W.codeIn K cd11 "work_plan" = true) (k11 : PySem.W.keepIn K (.ref f11) = true)
    (a12 : PySem.W.nsIn K mainGlobals "made_at_bell" = some (some (.ref f12))) (l12 : K.lookup f12 = some ⟨oc12, od12, .func (PySem.W.fnOf "made_at_bell" "made_at_bell" (defArgs s_made_at_bell) (defBody s_made_at_bell) (defScope s_made_at_bell) .none kV12 dc12 pm12 an12 cd12 ct12), sl12⟩) (c12 : PySem.W.codeIn K cd12 "made_at_bell" = true) (k12 : PySem.W.keepIn K (.ref f12) = true)
    (a13 : PySem.W.nsIn K mainGlobals "thing_taken" = some (some (.ref f13))) (l13 : K.lookup f13 = some ⟨oc13, od13, .func (PySem.W.fnOf "thing_taken" "thing_taken" (defArgs s_thing_taken) (defBody s_thing_taken) (defScope s_thing_taken) .none kV13 dc13 pm13 an13 cd13 ct13), sl13⟩) (c13 : PySem.W.codeIn K cd13 "thing_taken" = true) (k13 : PySem.W.keepIn K (.ref f13) = true)
    (a14 : PySem.W.nsIn K mainGlobals "behind_bell" = some (some (.ref f14))) (l14 : K.lookup f14 = some ⟨oc14, od14, .func (PySem.W.fnOf "behind_bell" "behind_bell" (defArgs s_behind_bell) (defBody s_behind_bell) (defScope s_behind_bell) .none kV14 dc14 pm14 an14 cd14 ct14), sl14⟩) (c14 : PySem.W.codeIn K cd14 "behind_bell" = true) (k14 : PySem.W.keepIn K (.ref f14) = true)
    (a15 : PySem.W.nsIn K mainGlobals "belt_behind_bell" = some (some (.ref f15))) (l15 : K.lookup f15 = some ⟨oc15, od15, .func (PySem.W.fnOf "belt_behind_bell" "belt_behind_bell" (defArgs s_belt_behind_bell) (defBody s_belt_behind_bell) (defScope s_belt_behind_bell) .none kV15 dc15 pm15 an15 cd15 ct15), sl15⟩) (c15 : PySem.W.codeIn K cd15 "belt_behind_bell" = true) (k15 : PySem.W.keepIn K (.ref f15) = true)
    (a16 : PySem.W.findIn K (.ref C) "__init__" = some (some (.ref f16))) (i16 : PySem.W.isFn K (.ref f16) = true) (l16 : K.lookup f16 = some ⟨oc16, od16, .func (PySem.W.fnOf "__init__" "Run.__init__" (defArgs s_Run___init__) (defBody s_Run___init__) (defScope s_Run___init__) .none kV16 dc16 pm16 an16 cd16 ct16), sl16⟩) (c16 : PySem.W.codeIn K cd16 "Run.__init__" = true) (k16 : PySem.W.keepIn K (.ref f16) = true)
    (a17 : PySem.W.findIn K (.ref C) "bell" = some (some (.ref f17))) (i17 : PySem.W.isFn K (.ref f17) = true) (l17 : K.lookup f17 = some ⟨oc17, od17, .func (PySem.W.fnOf "bell" "Run.bell" (defArgs s_Run_bell) (defBody s_Run_bell) (defScope s_Run_bell) .none kV17 dc17 pm17 an17 cd17 ct17), sl17⟩) (c17 : PySem.W.codeIn K cd17 "Run.bell" = true) (k17 : PySem.W.keepIn K (.ref f17) = true)
    (a18 : PySem.W.findIn K (.ref C) "bells" = some (some (.ref f18))) (i18 : PySem.W.isFn K (.ref f18) = true) (l18 : K.lookup f18 = some ⟨oc18, od18, .func (PySem.W.fnOf "bells" "Run.bells" (defArgs s_Run_bells) (defBody s_Run_bells) (defScope s_Run_bells) .none kV18 dc18 pm18 an18 cd18 ct18), sl18⟩) (c18 : PySem.W.codeIn K cd18 "Run.bells" = true) (k18 : PySem.W.keepIn K (.ref f18) = true)
    (a19 : PySem.W.findIn K (.ref C) "room" = some (some (.ref f19))) (i19 : PySem.W.isFn K (.ref f19) = true) (l19 : K.lookup f19 = some ⟨oc19, od19, .func (PySem.W.fnOf "room" "Run.room" (defArgs s_Run_room) (defBody s_Run_room) (defScope s_Run_room) .none kV19 dc19 pm19 an19 cd19 ct19), sl19⟩) (c19 : PySem.W.codeIn K cd19 "Run.room" = true) (k19 : PySem.W.keepIn K (.ref f19) = true)
    (a20 : PySem.W.nsIn K mainGlobals "_law_flow" = some (some (.ref f20))) (l20 : K.lookup f20 = some ⟨oc20, od20, .func (PySem.W.fnOf "_law_flow" "_law_flow" (defArgs s_law_flow) (defBody s_law_flow) (defScope s_law_flow) .none kV20 dc20 pm20 an20 cd20 ct20), sl20⟩) (c20 : PySem.W.codeIn K cd20 "_law_flow" = true) (k20 : PySem.W.keepIn K (.ref f20) = true)
    (a21 : PySem.W.nsIn K mainGlobals "_law_pick" = some (some (.ref f21))) (l21 : K.lookup f21 = some ⟨oc21, od21, .func (PySem.W.fnOf "_law_pick" "_law_pick" (defArgs s_law_pick) (defBody s_law_pick) (defScope s_law_pick) .none kV21 dc21 pm21 an21 cd21 ct21), sl21⟩) (c21 : PySem.W.codeIn K cd21 "_law_pick" = true) (k21 : PySem.W.keepIn K (.ref f21) = true)
    (a22 : PySem.W.nsIn K mainGlobals "_law_thing" = some (some (.ref f22))) (l22 : K.lookup f22 = some ⟨oc22, od22, .func (PySem.W.fnOf "_law_thing" "_law_thing" (defArgs s_law_thing) (defBody s_law_thing) (defScope s_law_thing) .none kV22 dc22 pm22 an22 cd22 ct22), sl22⟩) (c22 : PySem.W.codeIn K cd22 "_law_thing" = true) (k22 : PySem.W.keepIn K (.ref f22) = true)
    (a23 : PySem.W.nsIn K mainGlobals "_law_needs" = some (some (.ref f23))) (l23 : K.lookup f23 = some ⟨oc23, od23, .func (PySem.W.fnOf "_law_needs" "_law_needs" (defArgs s_law_needs) (defBody s_law_needs) (defScope s_law_needs) .none kV23 dc23 pm23 an23 cd23 ct23), sl23⟩) (c23 : PySem.W.codeIn K cd23 "_law_needs" = true) (k23 : PySem.W.keepIn K (.ref f23) = true)
    (a24 : PySem.W.nsIn K mainGlobals "_law_rule" = some (some (.ref f24))) (l24 : K.lookup f24 = some ⟨oc24, od24, .func (PySem.W.fnOf "_law_rule" "_law_rule" (defArgs s_law_rule) (defBody s_law_rule) (defScope s_law_rule) .none kV24 dc24 pm24 an24 cd24 ct24), sl24⟩) (c24 : PySem.W.codeIn K cd24 "_law_rule" = true) (k24 : PySem.W.keepIn K (.ref f24) = true)
    (a25 : PySem.W.nsIn K mainGlobals "_law_shuffled" = some (some (.ref f25))) (l25 : K.lookup f25 = some ⟨oc25, od25, .func (PySem.W.fnOf "_law_shuffled" "_law_shuffled" (defArgs s_law_shuffled) (defBody s_law_shuffled) (defScope s_law_shuffled) .none kV25 dc25 pm25 an25 cd25 ct25), sl25⟩) (c25 : PySem.W.codeIn K cd25 "_law_shuffled" = true) (k25 : PySem.W.keepIn K (.ref f25) = true)
    (a26 : PySem.W.nsIn K mainGlobals "_law_hands" = some (some (.ref f26))) (l26 : K.lookup f26 = some ⟨oc26, od26, .func (PySem.W.fnOf "_law_hands" "_law_hands" (defArgs s_law_hands) (defBody s_law_hands) (defScope s_law_hands) .none kV26 dc26 pm26 an26 cd26 ct26), sl26⟩) (c26 : PySem.W.codeIn K cd26 "_law_hands" = true) (k26 : PySem.W.keepIn K (.ref f26) = true)
    (a27 : PySem.W.nsIn K mainGlobals "_law_room" = some (some (.ref f27))) (l27 : K.lookup f27 = some ⟨oc27, od27, .func (PySem.W.fnOf "_law_room" "_law_room" (defArgs s_law_room) (defBody s_law_room) (defScope s_law_room) .none kV27 dc27 pm27 an27 cd27 ct27), sl27⟩) (c27 : PySem.W.codeIn K cd27 "_law_room" = true) (k27 : PySem.W.keepIn K (.ref f27) = true)
    (a28 : PySem.W.nsIn K mainGlobals "_law_rows" = some (some (.ref f28))) (l28 : K.lookup f28 = some ⟨oc28, od28, .func (PySem.W.fnOf "_law_rows" "_law_rows" (defArgs s_law_rows) (defBody s_law_rows) (defScope s_law_rows) .none kV28 dc28 pm28 an28 cd28 ct28), sl28⟩) (c28 : PySem.W.codeIn K cd28 "_law_rows" = true) (k28 : PySem.W.keepIn K (.ref f28) = true)
    (a29 : PySem.W.nsIn K mainGlobals "_law_any_room" = some (some (.ref f29))) (l29 : K.lookup f29 = some ⟨oc29, od29, .func (PySem.W.fnOf "_law_any_room" "_law_any_room" (defArgs s_law_any_room) (defBody s_law_any_room) (defScope s_law_any_room) .none kV29 dc29 pm29 an29 cd29 ct29), sl29⟩) (c29 : PySem.W.codeIn K cd29 "_law_any_room" = true) (k29 : PySem.W.keepIn K (.ref f29) = true)
    (a30 : PySem.W.nsIn K mainGlobals "_law_some_rows" = some (some (.ref f30))) (l30 : K.lookup f30 = some ⟨oc30, od30, .func (PySem.W.fnOf "_law_some_rows" "_law_some_rows" (defArgs s_law_some_rows) (defBody s_law_some_rows) (defScope s_law_some_rows) .none kV30 dc30 pm30 an30 cd30 ct30), sl30⟩) (c30 : PySem.W.codeIn K cd30 "_law_some_rows" = true) (k30 : PySem.W.keepIn K (.ref f30) = true)
    (a31 : PySem.W.nsIn K mainGlobals "_law_turned_room" = some (some (.ref f31))) (l31 : K.lookup f31 = some ⟨oc31, od31, .func (PySem.W.fnOf "_law_turned_room" "_law_turned_room" (defArgs s_law_turned_room) (defBody s_law_turned_room) (defScope s_law_turned_room) .none kV31 dc31 pm31 an31 cd31 ct31), sl31⟩) (c31 : PySem.W.codeIn K cd31 "_law_turned_room" = true) (k31 : PySem.W.keepIn K (.ref f31) = true)
    (a32 : PySem.W.nsIn K mainGlobals "_law_goes_on" = some (some (.ref f32))) (l32 : K.lookup f32 = some ⟨oc32, od32, .func (PySem.W.fnOf "_law_goes_on" "_law_goes_on" (defArgs s_law_goes_on) (defBody s_law_goes_on) (defScope s_law_goes_on) .none kV32 dc32 pm32 an32 cd32 ct32), sl32⟩) (c32 : PySem.W.codeIn K cd32 "_law_goes_on" = true) (k32 : PySem.W.keepIn K (.ref f32) = true)
    (a33 : PySem.W.nsIn K mainGlobals "_law_turned_right" = some (some (.ref f33))) (l33 : K.lookup f33 = some ⟨oc33, od33, .func (PySem.W.fnOf "_law_turned_right" "_law_turned_right" (defArgs s_law_turned_right) (defBody s_law_turned_right) (defScope s_law_turned_right) .none kV33 dc33 pm33 an33 cd33 ct33), sl33⟩) (c33 : PySem.W.codeIn K cd33 "_law_turned_right" = true) (k33 : PySem.W.keepIn K (.ref f33) = true)
    (a34 : PySem.W.nsIn K mainGlobals "law" = some (some (.ref f34))) (l34 : K.lookup f34 = some ⟨oc34, od34, .func (PySem.W.fnOf "law" "law" (defArgs s_law) (defBody s_law) (defScope s_law) .none kV34 dc34 pm34 an34 cd34 ct34), sl34⟩) (c34 : PySem.W.codeIn K cd34 "law" = true) (k34 : PySem.W.keepIn K (.ref f34) = true)
    (z1 : PySem.W.nsIn K mainGlobals "all" = some none)    (z2 : PySem.W.nsIn K mainGlobals "dict" = some none)    (z3 : PySem.W.nsIn K mainGlobals "enumerate" = some none)    (z4 : PySem.W.nsIn K mainGlobals "int" = some none)    (z5 : PySem.W.nsIn K mainGlobals "len" = some none)    (z6 : PySem.W.nsIn K mainGlobals "list" = some none)    (z7 : PySem.W.nsIn K mainGlobals "max" = some none)    (z8 : PySem.W.nsIn K mainGlobals "min" = some none)    (z9 : PySem.W.nsIn K mainGlobals "range" = some none)    (z10 : PySem.W.nsIn K mainGlobals "tuple" = some none)    (z11 : PySem.W.nsIn K mainGlobals "zip" = some none)
    {aI aO : Addr} {odI odO : Option Addr} {tI tO : Tok} {nI nO : Nat} {slI slO : Array (Option Value)} (gI : PySem.W.nsIn K mainGlobals "IN_RULE" = some (some (.ref aI)))
    (lI : K.lookup aI = some ⟨.type "tuple", odI, .seq #[.str "in" tI] nI, slI⟩)
    (gO : PySem.W.nsIn K mainGlobals "OUT_RULE" = some (some (.ref aO)))
    (lO : K.lookup aO = some ⟨.type "tuple", odO, .seq #[.str "out" tO] nO, slO⟩) :
    ∃ fd : FuncData, (∀ (s : Shared) (v : Value), BindsTo s fd ⟨[v], []⟩ [("_law_script", v)]) ∧ ∀ base : Heap, K.In base → base.Ns mainGlobals mg → FnOk l.prog w K mg base CX0 7 fa fd ["_law_script"] (sp_law K) := by
  have e := hfa.symm.trans (PySem.W.mg_of X G a34)
  cases e
  have F1 := fun_mk (st := s_work_order) l1 c1 k1
  have b1 := F1.binds (ps := ["room"]) fun _ _ _ _ _ _ us hl => match us, hl with | [_], _ => rfl
  have F2 := fun_mk (st := s_made_by) l2 c2 k2
  have b2 := F2.binds (ps := ["rule", "things"]) fun _ _ _ _ _ _ us hl => match us, hl with | [_, _], _ => rfl
  have F3 := fun_mk (st := s_made_of_two) l3 c3 k3
  have b3 := F3.binds (ps := ["word", "one", "other"]) fun _ _ _ _ _ _ us hl => match us, hl with | [_, _, _], _ => rfl
  have F4 := fun_mk (st := s_comings) l4 c4 k4
  have b4 := F4.binds (ps := ["room", "hand"]) fun _ _ _ _ _ _ us hl => match us, hl with | [_, _], _ => rfl
  have F5 := fun_mk (st := s_doors_in) l5 c5 k5
  have b5 := F5.binds (ps := ["room"]) fun _ _ _ _ _ _ us hl => match us, hl with | [_], _ => rfl
  have F6 := fun_mk (st := s_doors_out) l6 c6 k6
  have b6 := F6.binds (ps := ["room"]) fun _ _ _ _ _ _ us hl => match us, hl with | [_], _ => rfl
  have F7 := fun_mk (st := s_run) l7 c7 k7
  have b7 := F7.binds (ps := ["room", "rows"]) fun _ _ _ _ _ _ us hl => match us, hl with | [_, _], _ => rfl
  have F8 := fun_mk (st := s_worked) l8 c8 k8
  have b8 := F8.binds (ps := ["room", "rows"]) fun _ _ _ _ _ _ us hl => match us, hl with | [_, _], _ => rfl
  have F9 := fun_mk (st := s_standing) l9 c9 k9
  have b9 := F9.binds (ps := ["room", "rows"]) fun _ _ _ _ _ _ us hl => match us, hl with | [_, _], _ => rfl
  have F10 := fun_mk (st := s_picked) l10 c10 k10
  have b10 := F10.binds (ps := ["made", "doors"]) fun _ _ _ _ _ _ us hl => match us, hl with | [_, _], _ => rfl
  have F11 := fun_mk (st := s_work_plan) l11 c11 k11
  have b11 := F11.binds (ps := ["room"]) fun _ _ _ _ _ _ us hl => match us, hl with | [_], _ => rfl
  have F12 := fun_mk (st := s_made_at_bell) l12 c12 k12
  have b12 := F12.binds (ps := ["room", "plan", "things"]) fun _ _ _ _ _ _ us hl => match us, hl with | [_, _, _], _ => rfl
  have F13 := fun_mk (st := s_thing_taken) l13 c13 k13
  have b13 := F13.binds (ps := ["belt", "made"]) fun _ _ _ _ _ _ us hl => match us, hl with | [_, _], _ => rfl
  have F14 := fun_mk (st := s_behind_bell) l14 c14 k14
  have b14 := F14.binds (ps := ["room", "made"]) fun _ _ _ _ _ _ us hl => match us, hl with | [_, _], _ => rfl
  have F15 := fun_mk (st := s_belt_behind_bell) l15 c15 k15
  have b15 := F15.binds (ps := ["belt", "made"]) fun _ _ _ _ _ _ us hl => match us, hl with | [_, _], _ => rfl
  have F16 := fun_mk (st := s_Run___init__) l16 c16 k16
  have b16 := F16.binds (ps := ["self", "room"]) fun _ _ _ _ _ _ us hl => match us, hl with | [_, _], _ => rfl
  have F17 := fun_mk (st := s_Run_bell) l17 c17 k17
  have b17 := F17.binds (ps := ["self", "things"]) fun _ _ _ _ _ _ us hl => match us, hl with | [_, _], _ => rfl
  have F18 := fun_mk (st := s_Run_bells) l18 c18 k18
  have b18 := F18.binds (ps := ["self"]) fun _ _ _ _ _ _ us hl => match us, hl with | [_], _ => rfl
  have F19 := fun_mk (st := s_Run_room) l19 c19 k19
  have b19 := F19.binds (ps := ["self"]) fun _ _ _ _ _ _ us hl => match us, hl with | [_], _ => rfl
  have F20 := fun_mk (st := s_law_flow) l20 c20 k20
  have b20 := F20.binds (ps := ["_law_script"]) fun _ _ _ _ _ _ us hl => match us, hl with | [_], _ => rfl
  have F21 := fun_mk (st := s_law_pick) l21 c21 k21
  have b21 := F21.binds (ps := ["_law_flow_here", "_law_many"]) fun _ _ _ _ _ _ us hl => match us, hl with | [_, _], _ => rfl
  have F22 := fun_mk (st := s_law_thing) l22 c22 k22
  have b22 := F22.binds (ps := ["_law_flow_here"]) fun _ _ _ _ _ _ us hl => match us, hl with | [_], _ => rfl
  have F23 := fun_mk (st := s_law_needs) l23 c23 k23
  have b23 := F23.binds (ps := ["_law_rule_here"]) fun _ _ _ _ _ _ us hl => match us, hl with | [_], _ => rfl
  have F24 := fun_mk (st := s_law_rule) l24 c24 k24
  have b24 := F24.binds (ps := ["_law_flow_here", "_law_most"]) fun _ _ _ _ _ _ us hl => match us, hl with | [_, _], _ => rfl
  have F25 := fun_mk (st := s_law_shuffled) l25 c25 k25
  have b25 := F25.binds (ps := ["_law_flow_here", "_law_some"]) fun _ _ _ _ _ _ us hl => match us, hl with | [_, _], _ => rfl
  have F26 := fun_mk (st := s_law_hands) l26 c26 k26
  have b26 := F26.binds (ps := ["_law_flow_here", "_law_many"]) fun _ _ _ _ _ _ us hl => match us, hl with | [_, _], _ => rfl
  have F27 := fun_mk (st := s_law_room) l27 c27 k27
  have b27 := F27.binds (ps := ["_law_flow_here", "_law_most"]) fun _ _ _ _ _ _ us hl => match us, hl with | [_, _], _ => rfl
  have F28 := fun_mk (st := s_law_rows) l28 c28 k28
  have b28 := F28.binds (ps := ["_law_flow_here", "_law_room_here", "_law_many"]) fun _ _ _ _ _ _ us hl => match us, hl with | [_, _, _], _ => rfl
  have F29 := fun_mk (st := s_law_any_room) l29 c29 k29
  have b29 := F29.binds (ps := ["_law_flow_here"]) fun _ _ _ _ _ _ us hl => match us, hl with | [_], _ => rfl
  have F30 := fun_mk (st := s_law_some_rows) l30 c30 k30
  have b30 := F30.binds (ps := ["_law_flow_here", "_law_room_here"]) fun _ _ _ _ _ _ us hl => match us, hl with | [_, _], _ => rfl
  have F31 := fun_mk (st := s_law_turned_room) l31 c31 k31
  have b31 := F31.binds (ps := ["_law_flow_here", "_law_room_here"]) fun _ _ _ _ _ _ us hl => match us, hl with | [_, _], _ => rfl
  have F32 := fun_mk (st := s_law_goes_on) l32 c32 k32
  have b32 := F32.binds (ps := ["_law_room_here", "_law_first", "_law_rest"]) fun _ _ _ _ _ _ us hl => match us, hl with | [_, _, _], _ => rfl
  have F33 := fun_mk (st := s_law_turned_right) l33 c33 k33
  have b33 := F33.binds (ps := ["_law_room_here", "_law_rows_here", "_law_turned", "_law_order"]) fun _ _ _ _ _ _ us hl => match us, hl with | [_, _, _, _], _ => rfl
  have F34 := fun_mk (st := s_law) l34 c34 k34
  have T : Top K mg C := ⟨⟨f1, _, F1, b1, PySem.W.mg_of X G a1⟩, ⟨f2, _, F2, b2, PySem.W.mg_of X G a2⟩, ⟨f3, _, F3, b3, PySem.W.mg_of X G a3⟩, ⟨f4, _, F4, b4, PySem.W.mg_of X G a4⟩, ⟨f5, _, F5, b5, PySem.W.mg_of X G a5⟩, ⟨f6, _, F6, b6, PySem.W.mg_of X G a6⟩, ⟨f7, _, F7, b7, PySem.W.mg_of X G a7⟩, ⟨f8, _, F8, b8, PySem.W.mg_of X G a8⟩, ⟨f9, _, F9, b9, PySem.W.mg_of X G a9⟩, ⟨f10, _, F10, b10, PySem.W.mg_of X G a10⟩, ⟨f11, _, F11, b11, PySem.W.mg_of X G a11⟩, ⟨f12, _, F12, b12, PySem.W.mg_of X G a12⟩, ⟨f13, _, F13, b13, PySem.W.mg_of X G a13⟩, ⟨f14, _, F14, b14, PySem.W.mg_of X G a14⟩, ⟨f15, _, F15, b15, PySem.W.mg_of X G a15⟩, ⟨f16, _, F16, b16, ⟨mk, a16, i16, kc⟩⟩, ⟨f17, _, F17, b17, ⟨a17, i17, k17⟩⟩, ⟨f18, _, F18, b18, ⟨a18, i18, k18⟩⟩, ⟨f19, _, F19, b19, ⟨a19, i19, k19⟩⟩, ⟨f20, _, F20, b20, PySem.W.mg_of X G a20⟩, ⟨f21, _, F21, b21, PySem.W.mg_of X G a21⟩, ⟨f22, _, F22, b22, PySem.W.mg_of X G a22⟩, ⟨f23, _, F23, b23, PySem.W.mg_of X G a23⟩, ⟨f24, _, F24, b24, PySem.W.mg_of X G a24⟩, ⟨f25, _, F25, b25, PySem.W.mg_of X G a25⟩, ⟨f26, _, F26, b26, PySem.W.mg_of X G a26⟩, ⟨f27, _, F27, b27, PySem.W.mg_of X G a27⟩, ⟨f28, _, F28, b28, PySem.W.mg_of X G a28⟩, ⟨f29, _, F29, b29, PySem.W.mg_of X G a29⟩, ⟨f30, _, F30, b30, PySem.W.mg_of X G a30⟩, ⟨f31, _, F31, b31, PySem.W.mg_of X G a31⟩, ⟨f32, _, F32, b32, PySem.W.mg_of X G a32⟩, ⟨f33, _, F33, b33, PySem.W.mg_of X G a33⟩, PySem.W.mg_none_of X G z1, PySem.W.mg_none_of X G z2, PySem.W.mg_none_of X G z3, PySem.W.mg_none_of X G z4, PySem.W.mg_none_of X G z5, PySem.W.mg_none_of X G z6, PySem.W.mg_none_of X G z7, PySem.W.mg_none_of X G z8, PySem.W.mg_none_of X G z9, PySem.W.mg_none_of X G z10, PySem.W.mg_none_of X G z11, ⟨aI, PySem.W.mg_of X G gI, one_at lI⟩, ⟨aO, PySem.W.mg_of X G gO, one_at lO⟩, ⟨pg, hd, po, sa⟩, PySem.W.mg_of X G aC, nf_stands, nf_plan, nf_doors, nf_many⟩
  exact ⟨PySem.W.fnOf "law" "law" (defArgs s_law) (defBody s_law) (defScope s_law) .none kV34 dc34 pm34 an34 cd34 ct34, fun s v => .of_eq rfl, fun base _ _ => ok_law F34 T⟩
end Mine
open PySem PySem.W PyProof.Rows
set_option maxRecDepth 100000 in
set_option maxHeartbeats 0 in
theorem PySem.Challenge.cw_beltshift_k17_whole_goes_on_as_it_would_holds : PySem.Challenge.rw_beltshift_k17_whole_goes_on_as_it_would.Holds := by
  w_on; o_law; k_head; (case hw => w_witness2)
  k_fill
  refine L2.walk_of (l := PySem.Challenge.rw_beltshift_k17_whole_goes_on_as_it_would) (n := 63) (k := 7) (x := "_law_script") (CX := fun _ => L2.CX0) (sp := fun w => Mine.sp_law _) rfl (by decide) rfl ⟨rfl, by decide, by decide⟩ (fun w h Y => PySem.W.kIn_of Y) ?F (fun _ _ a ns hl _ hS => ⟨a, ns, rfl, hS, hl, fun _ => rfl⟩) (fun _ _ _ _ _ h => h)
  case F =>
    intro w mg fa h KX G hmg
    refine' Mine.all_mk KX G hmg ?aC ?pg ?hd ?po ?sa ?mk ?kc ?nf_stands ?nf_plan ?nf_doors ?nf_many ?a1 ?l1 ?c1 ?k1 ?a2 ?l2 ?c2 ?k2 ?a3 ?l3 ?c3 ?k3 ?a4 ?l4 ?c4 ?k4 ?a5 ?l5 ?c5 ?k5 ?a6 ?l6 ?c6 ?k6 ?a7 ?l7 ?c7 ?k7 ?a8 ?l8 ?c8 ?k8 ?a9 ?l9 ?c9 ?k9 ?a10 ?l10 ?c10 ?k10 ?a11 ?l11 ?c11 ?k11 ?a12 ?l12 ?c12 ?k12 ?a13 ?l13 ?c13 ?k13 ?a14 ?l14 ?c14 ?k14 ?a15 ?l15 ?c15 ?k15 ?a16 ?i16 ?l16 ?c16 ?k16 ?a17 ?i17 ?l17 ?c17 ?k17 ?a18 ?i18 ?l18 ?c18 ?k18 ?a19 ?i19 ?l19 ?c19 ?k19 ?a20 ?l20 ?c20 ?k20 ?a21 ?l21 ?c21 ?k21 ?a22 ?l22 ?c22 ?k22 ?a23 ?l23 ?c23 ?k23 ?a24 ?l24 ?c24 ?k24 ?a25 ?l25 ?c25 ?k25 ?a26 ?l26 ?c26 ?k26 ?a27 ?l27 ?c27 ?k27 ?a28 ?l28 ?c28 ?k28 ?a29 ?l29 ?c29 ?k29 ?a30 ?l30 ?c30 ?k30 ?a31 ?l31 ?c31 ?k31 ?a32 ?l32 ?c32 ?k32 ?a33 ?l33 ?c33 ?k33 ?a34 ?l34 ?c34 ?k34 ?z1 ?z2 ?z3 ?z4 ?z5 ?z6 ?z7 ?z8 ?z9 ?z10 ?z11 ?gI ?lI ?gO ?lO
    (case aC => k_is)
    (case pg => k_is)
    (case hd => k_is)
    (case po => k_is)
    (case sa => k_is)
    (case mk => k_is)
    (case kc => k_is)
    (case nf_stands => k_is)
    (case nf_plan => k_is)
    (case nf_doors => k_is)
    (case nf_many => k_is)
    (case a1 => k_is)
    (case l1 => k_is)
    (case c1 => k_is)
    (case k1 => k_is)
    (case a2 => k_is)
    (case l2 => k_is)
    (case c2 => k_is)
    (case k2 => k_is)
    (case a3 => k_is)
    (case l3 => k_is)
    (case c3 => k_is)
    (case k3 => k_is)
    (case a4 => k_is)
    (case l4 => k_is)
    (case c4 => k_is)
    (case k4 => k_is)
    (case a5 => k_is)
    (case l5 => k_is)
    (case c5 => k_is)
    (case k5 => k_is)
    (case a6 => k_is)
    (case l6 => k_is)
    (case c6 => k_is)
    (case k6 => k_is)
    (case a7 => k_is)
    (case l7 => k_is)
    (case c7 => k_is)
    (case k7 => k_is)
    (case a8 => k_is)
    (case l8 => k_is)
    (case c8 => k_is)
    (case k8 => k_is)
    (case a9 => k_is)
    (case l9 => k_is)
    (case c9 => k_is)
    (case k9 => k_is)
    (case a10 => k_is)
    (case l10 => k_is)
    (case c10 => k_is)
    (case k10 => k_is)
    (case a11 => k_is)
    (case l11 => k_is)
    (case c11 => k_is)
    (case k11 => k_is)
    (case a12 => k_is)
    (case l12 => k_is)
    (case c12 => k_is)
    (case k12 => k_is)
    (case a13 => k_is)
    (case l13 => k_is)
    (case c13 => k_is)
    (case k13 => k_is)
    (case a14 => k_is)
    (case l14 => k_is)
    (case c14 => k_is)
    (case k14 => k_is)
    (case a15 => k_is)
    (case l15 => k_is)
    (case c15 => k_is)
    (case k15 => k_is)
    (case a16 => k_is)
    (case i16 => k_is)
    (case l16 => k_is)
    (case c16 => k_is)
    (case k16 => k_is)
    (case a17 => k_is)
    (case i17 => k_is)
    (case l17 => k_is)
    (case c17 => k_is)
    (case k17 => k_is)
    (case a18 => k_is)
    (case i18 => k_is)
    (case l18 => k_is)
    (case c18 => k_is)
    (case k18 => k_is)
    (case a19 => k_is)
    (case i19 => k_is)
    (case l19 => k_is)
    (case c19 => k_is)
    (case k19 => k_is)
    (case a20 => k_is)
    (case l20 => k_is)
    (case c20 => k_is)
    (case k20 => k_is)
    (case a21 => k_is)
    (case l21 => k_is)
    (case c21 => k_is)
    (case k21 => k_is)
    (case a22 => k_is)
    (case l22 => k_is)
    (case c22 => k_is)
    (case k22 => k_is)
    (case a23 => k_is)
    (case l23 => k_is)
    (case c23 => k_is)
    (case k23 => k_is)
    (case a24 => k_is)
    (case l24 => k_is)
    (case c24 => k_is)
    (case k24 => k_is)
    (case a25 => k_is)
    (case l25 => k_is)
    (case c25 => k_is)
    (case k25 => k_is)
    (case a26 => k_is)
    (case l26 => k_is)
    (case c26 => k_is)
    (case k26 => k_is)
    (case a27 => k_is)
    (case l27 => k_is)
    (case c27 => k_is)
    (case k27 => k_is)
    (case a28 => k_is)
    (case l28 => k_is)
    (case c28 => k_is)
    (case k28 => k_is)
    (case a29 => k_is)
    (case l29 => k_is)
    (case c29 => k_is)
    (case k29 => k_is)
    (case a30 => k_is)
    (case l30 => k_is)
    (case c30 => k_is)
    (case k30 => k_is)
    (case a31 => k_is)
    (case l31 => k_is)
    (case c31 => k_is)
    (case k31 => k_is)
    (case a32 => k_is)
    (case l32 => k_is)
    (case c32 => k_is)
    (case k32 => k_is)
    (case a33 => k_is)
    (case l33 => k_is)
    (case c33 => k_is)
    (case k33 => k_is)
    (case a34 => k_is)
    (case l34 => k_is)
    (case c34 => k_is)
    (case k34 => k_is)
    (case z1 => k_is)
    (case z2 => k_is)
    (case z3 => k_is)
    (case z4 => k_is)
    (case z5 => k_is)
    (case z6 => k_is)
    (case z7 => k_is)
    (case z8 => k_is)
    (case z9 => k_is)
    (case z10 => k_is)
    (case z11 => k_is)
    (case gI => k_is)
    (case lI => k_is)
    (case gO => k_is)
    (case lO => k_is)

