import PyProof.Rows.All
import Wide.All
import OpenK.AllK
import Wide.FinOn
import HandS.ForMost
import HandS.Wide
import HandS.Style
import HandS.IsInst
import HandS.TupAny
import HandS.NoneIn
import HandS.SetFor
import HandS.Conv
import HandS.Zip
import HandS.SortKw
import HandS.Deep
import KE.DataMinMax
import KE.GoesMore
import KE.KDictZip
import KE.GoesZip
import KE.GoesEnum
import HandS.AnyAll
import HandS.Words
import HandS.EndTab
import HandS.HeadWalk
import HandS.Defaults
import HandS.Head0
import HandS.Head1
import HandS.Head2
import HandS.HeadEnd
import HandS.HeadHook1
import HandS.HeadHook2
import HandS.HeadHook3
import HandS.HeadHook4
import KE.KStateDown
import KE.KIsAll
import KE.KNestM
import PyProof.GenCompD
import PyProof.WalksMore
import PySem.Challenge.RW_beltshift_k38_shifts_that_reach_a_time
import HandS.TupMul
import HandS.Lambda
import KE.KLam
import KE.DataMinKey
import HandS.TryOnly
import HandS.ExcInit
import HandS.WordsExc
import HandS.ExcIs
import HandS.ExcField
import HandS.ExcOwn
set_option Elab.async false
set_option linter.all false
set_option maxRecDepth 100000
namespace Mine
open PySem PyProof.Rows L2
def topS (i : Nat) : Stmt := PySem.Challenge.pw_beltshift_k38_shifts_that_reach_a_time.main.body.getD i (.Pass ⟨0, 0, 0, 0⟩)
abbrev s_is_whole : Stmt := topS 4
abbrev N_is_whole : List Str := ["thing"]
theorem sc_is_whole : FnScope N_is_whole ["thing"] (defScope s_is_whole) := ⟨rfl, rfl, rfl, by decide +kernel, rfl, by decide +kernel, by decide +kernel⟩
abbrev s_comings : Stmt := topS 8
abbrev N_comings : List Str := ["room", "hand", "number", "belt"]
theorem sc_comings : FnScope N_comings ["room", "hand"] (defScope s_comings) := ⟨rfl, rfl, rfl, by decide +kernel, rfl, by decide +kernel, by decide +kernel⟩
abbrev s_doors_in : Stmt := topS 9
abbrev N_doors_in : List Str := ["room", "number", "hand"]
theorem sc_doors_in : FnScope N_doors_in ["room"] (defScope s_doors_in) := ⟨rfl, rfl, rfl, by decide +kernel, rfl, by decide +kernel, by decide +kernel⟩
abbrev s_doors_out : Stmt := topS 10
abbrev N_doors_out : List Str := ["room", "number", "hand"]
theorem sc_doors_out : FnScope N_doors_out ["room"] (defScope s_doors_out) := ⟨rfl, rfl, rfl, by decide +kernel, rfl, by decide +kernel, by decide +kernel⟩
abbrev s_look_shifts : Stmt := topS 12
abbrev N_look_shifts : List Str := ["room", "late", "shifts"]
theorem sc_look_shifts : FnScope N_look_shifts ["room", "late", "shifts"] (defScope s_look_shifts) := ⟨rfl, rfl, rfl, by decide +kernel, rfl, by decide +kernel, by decide +kernel⟩
abbrev s_refuse_shifts : Stmt := topS 13
abbrev N_refuse_shifts : List Str := ["word", "at"]
theorem sc_refuse_shifts : FnScope N_refuse_shifts ["word", "at"] (defScope s_refuse_shifts) := ⟨rfl, rfl, rfl, by decide +kernel, rfl, by decide +kernel, by decide +kernel⟩
abbrev s_is_shifts : Stmt := topS 14
abbrev N_is_shifts : List Str := ["room", "thing", "shift"]
theorem sc_is_shifts : FnScope N_is_shifts ["room", "thing"] (defScope s_is_shifts) := ⟨rfl, rfl, rfl, by decide +kernel, rfl, by decide +kernel, by decide +kernel⟩
abbrev s_wrong_door : Stmt := topS 15
abbrev N_wrong_door : List Str := ["room", "late", "shifts", "wrong", "door"]
theorem sc_wrong_door : FnScope N_wrong_door ["room", "late", "shifts"] (defScope s_wrong_door) := ⟨rfl, rfl, rfl, by decide +kernel, rfl, by decide +kernel, by decide +kernel⟩
abbrev s_short_belt : Stmt := topS 16
abbrev N_short_belt : List Str := ["room", "shifts", "number", "trays"]
theorem sc_short_belt : FnScope N_short_belt ["room", "shifts"] (defScope s_short_belt) := ⟨rfl, rfl, rfl, by decide +kernel, rfl, by decide +kernel, by decide +kernel⟩
abbrev s_trays_moved : Stmt := topS 17
abbrev N_trays_moved : List Str := ["room", "shifts", "giver", "taker", "things"]
theorem sc_trays_moved : FnScope N_trays_moved ["room", "shifts"] (defScope s_trays_moved) := ⟨rfl, rfl, rfl, by decide +kernel, rfl, by decide +kernel, by decide +kernel⟩
abbrev s_work_order : Stmt := topS 19
abbrev N_work_order : List Str := ["room", "hands", "belts", "loose", "giver", "taker", "things", "owed", "left", "order", "ready", "hand"]
theorem sc_work_order : FnScope N_work_order ["room"] (defScope s_work_order) := ⟨rfl, rfl, rfl, by decide +kernel, rfl, by decide +kernel, by decide +kernel⟩
abbrev s_moments_on : Stmt := topS 21
abbrev N_moments_on : List Str := ["room", "way", "hands", "belts", "first", "numbers", "number"]
theorem sc_moments_on : FnScope N_moments_on ["room", "way"] (defScope s_moments_on) := ⟨rfl, rfl, rfl, by decide +kernel, rfl, by decide +kernel, by decide +kernel⟩
abbrev s_time_of : Stmt := topS 22
abbrev N_time_of : List Str := ["room", "way"]
theorem sc_time_of : FnScope N_time_of ["room"] (defScope s_time_of) := ⟨rfl, rfl, rfl, by decide +kernel, rfl, by decide +kernel, by decide +kernel⟩
abbrev s_long_way : Stmt := topS 23
abbrev N_long_way : List Str := ["room", "sums", "last", "end"]
theorem sc_long_way : FnScope N_long_way ["room"] (defScope s_long_way) := ⟨rfl, rfl, rfl, by decide +kernel, rfl, by decide +kernel, by decide +kernel⟩
abbrev s_long_sums : Stmt := topS 24
abbrev N_long_sums : List Str := ["room", "hands", "belts", "sums", "last", "hand", "number", "giver", "taker", "things"]
theorem sc_long_sums : FnScope N_long_sums ["room"] (defScope s_long_sums) := ⟨rfl, rfl, rfl, by decide +kernel, rfl, by decide +kernel, by decide +kernel⟩
abbrev s_way_back : Stmt := topS 25
abbrev N_way_back : List Str := ["room", "end", "last", "numbers", "hand"]
theorem sc_way_back : FnScope N_way_back ["room", "end", "last"] (defScope s_way_back) := ⟨rfl, rfl, rfl, by decide +kernel, rfl, by decide +kernel, by decide +kernel⟩
abbrev s_shifts_hold : Stmt := topS 27
abbrev N_shifts_hold : List Str := ["room", "late", "time", "shifts", "told"]
theorem sc_shifts_hold : FnScope N_shifts_hold ["room", "late", "time", "shifts"] (defScope s_shifts_hold) := ⟨rfl, rfl, rfl, by decide +kernel, rfl, by decide +kernel, by decide +kernel⟩
abbrev s_own_late : Stmt := topS 28
abbrev N_own_late : List Str := ["room", "shifts", "doors"]
theorem sc_own_late : FnScope N_own_late ["room", "shifts"] (defScope s_own_late) := ⟨rfl, rfl, rfl, by decide +kernel, rfl, by decide +kernel, by decide +kernel⟩
abbrev s_with_trays : Stmt := topS 29
abbrev N_with_trays : List Str := ["room", "trays", "hands", "belts", "changed", "giver", "taker", "things", "many"]
theorem sc_with_trays : FnScope N_with_trays ["room", "trays"] (defScope s_with_trays) := ⟨rfl, rfl, rfl, by decide +kernel, rfl, by decide +kernel, by decide +kernel⟩
abbrev s_law_flow : Stmt := topS 31
abbrev N_law_flow : List Str := ["_law_script"]
theorem sc_law_flow : FnScope N_law_flow ["_law_script"] (defScope s_law_flow) := ⟨rfl, rfl, rfl, by decide +kernel, rfl, by decide +kernel, by decide +kernel⟩
abbrev s_law_pick : Stmt := topS 32
abbrev N_law_pick : List Str := ["_law_flow_here", "_law_many", "_law_cell", "_law_digit"]
theorem sc_law_pick : FnScope N_law_pick ["_law_flow_here", "_law_many"] (defScope s_law_pick) := ⟨rfl, rfl, rfl, by decide +kernel, rfl, by decide +kernel, by decide +kernel⟩
abbrev s_law_thing : Stmt := topS 33
abbrev N_law_thing : List Str := ["_law_flow_here"]
theorem sc_law_thing : FnScope N_law_thing ["_law_flow_here"] (defScope s_law_thing) := ⟨rfl, rfl, rfl, by decide +kernel, rfl, by decide +kernel, by decide +kernel⟩
abbrev s_law_needs : Stmt := topS 34
abbrev N_law_needs : List Str := ["_law_rule_here"]
theorem sc_law_needs : FnScope N_law_needs ["_law_rule_here"] (defScope s_law_needs) := ⟨rfl, rfl, rfl, by decide +kernel, rfl, by decide +kernel, by decide +kernel⟩
abbrev s_law_rule : Stmt := topS 35
abbrev N_law_rule : List Str := ["_law_flow_here", "_law_most", "_law_words", "_law_word"]
theorem sc_law_rule : FnScope N_law_rule ["_law_flow_here", "_law_most"] (defScope s_law_rule) := ⟨rfl, rfl, rfl, by decide +kernel, rfl, by decide +kernel, by decide +kernel⟩
abbrev s_law_shuffled : Stmt := topS 36
abbrev N_law_shuffled : List Str := ["_law_flow_here", "_law_some", "_law_left", "_law_k"]
theorem sc_law_shuffled : FnScope N_law_shuffled ["_law_flow_here", "_law_some"] (defScope s_law_shuffled) := ⟨rfl, rfl, rfl, by decide +kernel, rfl, by decide +kernel, by decide +kernel⟩
abbrev s_law_hands : Stmt := topS 37
abbrev N_law_hands : List Str := ["_law_flow_here", "_law_many", "_law_most", "_law_sorts", "_law_left", "_law_hands_here", "_law_k", "_law_sort", "_law_behind", "_law_other", "_law_rule_here"]
theorem sc_law_hands : FnScope N_law_hands ["_law_flow_here", "_law_many"] (defScope s_law_hands) := ⟨rfl, rfl, rfl, by decide +kernel, rfl, by decide +kernel, by decide +kernel⟩
abbrev s_law_room : Stmt := topS 38
abbrev N_law_room : List Str := ["_law_flow_here", "_law_most", "_law_hands_here", "_law_ranks", "_law_givers", "_law_k", "_law_takers", "_law_belts", "_law_to", "_law_one", "_law_trays_here"]
theorem sc_law_room : FnScope N_law_room ["_law_flow_here", "_law_most"] (defScope s_law_room) := ⟨rfl, rfl, rfl, by decide +kernel, rfl, by decide +kernel, by decide +kernel⟩
abbrev s_law_trays : Stmt := topS 39
abbrev N_law_trays : List Str := ["_law_room_here", "_law_shifts_here", "_law_one", "_law_to", "_law_things"]
theorem sc_law_trays : FnScope N_law_trays ["_law_room_here", "_law_shifts_here"] (defScope s_law_trays) := ⟨rfl, rfl, rfl, by decide +kernel, rfl, by decide +kernel, by decide +kernel⟩
abbrev s_law_shifts : Stmt := topS 40
abbrev N_law_shifts : List Str := ["_law_flow_here", "_law_room_here", "_law_late_here", "_law_many", "_law_hands_here", "_law_found", "_law_hand", "_law_free", "_law_k", "_law_turn", "_law_step", "_law_tried"]
theorem sc_law_shifts : FnScope N_law_shifts ["_law_flow_here", "_law_room_here", "_law_late_here", "_law_many"] (defScope s_law_shifts) := ⟨rfl, rfl, rfl, by decide +kernel, rfl, by decide +kernel, by decide +kernel⟩
abbrev s_law_time_of : Stmt := topS 41
abbrev N_law_time_of : List Str := ["_law_room_here", "_law_trays_here", "_law_hands_here", "_law_belts", "_law_best", "_law_hand", "_law_turn", "_law_belt", "_law_many"]
theorem sc_law_time_of : FnScope N_law_time_of ["_law_room_here", "_law_trays_here"] (defScope s_law_time_of) := ⟨rfl, rfl, rfl, by decide +kernel, rfl, by decide +kernel, by decide +kernel⟩
abbrev s_law_let_by : Stmt := topS 42
abbrev N_law_let_by : List Str := ["_law_room_here", "_law_late_here", "_law_shifts_here", "_law_outs", "_law_k", "_law_ins", "_law_meant", "_law_one"]
theorem sc_law_let_by : FnScope N_law_let_by ["_law_room_here", "_law_late_here", "_law_shifts_here"] (defScope s_law_let_by) := ⟨rfl, rfl, rfl, by decide +kernel, rfl, by decide +kernel, by decide +kernel⟩
abbrev s_law_reach : Stmt := topS 43
abbrev N_law_reach : List Str := ["_law_room_here", "_law_late_here", "_law_time", "_law_shifts_here"]
theorem sc_law_reach : FnScope N_law_reach ["_law_room_here", "_law_late_here", "_law_time", "_law_shifts_here"] (defScope s_law_reach) := ⟨rfl, rfl, rfl, by decide +kernel, rfl, by decide +kernel, by decide +kernel⟩
abbrev s_law_late : Stmt := topS 44
abbrev N_law_late : List Str := ["_law_flow_here"]
theorem sc_law_late : FnScope N_law_late ["_law_flow_here"] (defScope s_law_late) := ⟨rfl, rfl, rfl, by decide +kernel, rfl, by decide +kernel, by decide +kernel⟩
abbrev s_law : Stmt := topS 45
abbrev N_law : List Str := ["_law_script", "_law_flow_here", "_law_wrong", "_law_form", "_law_room_here", "_law_late_here", "_law_meant", "_law_shifts_here", "_law_turn", "_law_k", "_law_other", "_law_least", "_law_time", "_law_told", "_law_alike", "_law_hand"]
theorem sc_law : FnScope N_law ["_law_script"] (defScope s_law) := ⟨rfl, rfl, rfl, by decide +kernel, rfl, by decide +kernel, by decide +kernel⟩

/-- a def of the text stands, binds and is bound -/
def Dd (K : PySem.W.Frag) (mg : Str → Option Value) (name : Str) (st : Stmt) (ps : List Str) : Prop :=
  ∃ (f : Addr) (fd : FuncData), Fun K name name st f fd ∧ Binds K fd ps [] ∧ mg name = some (.ref f)
/-! ### an own error with fields -/
abbrev s_NoShift_init : Stmt := inClass (topS 2) 0
abbrev N_NoShift_init : List Str := ["self", "word", "at"]
theorem sc_NoShift_init : FnScope N_NoShift_init ["self", "word", "at"] (defScope s_NoShift_init) := ⟨rfl, rfl, rfl, by decide +kernel, rfl, by decide +kernel, by decide +kernel⟩
structure NsC (K : PySem.W.Frag) (mg : Str → Option Value) (C CB fI : Addr) (fd : FuncData) : Prop where
  gC : mg "NoShift" = some (.ref C)
  gB : mg "BeltError" = some (.ref CB)
  T : OexC K C
  nw : PySem.W.findIn K (.ref C) "word" = some none
  na : PySem.W.findIn K (.ref C) "at" = some none
  iC : PySem.W.findIn K (.ref C) "__init__" = some (some (.ref fI))
  tI : PySem.W.typeIn K (.ref fI) = some (.type "function")
  F : Fun K "__init__" "NoShift.__init__" s_NoShift_init fI fd
  b : Binds K fd ["self", "word", "at"] []
  te : PySem.W.exmOne K (.ref C) (.ref C) = some true
  xf : XfC K C
  is_ : ExcC K C
  k1 : PySem.W.kitOne K (.ref C) (.ref C) = some true
  k2 : PySem.W.kitOne K (.ref C) (.type "ValueError") = some true
structure Top (K : PySem.W.Frag) (mg : Str → Option Value) : Prop where
  d_is_whole : Dd K mg "is_whole" s_is_whole ["thing"]
  d_comings : Dd K mg "comings" s_comings ["room", "hand"]
  d_doors_in : Dd K mg "doors_in" s_doors_in ["room"]
  d_doors_out : Dd K mg "doors_out" s_doors_out ["room"]
  d_look_shifts : Dd K mg "look_shifts" s_look_shifts ["room", "late", "shifts"]
  d_refuse_shifts : Dd K mg "refuse_shifts" s_refuse_shifts ["word", "at"]
  d_is_shifts : Dd K mg "is_shifts" s_is_shifts ["room", "thing"]
  d_wrong_door : Dd K mg "wrong_door" s_wrong_door ["room", "late", "shifts"]
  d_short_belt : Dd K mg "short_belt" s_short_belt ["room", "shifts"]
  d_trays_moved : Dd K mg "trays_moved" s_trays_moved ["room", "shifts"]
  d_work_order : Dd K mg "work_order" s_work_order ["room"]
  d_moments_on : Dd K mg "moments_on" s_moments_on ["room", "way"]
  d_time_of : Dd K mg "time_of" s_time_of ["room"]
  d_long_way : Dd K mg "long_way" s_long_way ["room"]
  d_long_sums : Dd K mg "long_sums" s_long_sums ["room"]
  d_way_back : Dd K mg "way_back" s_way_back ["room", "end", "last"]
  d_shifts_hold : Dd K mg "shifts_hold" s_shifts_hold ["room", "late", "time", "shifts"]
  d_own_late : Dd K mg "own_late" s_own_late ["room", "shifts"]
  d_with_trays : Dd K mg "with_trays" s_with_trays ["room", "trays"]
  d_law_flow : Dd K mg "_law_flow" s_law_flow ["_law_script"]
  d_law_pick : Dd K mg "_law_pick" s_law_pick ["_law_flow_here", "_law_many"]
  d_law_thing : Dd K mg "_law_thing" s_law_thing ["_law_flow_here"]
  d_law_needs : Dd K mg "_law_needs" s_law_needs ["_law_rule_here"]
  d_law_rule : Dd K mg "_law_rule" s_law_rule ["_law_flow_here", "_law_most"]
  d_law_shuffled : Dd K mg "_law_shuffled" s_law_shuffled ["_law_flow_here", "_law_some"]
  d_law_hands : Dd K mg "_law_hands" s_law_hands ["_law_flow_here", "_law_many"]
  d_law_room : Dd K mg "_law_room" s_law_room ["_law_flow_here", "_law_most"]
  d_law_trays : Dd K mg "_law_trays" s_law_trays ["_law_room_here", "_law_shifts_here"]
  d_law_shifts : Dd K mg "_law_shifts" s_law_shifts ["_law_flow_here", "_law_room_here", "_law_late_here", "_law_many"]
  d_law_time_of : Dd K mg "_law_time_of" s_law_time_of ["_law_room_here", "_law_trays_here"]
  d_law_let_by : Dd K mg "_law_let_by" s_law_let_by ["_law_room_here", "_law_late_here", "_law_shifts_here"]
  d_law_reach : Dd K mg "_law_reach" s_law_reach ["_law_room_here", "_law_late_here", "_law_time", "_law_shifts_here"]
  d_law_late : Dd K mg "_law_late" s_law_late ["_law_flow_here"]
  m_abs : mg "abs" = none
  m_all : mg "all" = none
  m_any : mg "any" = none
  m_bool : mg "bool" = none
  m_enumerate : mg "enumerate" = none
  m_int : mg "int" = none
  m_isinstance : mg "isinstance" = none
  m_len : mg "len" = none
  m_list : mg "list" = none
  m_max : mg "max" = none
  m_min : mg "min" = none
  m_range : mg "range" = none
  m_sum : mg "sum" = none
  m_tuple : mg "tuple" = none
  m_zip : mg "zip" = none
  x_in : ∃ aI : Addr, mg "IN_RULE" = some (.ref aI) ∧ ∀ H : Hp, SqT K H aI [.str "in"]
  x_out : ∃ aO : Addr, mg "OUT_RULE" = some (.ref aO) ∧ ∀ H : Hp, SqT K H aO [.str "out"]
  x_ns : ∃ fd : FuncData, NsC K mg (He.ga K "NoShift") (He.ga K "BeltError") (He.fAd K ("NoShift", some "__init__")) fd

/-! ### heaps -/
def But (f : Addr) (H H' : Hp) : Prop := ∀ b o, H b = some o → b ≠ f → H' b = some o
theorem But.refl {f : Addr} {H : Hp} : But f H H := fun _ _ e _ => e
theorem But.trans {f : Addr} {H H1 H2 : Hp} (a : But f H H1) (b : But f H1 H2) : But f H H2 := fun x o e n => b x o (a x o e n) n
theorem But.upd {f : Addr} {H H1 : Hp} {o : HO} (a : But f H H1) : But f H (upd H1 f o) := fun x u e n => by rw [upd_ne n]; exact a x u e n
theorem But.new {f p : Addr} {H H1 : Hp} {o : HO} (a : But f H H1) (h : H1 p = none) : But f H (L2.upd H1 p o) := fun x u e n => by
  have e1 := a x u e n
  rw [upd_ne (ne_of_none e1 h)]
  exact e1
theorem same_new {H : Hp} {p : Addr} {o : HO} (h : H p = none) : Same H (upd H p o) := fun b u q => by rw [upd_ne (ne_of_none q h)]; exact q
theorem But.same {f : Addr} {H H1 H2 : Hp} (a : But f H H1) (b : Same H1 H2) : But f H H2 := fun x o e n => b x o (a x o e n)
theorem But.seqT {K : PySem.W.Frag} {f a : Addr} {H H1 : Hp} {xs : List V} (b : But f H H1) (h : SqT K H a xs) (n : a ≠ f) : SqT K H1 a xs := by
  rcases h with h | h
  · left
    rcases h with h | ⟨o, h⟩
    · exact .inl (b _ _ h n)
    · exact .inr ⟨o, b _ _ h n⟩
  · exact .inr h
/-- a comprehension without a test -/
theorem yes_in {σ : L2.St} {H : Hp} {A B : Hp → Prop} (h : A H) : tYes σ H (fun b H3 => if b = true then A H3 else B H3) := by
  show (if true = true then A H else B H)
  rw [if_pos rfl]
  exact h
/-! ### the draw -/
/-- the list of the law's draws at f, the script's copy at c -/
def Flow (H : Hp) (f c : Addr) : Prop := ∃ (ns : List Int) (i p q r : Int), H f = some (.lst [.ref c, .int i, .int p, .int q, .int r]) ∧ H c = some (.lst (ns.map V.int)) ∧ 0 ≤ i ∧ 0 ≤ p ∧ 0 ≤ q ∧ q < 2147483647
theorem Flow.new {H : Hp} {f c p : Addr} {o : HO} (h : Flow H f c) (n : H p = none) : Flow (upd H p o) f c := by
  obtain ⟨ns, i, a, q, r, e1, e2, e⟩ := h
  exact ⟨ns, i, a, q, r, same_new n _ _ e1, same_new n _ _ e2, e⟩
theorem Flow.ne {H : Hp} {f c p : Addr} (h : Flow H f c) (n : H p = none) : p ≠ f := by
  obtain ⟨ns, i, a, q, r, e1, _⟩ := h
  exact fun e => by rw [e, e1] at n; cases n
theorem Flow.nec {H : Hp} {f c p : Addr} (h : Flow H f c) (n : H p = none) : p ≠ c := by
  obtain ⟨ns, i, a, q, r, _, e1, _⟩ := h
  exact fun e => by rw [e, e1] at n; cases n
theorem Flow.lst {H : Hp} {f c p : Addr} {o : HO} (h : Flow H f c) (n1 : p ≠ f) (n2 : p ≠ c) : Flow (upd H p o) f c := by
  obtain ⟨ns, i, a, q, r, e1, e2, e⟩ := h
  exact ⟨ns, i, a, q, r, by rw [upd_ne n1.symm]; exact e1, by rw [upd_ne n2.symm]; exact e2, e⟩
theorem Flow.same {H H' : Hp} {f c : Addr} (h : Flow H f c) (s : Same H H') : Flow H' f c := by
  obtain ⟨ns, i, a, q, r, e1, e2, e⟩ := h
  exact ⟨ns, i, a, q, r, s _ _ e1, s _ _ e2, e⟩
theorem Flow.tup {H : Hp} {f c p : Addr} {xs : List V} (h : Flow H f c) (e : H p = some (.tup xs)) : p ≠ f := by
  obtain ⟨ns, i, a, q, r, e1, _⟩ := h
  exact ne_of e e1 (by intro z; cases z)
theorem at_ints {ns : List Int} {i : Int} (h0 : 0 ≤ i) (h1 : i < (ns.length : Int)) : ∃ v : Int, atI (ns.map V.int) i = some (.int v) := by
  have hk : i.toNat < ns.length := by omega
  have ek : i = ((i.toNat : Nat) : Int) := by omega
  have q : atI (ns.map V.int) ((i.toNat : Nat) : Int) = some (.int ns[i.toNat]) := atI_nat (by rw [List.getElem?_map, List.getElem?_eq_getElem hk]; rfl)
  rw [← ek] at q
  exact ⟨_, q⟩
/-- a block by less than it asks -/
theorem PSs.to {X : Cx} {ss : List Stmt} {t : TS} (h : PSs X ss t) (u : TS) (k : ∀ D σ H, u D σ H → t D σ H) : PSs X ss u := ⟨fun pins s σ H D I q => h.run pins s σ H D I (k D σ H q)⟩
theorem if_bl {b : Bool} {A B : Prop} (h1 : b = true → A) (h2 : b = false → B) : if b = true then A else B := by
  cases b
  · rw [if_neg Bool.false_ne_true]; exact h2 rfl
  · rw [if_pos rfl]; exact h1 rfl
/-! ### lists, two by two -/
inductive All2 {α β : Type} (R : α → β → Prop) : List α → List β → Prop
  | nil : All2 R [] []
  | cons {a b as bs} : R a b → All2 R as bs → All2 R (a :: as) (b :: bs)
theorem All2.imp {α β : Type} {R S : α → β → Prop} (h : ∀ a b, R a b → S a b) : ∀ {as bs}, All2 R as bs → All2 S as bs
  | _, _, .nil => .nil
  | _, _, .cons a b => .cons (h _ _ a) (All2.imp h b)
theorem All2.length {α β : Type} {R : α → β → Prop} : ∀ {as bs}, All2 R as bs → as.length = bs.length
  | _, _, .nil => rfl
  | _, _, .cons _ b => congrArg (· + 1) (All2.length b)
theorem All2.snoc {α β : Type} {R : α → β → Prop} {a b} (r : R a b) : ∀ {as bs}, All2 R as bs → All2 R (as ++ [a]) (bs ++ [b])
  | _, _, .nil => .cons r .nil
  | _, _, .cons h t => .cons h (All2.snoc r t)
theorem All2.get {α β : Type} {R : α → β → Prop} {as : List α} {bs : List β} (h : All2 R as bs) : ∀ {i : Nat} {b : β}, bs[i]? = some b → ∃ a, as[i]? = some a ∧ R a b := by
  induction h with
  | nil => intro i b e; cases e
  | cons r t ih =>
    intro i b e
    cases i with
    | zero => cases e; exact ⟨_, rfl, r⟩
    | succ i => exact ih e
theorem All2.getL {α β : Type} {R : α → β → Prop} {as : List α} {bs : List β} (h : All2 R as bs) : ∀ {i : Nat} {a : α}, as[i]? = some a → ∃ b, bs[i]? = some b ∧ R a b := by
  induction h with
  | nil => intro i b e; cases e
  | cons r t ih =>
    intro i b e
    cases i with
    | zero => cases e; exact ⟨_, rfl, r⟩
    | succ i => exact ih e
/-! ### tuples stay -/
def TK (H H' : Hp) : Prop := ∀ b xs, H b = some (.tup xs) → H' b = some (.tup xs)
theorem TK.refl {H : Hp} : TK H H := fun _ _ e => e
theorem TK.trans {H H1 H2 : Hp} (a : TK H H1) (b : TK H1 H2) : TK H H2 := fun x xs e => b x xs (a x xs e)
theorem TK.same {H H' : Hp} (s : Same H H') : TK H H' := fun x xs e => s _ _ e
theorem TK.new {H : Hp} {p : Addr} {o : HO} (n : H p = none) : TK H (upd H p o) := fun x xs e => same_new n _ _ e
theorem TK.lst {H : Hp} {p : Addr} {xs ys : List V} (h : H p = some (.lst xs)) : TK H (upd H p (.lst ys)) := fun x zs e => by
  rw [upd_ne (ne_of e h (by intro z; cases z))]
  exact e
theorem TK.but {H H' : Hp} {f c : Addr} (F : Flow H f c) (b : But f H H') : TK H H' := fun x xs e => b _ _ e (F.tup e)
theorem same_none {H H' : Hp} {p : Addr} (s : Same H H') (n : H' p = none) : H p = none := by
  cases e : H p with
  | none => rfl
  | some o => rw [s _ _ e] at n; cases n
theorem But.none {f p : Addr} {H H' : Hp} (b : But f H H') (n : H' p = Option.none) (h : p ≠ f) : H p = Option.none := by
  cases e : H p with
  | none => rfl
  | some o => rw [b _ _ e h] at n; cases n
theorem But.of {f : Addr} {H H' : Hp} (s : Same H H') : But f H H' := fun _ _ e _ => s _ _ e
/-- a list that was not there is written: what was stays -/
theorem But.own {f p : Addr} {H H1 : Hp} {o : HO} (a : But f H H1) (h : H p = Option.none) : But f H (L2.upd H1 p o) := fun x u e n => by
  rw [upd_ne (ne_of_none e h)]
  exact a x u e n
theorem Same.own {p : Addr} {H H1 : Hp} {o : HO} (a : Same H H1) (h : H p = Option.none) : Same H (L2.upd H1 p o) := fun x u e => by
  rw [upd_ne (ne_of_none e h)]
  exact a x u e
/-! ### loops over any iterator -/
theorem for_it {J : It} {n : Nat} {g : TG} {tb : TS} {D : Ends} {σ : L2.St} {H : Hp} (Pv : Nat → L2.St → Hp → Prop) (h0 : Pv 0 σ H) (go : ∀ i σ H, i < n → Pv i σ H → J.go i H) (st : ∀ σ H, Pv n σ H → J.stop n H)
    (hs : ∀ i x σ H H', i < n → Pv i σ H → J.yld i H x H' → g x σ H' fun σ2 H2 => tb { D with nx := Pv (i + 1), ct := Pv (i + 1), bk := D.nx } σ2 H2) (hd : ∀ σ H, Pv n σ H → D.nx σ H) :
    ∃ W : Nat → Nat → L2.St → Hp → Prop, (∃ m, W 0 m σ H) ∧ ∀ i m σ H, W i m σ H →
      (J.stop i H ∧ D.nx σ H) ∨ (J.go i H ∧ ∃ N : L2.St → Hp → Prop, (∀ σ' H', N σ' H' → ∃ m', m' < m ∧ W (i + 1) m' σ' H') ∧ ∀ x H', J.yld i H x H' → g x σ H' fun σ2 H2 => tb { D with nx := N, ct := N, bk := D.nx } σ2 H2) := by
  refine ⟨fun i m σ H => i + m = n ∧ Pv i σ H, ⟨n, by omega, h0⟩, fun i m σ H ⟨e, p⟩ => ?_⟩
  by_cases k : i < n
  · exact .inr ⟨go i σ H k p, Pv (i + 1), fun σ' H' p' => ⟨m - 1, by omega, by omega, p'⟩, fun x H' y => hs i x σ H H' k p y⟩
  · have z : i = n := by omega
    subst z
    exact .inl ⟨st σ H p, hd σ H p⟩
theorem lc_it {J : It} {n : Nat} {g : TG} {tt : TT} {te : TE} {vs : List Nat} {σ : L2.St} {H1 : Hp} {D : Addr} {Qd : Hp → Prop} (Pv : Nat → Hp → Prop) (h0 : Pv 0 (upd H1 D (.lst []))) (go : ∀ i H, i < n → Pv i H → J.go i H) (st : ∀ H, Pv n H → J.stop n H)
    (hs : ∀ i x H H', i < n → Pv i H → J.yld i H x H' → g x (wipe σ vs) H' fun σ2 H2 => wipe σ2 vs = wipe σ vs ∧ tt σ2 H2 fun b H3 =>
      if b = true then te σ2 H3 fun y H4 => ∃ acc, H4 D = some (.lst acc) ∧ acc.length < sizeLine ∧ Pv (i + 1) (upd H4 D (.lst (acc ++ [y]))) else Pv (i + 1) H3) (hd : ∀ H, Pv n H → Qd H) :
    ∃ W : Nat → Nat → Hp → Prop, (∃ m, W 0 m (upd H1 D (.lst []))) ∧ ∀ i m H, W i m H →
      (J.stop i H ∧ Qd H) ∨ (J.go i H ∧ ∃ Nx : Hp → Prop, (∀ H', Nx H' → ∃ m', m' < m ∧ W (i + 1) m' H') ∧ ∀ x H', J.yld i H x H' → g x (wipe σ vs) H' fun σ2 H2 => wipe σ2 vs = wipe σ vs ∧ tt σ2 H2 fun b H3 =>
        if b = true then te σ2 H3 fun y H4 => ∃ acc, H4 D = some (.lst acc) ∧ acc.length < sizeLine ∧ Nx (upd H4 D (.lst (acc ++ [y]))) else Nx H3) := by
  refine ⟨fun i m H => i + m = n ∧ Pv i H, ⟨n, by omega, h0⟩, fun i m H ⟨e, p⟩ => ?_⟩
  by_cases k : i < n
  · exact .inr ⟨go i H k p, Pv (i + 1), fun H' p' => ⟨m - 1, by omega, by omega, p'⟩, fun x H' y => hs i x H H' k p y⟩
  · have z : i = n := by omega
    subst z
    exact .inl ⟨st H p, hd H p⟩
/-! ### tests -/
theorem if_str {x z : Str} {A B : Prop} (h1 : x = z → A) (h2 : x ≠ z → B) : if decide (V.str x = V.str z) = true then A else B :=
  if_bl (fun e => h1 (V.str.inj (of_decide_eq_true e))) (fun e => h2 (fun q => of_decide_eq_false e (congrArg V.str q)))
theorem inV_strs {x : Str} {zs : List Str} : inV (.str x) (zs.map V.str) = true ↔ x ∈ zs := by
  unfold inV
  induction zs with
  | nil => simp
  | cons z zs ih =>
    rw [List.map_cons, List.any_cons, Bool.or_eq_true, ih, List.mem_cons]
    constructor
    · rintro (h | h)
      · exact .inl (by simpa [eqV] using (show (z == x) = true from h) |> fun k => (eq_of_beq k).symm)
      · exact .inr h
    · rintro (h | h)
      · exact .inl (show (z == x) = true by rw [h]; exact beq_self_eq_true z)
      · exact .inr h
theorem if_in {x : Str} {zs : List Str} {A B : Prop} (h1 : x ∈ zs → A) (h2 : x ∉ zs → B) : if (if false = true then !inV (.str x) (zs.map V.str) else inV (.str x) (zs.map V.str)) = true then A else B := by
  have e : (if false = true then !inV (.str x) (zs.map V.str) else inV (.str x) (zs.map V.str)) = inV (.str x) (zs.map V.str) := if_neg Bool.false_ne_true
  rw [e]
  exact if_bl (fun c => h1 (inV_strs.mp c)) (fun c => h2 (fun k => by rw [inV_strs.mpr k] at c; cases c))
theorem same_seqT {K : PySem.W.Frag} {a : Addr} {H H1 : Hp} {xs : List V} (b : Same H H1) (h : SqT K H a xs) : SqT K H1 a xs := by
  rcases h with h | h
  · left
    rcases h with h | ⟨o, h⟩
    · exact .inl (b _ _ h)
    · exact .inr ⟨o, b _ _ h⟩
  · exact .inr h
theorem little {n : Nat} (h : n ≤ 1000) : n ≤ sizeLine := Nat.le_of_lt (small1000 h)
/-! ### xs[i] op= e -/
def rGetL (K : PySem.W.Frag) : V → V → Hp → VK → Prop := fun o i H Q => ∃ (p : Addr) (xs : List V) (j : Nat) (v : V), o = .ref p ∧ i = .int (j : Nat) ∧ SqL K H p xs ∧ xs[j]? = some v ∧ Q v H
theorem get_list {X : Cx} : PGet X (rGetL X.K) := by
  intro pins st σ H o i ov iv Q J ro ri asked
  obtain ⟨p, xs, j, v, rfl, rfl, hq, hj, now⟩ := asked
  cases ro
  obtain ⟨t, rfl⟩ := ri
  obtain ⟨its, r, pl, hz⟩ := J.list hq
  obtain ⟨u, eu, ru⟩ := r.get hj
  have n1 := (List.getElem?_eq_some_iff.mp hj).1
  have n2 := line63
  exact wpAny_getItem_list pl.isList (by omega) (by omega) (by simpa using eu) ⟨v, H, J, ru, now⟩
/-! ### the same rules, the written part named (so that they fit within comprehensions) -/
section
variable {X : Cx}
theorem ix_listK (K : PySem.W.Frag) (h : X.K = K) : IxR X (rIxL K) := by subst h; exact ix_list
theorem ix_tupK (K : PySem.W.Frag) (h : X.K = K) : IxR X (rIxT K) := by subst h; exact ix_tup
def rLenK (K : PySem.W.Frag) : List V → Hp → VK → Prop := fun xs H Q => ∃ (p : Addr) (ys : List V), xs = [.ref p] ∧ (SqL K H p ys ∨ SqT K H p ys) ∧ Q (.int (ys.length : Nat)) H
theorem call_len_seqK (K : PySem.W.Frag) (h : X.K = K) : CallR X (.builtin "len") (rLenK K) := by subst h; exact call_len_seq
def rListOfK (K : PySem.W.Frag) : List V → Hp → VK → Prop := fun xs H Q => ∃ (p : Addr) (ys : List V), xs = [.ref p] ∧ (SqL K H p ys ∨ SqT K H p ys) ∧ ∀ l, H l = none → Q (.ref l) (upd H l (.lst ys))
theorem call_list_ofK (K : PySem.W.Frag) (h : X.K = K) : CallR X (.type "list") (rListOfK K) := by subst h; exact call_list_of
def rTupOfK (K : PySem.W.Frag) : List V → Hp → VK → Prop := fun xs H Q => ∃ (p : Addr) (ys : List V), xs = [.ref p] ∧ ((SqL K H p ys ∧ ∀ l, H l = none → Q (.ref l) (upd H l (.tup ys))) ∨ (SqT K H p ys ∧ Q (.ref p) H))
theorem call_tuple_ofK (K : PySem.W.Frag) (h : X.K = K) : CallR X (.type "tuple") (rTupOfK K) := by subst h; exact call_tuple_of
theorem op_in_seqK (K : PySem.W.Frag) (h : X.K = K) : OpR X (compareOp .In) (rIn K false) := by subst h; exact op_in_seq
theorem op_notIn_seqK (K : PySem.W.Frag) (h : X.K = K) : OpR X (compareOp .NotIn) (rIn K true) := by subst h; exact op_notIn_seq
theorem sl_listK (K : PySem.W.Frag) (h : X.K = K) : SlR X (rSlL K) := by subst h; exact sl_list
theorem sl_tupAK (K : PySem.W.Frag) (h : X.K = K) : SlR X (rSlA K) := by subst h; exact sl_tupA
theorem op_eqDK (K : PySem.W.Frag) (h : X.K = K) (hu : X.A.units + 64 < cLine) : OpR X (compareOp .Eq) (rEqD K) := by subst h; exact op_eqD hu
theorem op_neDK (K : PySem.W.Frag) (h : X.K = K) (hu : X.A.units + 64 < cLine) : OpR X (compareOp .NotEq) (rNeD K) := by subst h; exact op_neD hu
theorem call_isiKK (K : PySem.W.Frag) (h : X.K = K) : CallR X (.builtin "isinstance") (rIsi K) := by subst h; exact call_isi
theorem cr_allK (K : PySem.W.Frag) (h : X.K = K) (hc : X.calm = true) : CallR X (.builtin "all") (rAll K) := by subst h; exact cr_all hc
theorem cr_anyK (K : PySem.W.Frag) (h : X.K = K) (hc : X.calm = true) : CallR X (.builtin "any") (rAny K) := by subst h; exact cr_any hc
theorem cr_minKK (K : PySem.W.Frag) (h : X.K = K) (hc : X.calm = true) : CallR X (.builtin "min") (rMin K) := by subst h; exact cr_min hc
theorem cr_maxKK (K : PySem.W.Frag) (h : X.K = K) (hc : X.calm = true) : CallR X (.builtin "max") (rMax K) := by subst h; exact cr_max hc
def tTruK (K : PySem.W.Frag) (ta : TE) : TT := fun σ H Q => ta σ H fun x H' => ∃ k, TruV K x H' k ∧ Q k H'
theorem pt_truthK (K : PySem.W.Frag) (h : X.K = K) {a : Expr} {ta : TE} (ha : PE X a ta) (he : ∀ whole, isTrue a X.env whole = (do let v ← whole; standAt a.pos; holding [v] (truthy v))) : PT X a (tTruK K ta) := by subst h; exact pt_truth ha he
theorem get_listK (K : PySem.W.Frag) (h : X.K = K) : PGet X (rGetL K) := by subst h; exact get_list
theorem pg_tupK (K : PySem.W.Frag) (h : X.K = K) {es : List Expr} {k n : Nat} {t : TGs} {pos : Pos} (hc : X.calm = true) (g : PGs X es t)
    (hn : (assignEach es X.env).length = n := by rfl) (hst : (assignEach es X.env).findIdx? (·.1) = none := by rfl) : PG X (.Tuple es k pos) (gTup K n t) := by subst h; exact pg_tup hc g hn hst
theorem pg_unlK (K : PySem.W.Frag) (h : X.K = K) {es : List Expr} {k n : Nat} {t : TGs} {pos : Pos} (hc : X.calm = true) (g : PGs X es t)
    (hn : (assignEach es X.env).length = n := by rfl) (hst : (assignEach es X.env).findIdx? (·.1) = none := by rfl) : PG X (.Tuple es k pos) (gUnl K n t) := by subst h; exact pg_unl hc g hn hst
theorem pi_listK (K : PySem.W.Frag) (h : X.K = K) {tg e : Expr} {te : TE} (he : PE X e te) : PI X tg e (iList K te) := by subst h; exact pi_list he
theorem pi_tupK (K : PySem.W.Frag) (h : X.K = K) {tg e : Expr} {te : TE} (he : PE X e te) : PI X tg e (iTup K te) := by subst h; exact pi_tup he
theorem pe_revLK (K : PySem.W.Frag) (h : X.K = K) {e : Expr} {te : TE} {k : Nat} {p1 p2 p3 pos : Pos} (he : PE X e te) : PE X (.Subscript e (.Slice none none (some (.UnaryOp .USub (.Constant (.int 1) k p1) p2)) p3) pos) (tRevL K te) := by subst h; exact pe_revL he
theorem pe_bmK (K : PySem.W.Frag) (h : X.K = K) {o e : Expr} {es : List Expr} {to : TE} {t : TA} {name : Str} {apos cpos : Pos} {T id : String} {r : V → List V → Hp → VK → Prop}
    (pa : PlainAttrs T) (slot : Slot T name id) (hty : typeOf (.builtin id) = pure (.type "method_descriptor")) (hm : MtR X id r) (ho : PE X o to) (ha : PA X (e :: es) t)
    (n1 : attributeBase o name X.env (eval o X.env) = eval o X.env := by rfl)
    (n2 : ((backTo cpos (starEach (e :: es) X.env)).all (fun x => !x.1) && (backToKw cpos (keywordEach [] X.env)).all (fun x => x.1.isSome) && decide ((e :: es).length + ([] : List Keyword).length + (if ([] : List Keyword).isEmpty then 0 else 1) < 30)) = true := by rfl)
    (n3 : (apos.endLine == cpos.line) = true := by rfl) (n4 : starEach (e :: es) X.env = (false, eval e X.env) :: starEach es X.env := by rfl) (n5 : (backTo cpos (starEach es X.env)).any (·.1) = false := by rfl) :
    PE X (.Call (.Attribute o name apos) (e :: es) [] cpos) (tBM K T r to t) := by subst h; exact pe_bm pa slot hty hm ho ha n1 n2 n3 n4 n5
theorem pe_bm0K (K : PySem.W.Frag) (h : X.K = K) {o : Expr} {to : TE} {name : Str} {apos cpos : Pos} {T id : String} {r : V → List V → Hp → VK → Prop}
    (pa : PlainAttrs T) (slot : Slot T name id) (hty : typeOf (.builtin id) = pure (.type "method_descriptor")) (hm : MtR X id r) (ho : PE X o to)
    (n1 : attributeBase o name X.env (eval o X.env) = eval o X.env := by rfl) (n3 : (apos.endLine == cpos.line) = true := by rfl) : PE X (.Call (.Attribute o name apos) [] [] cpos) (tBM0 K T r to) := by subst h; exact pe_bm0 pa slot hty hm ho n1 n3
theorem op_catAK (K : PySem.W.Frag) (h : X.K = K) : OpR X (binaryOp .Add) (rCatA K) := by subst h; exact op_catA
theorem call_isiTK (K : PySem.W.Frag) (h : X.K = K) : CallR X (.builtin "isinstance") (rIsiT K) := by subst h; exact call_isiT
theorem pi_zipAK (K : PySem.W.Frag) (h : X.K = K) {e e2 : Expr} {ta : TA} {p pos tpos : Pos} {elts : List Expr} {kk : Nat} (hg : Gl X "zip") (hm : X.mg "zip" = none) (ha : PA X [e, e2] ta)
    (hs : starEach [e, e2] X.env = (false, eval e X.env) :: starEach [e2] X.env := by rfl) (hpl : (backTo pos (starEach [e2] X.env)).any (·.1) = false := by rfl) :
    PI X (.Tuple elts kk tpos) (.Call (.Name "zip" p) [e, e2] [] pos) (RZ.iZipA K ta) := by subst h; exact RZ.pi_zipA hg hm ha hs hpl
theorem pi_or {tg e : Expr} {t1 t2 : TI} (h1 : PI X tg e t1) (h2 : PI X tg e t2) : PI X tg e (fun σ H R => t1 σ H R ∨ t2 σ H R) := ⟨fun pins s σ H R I h => h.elim (h1.run pins s σ H R I) (h2.run pins s σ H R I)⟩
theorem pe_fldK (K : PySem.W.Frag) (h : X.K = K) {e : Expr} {ta : TE} {f : Str} {pos : Pos} (he : PE X e ta) (hb : attributeBase e f X.env (eval e X.env) = eval e X.env) : PE X (.Attribute e f pos) (tFld K ta f) := by subst h; exact pe_fld he hb
theorem ps_fldK (K : PySem.W.Frag) (h : X.K = K) {o value : Expr} {ta tv : TE} {f : Str} {pos pos' : Pos} (ha : PE X o ta) (hv : PE X value tv) (hs : swapsWith value (some (.Attribute o f pos')) pos.line X.env = pure false) : PS X (.Assign [.Attribute o f pos'] value pos) (sFld K ta tv f) := by subst h; exact ps_fld ha hv hs
theorem ps_fldaugK (K : PySem.W.Frag) (h : X.K = K) {o value : Expr} {ta tv : TE} {f : Str} {pos tpos : Pos} {op : Operator} {rd : V → V → Hp → VK → Prop} (ha : PE X o ta) (hv : PE X value tv) (hop : InOp X op rd) : PS X (.AugAssign (.Attribute o f tpos) op value pos) (sFldAug K ta tv rd f) := by subst h; exact ps_fldaug ha hv hop
end
section
variable {X : Cx}
theorem cr_sumK (K : PySem.W.Frag) (h : X.K = K) (hc : X.calm = true) : CallR X (.builtin "sum") (rSum K) := by subst h; exact cr_sum hc
end
section
variable {X : Cx}
theorem op_ltTK (K : PySem.W.Frag) (h : X.K = K) (hu : X.A.units < cLine) : OpR X (compareOp .Lt) (rLtT K) := by subst h; exact op_ltT hu
end
section
variable {X : Cx}
theorem cr_sortedRevK (K : PySem.W.Frag) (h : X.K = K) {b : Bool} : CallRK X (.builtin "sorted") [Str.ofString "reverse"] (rSortedKw K b [.bl b]) := by subst h; exact cr_sortedRev
theorem op_inDK (K : PySem.W.Frag) (h : X.K = K) (hu : X.A.units + 65 < cLine) : OpR X (compareOp .In) (rInD K) := by subst h; exact op_inD hu
end
theorem hu65 {A : Around} {k : Nat} (hr : Room k A) : A.units + 65 < cLine := by have := hr.un; omega
section
variable {X : Cx}
/-- x not in t, t a tuple of data of any depth -/
def rNotInDT (K : PySem.W.Frag) : R2 := fun x y H Q => ∃ d ds, Dp K H x d ∧ Dp K H y (.tuple ds) ∧ SeqAt.shaped d = true ∧ SeqAt.shaped (.tuple ds) = true ∧ Q (.bl (!ds.any fun z => PyData.eqv z d)) H
theorem op_notInDTK (K : PySem.W.Frag) (same : X.K = K) (room : X.A.units + 65 < cLine) : OpR X (compareOp .NotIn) (rNotInDT K) := by
  subst same
  intro pins st σ H one many ov mv Q J ro rm asked
  have ⟨d, ds, dpO, dpM, shO, shM, done⟩ := asked
  have ⟨_, readO⟩ := Dp.reads J d one ov dpO ro
  have ⟨_, readM⟩ := Dp.reads J (.tuple ds) many mv dpM rm
  exact SeqAt.notIn_tuple_reads readM readO (SeqAt.canLay_of_shaped shM) (SeqAt.canLay_of_shaped shO) (room_in_shaped shO room) ⟨.bl _, H, J, rfl, done⟩
end
section
variable {X : Cx}
/-- x in t, t a tuple of data of any depth -/
def rInDT (K : PySem.W.Frag) : R2 := fun x y H Q => ∃ d ds, Dp K H x d ∧ Dp K H y (.tuple ds) ∧ SeqAt.shaped d = true ∧ SeqAt.shaped (.tuple ds) = true ∧ Q (.bl (ds.any fun z => PyData.eqv z d)) H
theorem op_inDTK (K : PySem.W.Frag) (same : X.K = K) (room : X.A.units + 65 < cLine) : OpR X (compareOp .In) (rInDT K) := by
  subst same
  intro pins st σ H one many ov mv Q J ro rm asked
  have ⟨d, ds, dpO, dpM, shO, shM, done⟩ := asked
  have ⟨_, readO⟩ := Dp.reads J d one ov dpO ro
  have ⟨_, readM⟩ := Dp.reads J (.tuple ds) many mv dpM rm
  exact SeqAt.in_tuple_reads readM readO (SeqAt.canLay_of_shaped shM) (SeqAt.canLay_of_shaped shO) (room_in_shaped shO room) ⟨.bl _, H, J, rfl, done⟩
end
/-! ### for x, y in zip(t, l), t a tuple, l a list -/
def IzTL (K : PySem.W.Frag) (a b : Addr) (xs ys : List V) : It :=
  ⟨fun i H => SqT K H a xs ∧ SqL K H b ys ∧ i < xs.length ∧ i < ys.length, fun i H v H' => ∃ T x y, v = .ref T ∧ H T = none ∧ H' = upd H T (.tup [x, y]) ∧ xs[i]? = some x ∧ ys[i]? = some y, fun i H => SqT K H a xs ∧ SqL K H b ys ∧ i ≤ xs.length ∧ i ≤ ys.length ∧ (i = xs.length ∨ i = ys.length)⟩
theorem turn_zipTL {P : Program} {w : World} {K : PySem.W.Frag} {elts : List Expr} {kk : Nat} {tpos : Pos} {a b z TI TO i1 i2 : Addr} (S : ZipSep2 z TI TO i1 i2 [i1, a] [i2, b]) (na : a ≠ i1) (nb : b ≠ i2) (xs ys : List V) :
    Turn P w K (.Tuple elts kk tpos) (IzTL K a b xs ys) [z, TI, TO, i1, i2] z (fun i h => IsZip h z TI TO .none ∧ IsTupOf2 h TI (.ref i1) (.ref i2) ∧ (∃ x y, IsTupOf2 h TO x y) ∧ h.IsTupleIter i1 a i ∧ h.IsListIter i2 b i) where
  mem := by simp
  obj := fun i h stt c hc => by
    obtain ⟨hz, hI, ⟨x, y, hO⟩, ⟨o1, e1, _, d1⟩, ⟨o2, e2, _, d2⟩⟩ := stt
    have any : c = z ∨ c = TI ∨ c = TO ∨ c = i1 ∨ c = i2 := by simpa using hc
    rcases any with q | q | q | q | q <;> subst q
    · exact ⟨_, hz, fun v q => nomatch q⟩
    · exact ⟨_, hI, fun v q => nomatch q⟩
    · exact ⟨_, hO, fun v q => nomatch q⟩
    · exact ⟨o1, e1, fun v q => by rw [d1] at q; cases q⟩
    · exact ⟨o2, e2, fun v q => by rw [d2] at q; cases q⟩
  keep := fun i h h' stt k => by
    obtain ⟨hz, hI, ⟨x, y, hO⟩, k1, k2⟩ := stt
    exact ⟨k z (by simp) _ hz, k TI (by simp) _ hI, ⟨x, y, k TO (by simp) _ hO⟩, k1.at fun o q => k i1 (by simp) o q, k2.at fun o q => k i2 (by simp) o q⟩
  item := by
    intro X hP hw hK hc i pins st σ H E J hf stt going
    subst hP hw hK
    obtain ⟨hz, hI, ⟨x0, y0, hO⟩, k1, k2⟩ := stt
    obtain ⟨hq1, hq2, l1, l2⟩ := going
    obtain ⟨its, rv, tup, _⟩ := J.tuple hq1
    obtain ⟨its2, rv2, lst, _⟩ := J.list hq2
    have len1 := rv.length
    have len2 := rv2.length
    have zl : z < st.heap.objs.size := Heap.lt_size hz
    have D1 := Draws.tuple (prog := X.prog) (w := X.w) (A := X.A.in1) (J.ok.hd hc) i1 a na its.toArray
    have D2 := Draws.list (prog := X.prog) (w := X.w) (A := X.A.in1) (J.ok.hd hc) i2 b nb its2.toArray
    refine wpAny_pyNext_zipD2_item S D1 D2 hz hI hO ⟨k1, tup⟩ ⟨k2, lst.isList⟩ (by rw [List.size_toArray]; omega) (by rw [List.size_toArray]; omega) fun u1 u2 h' tk p1 p2 out hO' s1 s2 new size kp => ?_
    refine ⟨_, rfl, wpAny_letOwnedTupleGo_zip (s := { st with heap := h', toks := tk }) out fun h'' out' sb => ?_⟩
    obtain ⟨x, hx⟩ : ∃ x, xs[i]? = some x := ⟨_, List.getElem?_eq_getElem l1⟩
    obtain ⟨y, hy⟩ : ∃ y, ys[i]? = some y := ⟨_, List.getElem?_eq_getElem l2⟩
    obtain ⟨w1, hw1, r1⟩ := rv.get hx
    obtain ⟨w2, hw2, r2⟩ := rv2.get hy
    have e1 : w1 = u1 := by
      have p1 : its.toArray[i]? = some u1 := p1
      rw [List.getElem?_toArray, hw1] at p1
      exact Option.some.inj p1
    have e2 : w2 = u2 := by
      have p2 : its2.toArray[i]? = some u2 := p2
      rw [List.getElem?_toArray, hw2] at p2
      exact Option.some.inj p2
    subst e1 e2
    have there : h''.get? st.heap.objs.size = some { cls := .type "tuple", data := .seq #[w1, w2] } := (sb.2 _ (Nat.ne_of_gt zl)).trans new
    have good : ObjOk X.prog X.w (upd H st.heap.objs.size (.tup [x, y])) h'' st.heap.objs.size (.tup [x, y]) :=
      ⟨by show 2 ≤ sizeLine; decide, [w1, w2], .cons r1 (.cons r2 .nil), ⟨_, there, rfl, _, rfl⟩⟩
    have J1 : Inv X pins σ (upd H st.heap.objs.size (.tup [x, y])) { st with heap := h'', toks := tk } :=
      J.turnedNew (ch := [z, TI, TO, i1, i2]) (fun c o hb q => (sb.2 c (fun q' => hb (by simp [q']))).trans (kp c o (fun q' => hb (by simp [q'])) (fun q' => hb (by simp [q'])) (fun q' => hb (by simp [q'])) (fun q' => hb (by simp [q'])) q)) hf (Nat.le_refl _) good
    have i1z : i1 ≠ z := fun q => S.zf1 (by simp [q])
    have i2z : i2 ≠ z := fun q => S.zf2 (by simp [q])
    refine ⟨.ref st.heap.objs.size, _, J1, rfl, ⟨_, x, y, rfl, J.hok.fresh (Nat.le_refl _), rfl, hx, hy⟩, ⟨out', ?_, ⟨w1, w2, ?_⟩, ?_, ?_⟩, fun c hcm => ?_⟩
    · exact (sb.2 _ S.TIz).trans (kp _ _ S.TIz S.TITO S.TIi1 S.TIi2 hI)
    · exact (sb.2 _ S.TOz).trans hO'
    · exact s1.1.at fun o q => (sb.2 _ i1z).trans q
    · exact s2.1.at fun o q => (sb.2 _ i2z).trans q
    · have low : c < st.heap.objs.size := by
        have any : c = z ∨ c = TI ∨ c = TO ∨ c = i1 ∨ c = i2 := by simpa using hcm
        rcases any with q | q | q | q | q
        · rw [q]; exact zl
        · rw [q]; exact Heap.lt_size hI
        · rw [q]; exact Heap.lt_size hO
        · rw [q]; obtain ⟨_, q1, _⟩ := k1; exact Heap.lt_size q1
        · rw [q]; obtain ⟨_, q2, _⟩ := k2; exact Heap.lt_size q2
      rw [upd_ne (Nat.ne_of_lt low)]
      exact (hf c hcm).1
  done := by
    intro X hP hw hK hc i pins st σ H E J hf stt over
    subst hP hw hK
    obtain ⟨hz, hI, ⟨x0, y0, hO⟩, k1, k2⟩ := stt
    obtain ⟨hq1, hq2, l1, l2, fin⟩ := over
    obtain ⟨its, rv, tup, _⟩ := J.tuple hq1
    obtain ⟨its2, rv2, lst, _⟩ := J.list hq2
    have len1 := rv.length
    have len2 := rv2.length
    have D1 := Draws.tuple (prog := X.prog) (w := X.w) (A := X.A.in1) (J.ok.hd hc) i1 a na its.toArray
    have D2 := Draws.list (prog := X.prog) (w := X.w) (A := X.A.in1) (J.ok.hd hc) i2 b nb its2.toArray
    refine wpAny_pyNext_zipD2_end S D1 D2 hz hI hO ⟨k1, tup⟩ ⟨k2, lst.isList⟩ (by rw [List.size_toArray]; omega) (by rw [List.size_toArray]; omega) (by rw [List.size_toArray, List.size_toArray]; omega) fun h' tk kp => ⟨rfl, ?_⟩
    exact J.turnedL (t' := tk) (ch := [z, TI, TO, i1, i2]) (fun c o hb q => kp c o (fun q' => hb (by simp [q'])) (fun q' => hb (by simp [q'])) (fun q' => hb (by simp [q'])) (fun q' => hb (by simp [q'])) q) hf
  self := fun A i st Q E stt now => wpAny_pyIter_zip stt.1 now
def iZipTL (K : PySem.W.Frag) (ta : TA) : TI := fun σ H R => ta σ H fun vs H1 => ∃ a b xs ys, vs = [.ref a, .ref b] ∧ SqT K H1 a xs ∧ SqL K H1 b ys ∧ R (IzTL K a b xs ys) H1
theorem pi_zipTL (K : PySem.W.Frag) {X : Cx} (hk : X.K = K) {e e2 : Expr} {ta : TA} {p pos tpos : Pos} {elts : List Expr} {kk : Nat} (hg : Gl X "zip") (hm : X.mg "zip" = none) (ha : PA X [e, e2] ta)
    (hs : starEach [e, e2] X.env = (false, eval e X.env) :: starEach [e2] X.env := by rfl) (hpl : (backTo pos (starEach [e2] X.env)).any (·.1) = false := by rfl) : PI X (.Tuple elts kk tpos) (.Call (.Name "zip" p) [e, e2] [] pos) (iZipTL K ta) := by
  subst hk
  refine ⟨fun pins st σ H R J asked => ?_⟩
  refine Call_ (ld_blt J hg hm PyProof.Rows.boot_zip (PyProof.Rows.callWith_type1 (thn (ha.run pos pins st σ H _ J asked) fun us st1 ⟨vs, H1, J1, rel, now⟩ => ?_) hs hpl))
  obtain ⟨a, b, xs, ys, ex, hq1, hq2, now⟩ := now
  subst ex
  obtain ⟨u1, u2, rfl, r1, r2⟩ := vals2 rel
  obtain rfl : u1 = Value.ref a := r1
  obtain rfl : u2 = Value.ref b := r2
  obtain ⟨its, rv, tup, _⟩ := J1.tuple hq1
  obtain ⟨its2, rv2, lst, _⟩ := J1.list hq2
  have al : a < st1.heap.objs.size := by obtain ⟨o, ho, _⟩ := id tup; exact Heap.lt_size ho
  have bl : b < st1.heap.objs.size := by obtain ⟨o, ho, _⟩ := id lst.isList; exact Heap.lt_size ho
  refine zip_begins2 (begins_tuple a its.toArray) (begins_list b its2.toArray) tup lst.isList fun h' hz hI hO g1 g2 size kp => wpAny_pyIter_zip hz ?_
  have J2 : Inv X pins σ H1 { st1 with heap := h' } := J1.kept (t' := st1.toks) kp
  generalize hn : st1.heap.objs.size = n at *
  have S : ZipSep2 (n + 4) (n + 2) (n + 3) n (n + 1) [n, a] [n + 1, b] :=
    zip_sep2 (fun c hc => by rw [List.mem_singleton.mp hc]; exact al) (fun c hc => by rw [List.mem_singleton.mp hc]; exact bl)
  refine ⟨n + 4, [n + 4, n + 2, n + 3, n, n + 1], _, _, H1, rfl, J2, turn_zipTL S (Nat.ne_of_lt al) (Nat.ne_of_lt (Nat.lt_succ_of_lt bl)) xs ys, ⟨hz, hI, ⟨_, _, hO⟩, ⟨_, g1, rfl, rfl⟩, ⟨_, g2, rfl, rfl⟩⟩, fun c hcm => ?_, now⟩
  have low : n ≤ c := by
    have any : c = n + 4 ∨ c = n + 2 ∨ c = n + 3 ∨ c = n ∨ c = n + 1 := by simpa using hcm
    rcases any with q | q | q | q | q <;> rw [q]
    · exact Nat.le_add_right ..
    · exact Nat.le_add_right ..
    · exact Nat.le_add_right ..
    · exact Nat.le_refl _
    · exact Nat.le_add_right ..
  rw [← hn] at low
  exact J1.fpOk low (J1.hok.fresh low)
/-! ### for i, x in enumerate(t), t a tuple -/
section
open Sem (wp)
open AutoSeq1 (wpAny_loadPart')
theorem enum_of_tup (t : Addr) (its : Array Value) (n : Nat) (dct : Option Addr) (sl : Array (Option Value)) :
    Meets (Builtin.«enumerate.__new__» ⟨[.type "enumerate", .ref t], []⟩) (fun _ R st => st.heap.get? t = some { cls := .type "tuple", dict := dct, data := .seq its n, slots := sl } ∧
      R (.ok (.ret (.ref (st.heap.push { cls := .type "tuple_iterator", data := .fields #[.ref t, .int 0 0] }).objs.size)))
        { st with heap := (st.heap.push { cls := .type "tuple_iterator", data := .fields #[.ref t, .int 0 0] }).push { cls := .type "enumerate", data := .fields #[.none, .bool false, .ref st.heap.objs.size, rawInt 0, .none, .none] } }) :=
  .of_wp fun prog w A R st asked => by
    obtain ⟨hp, g, d, tk, os⟩ := st; obtain ⟨at_, asked⟩ := asked
    have sub := sub_enumerate
    have hT : Heap.IsTuple (Shared.heap ⟨hp, g, d, tk, os⟩) t its := ⟨_, at_, rfl, n, rfl⟩
    wp_walk using wpAny_loadPart' at_
    refine wpAny_stack_any fun stk => wpAny_pure ?_
    split
    · rename_i c _ _ _ _ _
      cases (c == Value.type "enumerate")
      · wp_walk using wpAny_loadPart' at_, wpAny_pyIter_tuple hT
        exact ⟨_, rfl, asked⟩
      · wp_walk using wpAny_loadPart' at_, wpAny_pyIter_tuple hT
        exact ⟨_, rfl, asked⟩
    · wp_walk using wpAny_loadPart' at_, wpAny_pyIter_tuple hT
      exact ⟨_, rfl, asked⟩
theorem call_enum_tup {prog : Program} {w : World} {A : Around} {E : Value → Shared → Prop} {st : Shared} {t : Addr} {its : Array Value} {Q : Value → Shared → Prop} (hT : st.heap.IsTuple t its)
    (now : ∀ h', IsEnum h' (st.heap.objs.size + 1) st.heap.objs.size 0 .none → h'.IsTupleIter st.heap.objs.size t 0 → h'.objs.size = st.heap.objs.size + 2 →
      (∀ b o, st.heap.get? b = some o → h'.get? b = some o) → Q (.ref (st.heap.objs.size + 1)) { st with heap := h' }) :
    wpAny (model prog w) A (call (.type "enumerate") [.ref t]) Q E st := by
  obtain ⟨⟨c, dct, dt, sl⟩, at_, hc, n, hd⟩ := hT
  replace hc : c = .type "tuple" := hc
  replace hd : dt = .seq its n := hd
  subst hc hd
  refine callType_new F.called_enumerate (by decide) (F.typeCall_enumerate_1 _) (F.newCall_enumerate_1 _) (fun obj => F.args_object_init_2 obj _) F.entry_enumerate_new (enum_of_tup t its n dct sl) ⟨at_, ?_⟩
  have size1 : (st.heap.push { cls := .type "tuple_iterator", data := .fields #[.ref t, .int 0 0] }).objs.size = st.heap.objs.size + 1 := Heap.size_push ..
  show _ ∧ _
  rw [size1]
  have made := Heap.get?_push_size (st.heap.push { cls := .type "tuple_iterator", data := .fields #[.ref t, .int 0 0] }) (o := { cls := .type "enumerate", data := .fields #[.none, .bool false, .ref st.heap.objs.size, rawInt 0, .none, .none] }) rfl
  rw [size1] at made
  exact ⟨⟨_, made, rfl⟩, now _ made ⟨_, Heap.get?_push_of_some _ (Heap.get?_push_size _ rfl), rfl, rfl⟩ (by rw [Heap.size_push, size1]) fun b o e => Heap.get?_push_of_some _ (Heap.get?_push_of_some _ e)⟩
end
/-- the tuple at a, each item in a new pair -/
def IteT (K : PySem.W.Frag) (a : Addr) (xs : List V) : It :=
  ⟨fun i H => SqT K H a xs ∧ i < xs.length, fun i H v H' => ∃ T x, v = .ref T ∧ H T = none ∧ H' = upd H T (.tup [.int (i : Nat), x]) ∧ xs[i]? = some x, fun i H => SqT K H a xs ∧ i = xs.length⟩
theorem turn_enumT {P : Program} {w : World} {K : PySem.W.Frag} {elts : List Expr} {kk : Nat} {tpos : Pos} (a e it : Addr) (xs : List V) :
    Turn P w K (.Tuple elts kk tpos) (IteT K a xs) [e, it] e (fun i h => (∃ old, IsEnum h e it ((i : Nat) : Int) old) ∧ h.IsTupleIter it a i ∧ e ≠ it ∧ a ≠ it ∧ a ≠ e) where
  mem := by simp
  obj := fun i h st b hb => by
    obtain ⟨⟨old, he⟩, ⟨o, ho, hc, hd⟩, _⟩ := st
    have either : b = e ∨ b = it := by simpa using hb
    rcases either with z | z
    · rw [z]; exact ⟨_, he, fun v q => nomatch q⟩
    · rw [z]; exact ⟨o, ho, fun v q => by rw [hd] at q; cases q⟩
  keep := fun i h h' st k => let ⟨⟨old, he⟩, hi, apart⟩ := st; ⟨⟨old, k e (by simp) _ he⟩, hi.at fun o q => k it (by simp) o q, apart⟩
  item := by
    intro X hP hw hK hc i pins st σ H E J hf stt going
    subst hP hw hK
    obtain ⟨⟨old, he⟩, hit, n1, n2, n3⟩ := stt
    obtain ⟨hq, hi⟩ := going
    obtain ⟨its, rv, tup, hz⟩ := J.tuple hq
    have len := rv.length
    have el : e < st.heap.objs.size := Heap.lt_size he
    have il : it < st.heap.objs.size := by obtain ⟨_, q, _⟩ := hit; exact Heap.lt_size q
    have D := Draws.tuple (prog := X.prog) (w := X.w) (A := X.A.in1) (J.ok.hd hc) it a n2 its.toArray
    refine wpAny_pyNext_enum_itemD D he ⟨hit, tup⟩ (by rw [List.size_toArray]; omega) n1 (by simp [n1, n3.symm]) fun u h' tk px out stt' new size kp => ?_
    refine ⟨_, rfl, wpAny_letOwnedTupleGo_enum (s := { st with heap := h', toks := tk + 1 }) out fun h'' he' sb => ?_⟩
    obtain ⟨x, hx⟩ : ∃ x, xs[i]? = some x := ⟨_, List.getElem?_eq_getElem hi⟩
    obtain ⟨u', hu', ru⟩ := rv.get hx
    have eu : u' = u := by
      have px : its.toArray[i]? = some u := px
      rw [List.getElem?_toArray, hu'] at px
      exact Option.some.inj px
    subst eu
    have there : h''.get? st.heap.objs.size = some { cls := .type "tuple", data := .seq #[.int i tk, u'] } := (sb.2 _ (Nat.ne_of_gt el)).trans new
    have ok2 : ObjOk X.prog X.w (upd H st.heap.objs.size (.tup [.int (i : Nat), x])) h'' st.heap.objs.size (.tup [.int (i : Nat), x]) :=
      ⟨by show 2 ≤ sizeLine; decide, [.int i tk, u'], .cons ⟨_, rfl⟩ (.cons ru .nil), ⟨_, there, rfl, _, rfl⟩⟩
    have J1 : Inv X pins σ (upd H st.heap.objs.size (.tup [.int (i : Nat), x])) { st with heap := h'', toks := tk + 1 } :=
      J.turnedNew (ch := [e, it]) (fun b ob hb q => (sb.2 b (fun z => hb (by simp [z]))).trans (kp b ob (fun z => hb (by simp [z])) (fun z => hb (by simp [z])) q)) hf (Nat.le_refl _) ok2
    refine ⟨.ref st.heap.objs.size, _, J1, rfl, ⟨_, x, rfl, J.hok.fresh (Nat.le_refl _), rfl, hx⟩, ⟨⟨u', ?_⟩, stt'.1.at fun o q => (sb.2 it (Ne.symm n1)).trans q, n1, n2, n3⟩, fun b hb => ?_⟩
    · rw [show ((i + 1 : Nat) : Int) = (i : Int) + 1 by omega]
      exact he'
    · have bl : b < st.heap.objs.size := by
        have either : b = e ∨ b = it := by simpa using hb
        rcases either with z | z
        · rw [z]; exact el
        · rw [z]; exact il
      rw [upd_ne (Nat.ne_of_lt bl)]
      exact (hf b hb).1
  done := by
    intro X hP hw hK hc i pins st σ H E J hf stt over
    subst hP hw hK
    obtain ⟨⟨old, he⟩, hit, n1, n2, n3⟩ := stt
    obtain ⟨hq, hi⟩ := over
    obtain ⟨its, rv, tup, hz⟩ := J.tuple hq
    obtain ⟨f0, f1, f2, f3, f4, f5⟩ := hf it (by simp)
    have len := rv.length
    have D := Draws.tuple (prog := X.prog) (w := X.w) (A := X.A.in1) (J.ok.hd hc) it a n2 its.toArray
    have ei : its.toArray.size = i := by rw [List.size_toArray]; omega
    exact wpAny_pyNext_enum_endD D he ⟨by rw [ei]; exact hit, tup⟩ fun h' eb => ⟨rfl, J.turned (t' := st.toks) (fun b o hb q => eb b o hb q) f0 f1 f3 f4 f5⟩
  self := fun A i st Q E stt now => let ⟨⟨_, he⟩, _⟩ := stt; wpAny_pyIter_enum he now
def iEnumT (K : PySem.W.Frag) (ta : TA) : TI := fun σ H R => ta σ H fun vs H1 => ∃ a xs, vs = [.ref a] ∧ SqT K H1 a xs ∧ R (IteT K a xs) H1
theorem pi_enumT (K : PySem.W.Frag) {X : Cx} (hk : X.K = K) {e : Expr} {ta : TA} {p pos tpos : Pos} {elts : List Expr} {kk : Nat} (hg : Gl X "enumerate") (hm : X.mg "enumerate" = none) (ha : PA X [e] ta) (hs : starEach [e] X.env = [(false, eval e X.env)] := by rfl) :
    PI X (.Tuple elts kk tpos) (.Call (.Name "enumerate" p) [e] [] pos) (iEnumT K ta) := by
  subst hk
  refine ⟨fun pins st σ H R J asked => ?_⟩
  refine Call_ (ld_blt J hg hm boot_enumerate (PyProof.Rows.callWith_type1 (thn (ha.run pos pins st σ H _ J asked) fun us st1 ⟨vs, H1, J1, rel, now⟩ => ?_) hs rfl))
  obtain ⟨a, xs, ex, hq, now⟩ := now
  subst ex
  obtain ⟨u, rfl, ru⟩ := vals1 rel
  obtain rfl : u = Value.ref a := ru
  obtain ⟨its, rv, tup, hz⟩ := J1.tuple hq
  have al : a < st1.heap.objs.size := by obtain ⟨o, ho, _⟩ := tup; exact Heap.lt_size ho
  refine call_enum_tup tup fun h' he hit size kp => wpAny_pyIter_enum he ?_
  have J2 : Inv X pins σ H1 { st1 with heap := h' } := J1.kept (t' := st1.toks) kp
  refine ⟨st1.heap.objs.size + 1, [st1.heap.objs.size + 1, st1.heap.objs.size], _, _, H1, rfl, J2, turn_enumT a (st1.heap.objs.size + 1) st1.heap.objs.size xs, ⟨⟨.none, he⟩, hit, Nat.succ_ne_self _, Nat.ne_of_lt al, Nat.ne_of_lt (Nat.lt_succ_of_lt al)⟩, fun b hb => ?_, now⟩
  have either : b = st1.heap.objs.size + 1 ∨ b = st1.heap.objs.size := by simpa using hb
  have low : st1.heap.objs.size ≤ b := by
    rcases either with z | z
    · rw [z]; exact Nat.le_add_right _ _
    · rw [z]; exact Nat.le_refl _
  exact J1.fpOk low (J1.hok.fresh low)
theorem one_at {K : PySem.W.Frag} {a : Addr} {od : Option Addr} {z : Str} {t1 : Tok} {n : Nat} {sl : Array (Option Value)} (l : K.lookup a = some ⟨.type "tuple", od, .seq #[.str z t1] n, sl⟩) (H : Hp) : SqT K H a [.str z] :=
  .inr ⟨_, _, _, l, rfl, rfl, (show 1 ≤ sizeLine by decide), .cons ⟨_, rfl⟩ .nil⟩
section
variable {P : Program} {w : World} {K : PySem.W.Frag} {mg : Str → Option Value} {base : Heap}
def sp_law_flow (K : PySem.W.Frag) : Sp := fun vs H Q _ => ∃ (a : Addr) (ns : List Int), vs = [.ref a] ∧ SqL K H a (ns.map V.int) ∧ ∀ (f c : Addr) (H' : Hp), H f = none → H c = none → Flow H' f c → Same H H' → Q (.ref f) H'
theorem ok_law_flow {f : Addr} {fd : FuncData} (F : Fun K "_law_flow" "_law_flow" s_law_flow f fd) (T : Top K mg) : FnOk P w K mg base CX0 1 f fd ["_law_script"] (sp_law_flow K) := by
  refine F.ok sc_law_flow (fun vs H Q E h => ?_) (fun cdv A outer s H vs Q E hr h => ?_)
  · obtain ⟨a, ns, rfl, _⟩ := h
    rfl
  obtain ⟨a, ns, rfl, hS, q⟩ := h
  refine ⟨_, (pss_one (ps_ret (pe_lst (pa_cons (pe_callTy (call_list_ofK K rfl) (by rfl) T.m_list (by decide +kernel) (pa_cons (pv 0) pa_nil)) (pa_cons pe_int (pa_cons pe_int (pa_cons pe_int (pa_cons pe_int pa_nil)))))))), ?_⟩
  refine ⟨_, rfl, a, _, rfl, .inl hS, fun c hc => ?_⟩
  refine ⟨(by show 5 ≤ sizeLine; decide), fun f hf => ?_⟩
  have nf : H f = none := by
    cases e : H f with
    | none => rfl
    | some o => rw [same_new hc _ _ e] at hf; cases hf
  have s1 := same_new (o := .lst (ns.map V.int)) hc
  refine q f c _ nf hc ⟨ns, 0, 0, 1, 0, upd_same, same_new hf _ _ upd_same, by decide, by decide, by decide, by decide⟩ fun b o e => same_new hf _ _ (s1 _ _ e)
def sp_law_pick (K : PySem.W.Frag) : Sp := fun vs H Q _ => ∃ (f c : Addr) (m : Int), vs = [.ref f, .int m] ∧ 0 < m ∧ m.natAbs.log2 < 9000 ∧ Flow H f c ∧
  ∀ (v : Int) (H' : Hp), 0 ≤ v → v < m → Flow H' f c → But f H H' → Q (.int v) H'
theorem ok_law_pick {f : Addr} {fd : FuncData} (F : Fun K "_law_pick" "_law_pick" s_law_pick f fd) (T : Top K mg) : FnOk P w K mg base CX0 1 f fd ["_law_flow_here", "_law_many"] (sp_law_pick K) := by
  refine F.ok sc_law_pick (fun vs H Q E h => ?_) (fun cdv A outer s H vs Q E hr h => ?_)
  · obtain ⟨f, c, m, rfl, _⟩ := h
    rfl
  obtain ⟨f, c, m, rfl, m0, m9, hF, q⟩ := h
  obtain ⟨ns, i, p, z, r, hf, hc, hi, hp, hz, hz2⟩ := hF
  have ncf : c ≠ f := ne_of hc hf (by intro e; injection e with e; cases ns with | nil => cases e | cons x l => cases e)
  let R1 : TS := fun D' σ' H' => D'.rt = Q ∧ ∃ x2 : Option V, σ' = [some (.ref f), some (.int m), x2, none] ∧ (∃ (i p z r : Int), H' f = some (.lst [.ref c, .int i, .int p, .int z, .int r]) ∧ H' c = some (.lst (ns.map V.int)) ∧ 0 ≤ i ∧ 0 ≤ p ∧ 0 ≤ z ∧ z < 2147483647) ∧ But f H H'
  refine ⟨_, (pss_cons (ps_if (PW.pt (pw_and (pt_cmpR op_eq (pe_ix (ix_listK K rfl) (pv 0) pe_int (fun _ _ => rfl)) pe_int (nomark _)) (pw_and1 (pt_cmpR op_lt (pe_ix (ix_listK K rfl) (pv 0) pe_int (fun _ _ => rfl)) (pe_callB (call_len_seqK K rfl) (by rfl) T.m_len (by decide +kernel) (pa_cons (pe_ix (ix_listK K rfl) (pv 0) pe_int (fun _ _ => rfl)) pa_nil)) (nomark _))))) (pss_cons (ps_set (i := 2) sc_law_pick.nd rfl (Or.inl rfl) (pe_ix (ix_listK K rfl) (pe_ix (ix_listK K rfl) (pv 0) pe_int (fun _ _ => rfl)) (pe_ix (ix_listK K rfl) (pv 0) pe_int (fun _ _ => rfl)) (fun _ _ => rfl)))
      (pss_cons (ps_asg (pe_op op_add (pe_ix (ix_listK K rfl) (pv 0) pe_int (fun _ _ => rfl)) pe_int) (pg_sub (pv 0) pe_int set_list))
      (pss_one (ps_if (pt_cmpR op_ge (pv 2) (pe_op op_pow pe_int pe_int) (nomark _)) (pss_one (ps_asg (pv 2) (pg_sub (pv 0) pe_int set_list))) (pss_one (ps_asg (pe_op op_mod (pe_op op_add (pe_op op_add (pe_op op_mul (pe_ix (ix_listK K rfl) (pv 0) pe_int (fun _ _ => rfl)) pe_int) (pe_op op_mod (pv 2) pe_int)) pe_int) pe_int) (pg_sub (pv 0) pe_int set_list))))))) pss_nil)
      (PSs.to (pss_cons (ps_if (pt_cmpR op_gt (pe_ix (ix_listK K rfl) (pv 0) pe_int (fun _ _ => rfl)) pe_int (nomark _)) (pss_cons (ps_set (i := 3) sc_law_pick.nd rfl (Or.inl rfl) (pe_op op_mod (pe_ix (ix_listK K rfl) (pv 0) pe_int (fun _ _ => rfl)) (pv 1)))
      (pss_cons (ps_asg (pe_op op_fdivW (pe_ix (ix_listK K rfl) (pv 0) pe_int (fun _ _ => rfl)) (pv 1)) (pg_sub (pv 0) pe_int set_list))
      (pss_one (ps_ret (pv 3))))) pss_nil)
      (pss_cons (ps_asg (pe_op op_add (pe_ix (ix_listK K rfl) (pv 0) pe_int (fun _ _ => rfl)) pe_int) (pg_sub (pv 0) pe_int set_list))
      (pss_cons (ps_asg (pe_op op_mod (pe_op op_add (pe_op op_add (pe_op op_mul (pe_ix (ix_listK K rfl) (pv 0) pe_int (fun _ _ => rfl)) pe_int) pe_int) (pe_ix (ix_listK K rfl) (pv 0) pe_int (fun _ _ => rfl))) pe_int) (pg_sub (pv 0) pe_int set_list))
      (pss_one (ps_ret (pe_op op_mod (pe_op op_fdiv (pe_op op_mod (pe_op op_mul (pe_op op_add (pe_op op_mod (pe_ix (ix_listK K rfl) (pv 0) pe_int (fun _ _ => rfl)) pe_int) pe_int) (pe_op op_add (pe_op op_fdiv (pe_ix (ix_listK K rfl) (pv 0) pe_int (fun _ _ => rfl)) pe_int) pe_int)) pe_int) pe_int) (pv 1))))))) R1 ?tail1)), ?_⟩
  case tail1 =>
    rintro D' σ' H1 ⟨eD, x2, rfl, ⟨i, p, z, r, hf, hc, hi, hp, hz, hz2⟩, bt⟩
    refine ⟨_, rfl, f, _, _, _, rfl, rfl, SqL.of hf, atI_nat (j := 2) rfl, _, _, rfl, rfl, _, rfl, if_bl (fun c1 => ?_) (fun c1 => ?_)⟩
    · refine ⟨_, rfl, f, _, _, _, rfl, rfl, SqL.of hf, atI_nat (j := 2) rfl, _, rfl, _, _, rfl, rfl, m0, ?_⟩
      refine ⟨_, rfl, f, _, _, _, rfl, rfl, SqL.of hf, atI_nat (j := 2) rfl, _, rfl, _, _, rfl, rfl, ⟨m0, m9⟩, _, rfl, f, _, _, 2, rfl, rfl, hf, rfl, ?_⟩
      refine ⟨_, rfl, ?_⟩
      rw [eD]
      exact q _ _ (Int.emod_nonneg _ (by omega)) (Int.emod_lt_of_pos _ m0) ⟨ns, i, p / m, z, r, upd_same, (by rw [upd_ne ncf]; exact hc), hi, Int.ediv_nonneg hp (by omega), hz, hz2⟩ bt.upd
    · refine ⟨_, rfl, f, _, _, _, rfl, rfl, SqL.of hf, atI_nat (j := 4) rfl, _, _, rfl, rfl, _, rfl, f, _, _, 4, rfl, rfl, hf, rfl, ?_⟩
      have hf2 : upd H1 f (.lst ([V.ref c, V.int i, V.int p, V.int z, V.int r].set 4 (V.int (r + 1)))) f = some (.lst [.ref c, .int i, .int p, .int z, .int (r + 1)]) := upd_same
      refine ⟨_, rfl, f, _, _, _, rfl, rfl, SqL.of hf2, atI_nat (j := 3) rfl, _, _, rfl, rfl, .inl ⟨by omega, by omega⟩, _, _, rfl, rfl, _, rfl, f, _, _, _, rfl, rfl, SqL.of hf2, atI_nat (j := 4) rfl, _, _, rfl, rfl, _, _, rfl, rfl, (by show (0 : Int) < 2147483647; decide), _, rfl, f, _, _, 3, rfl, rfl, hf2, rfl, ?_⟩
      have z0 : 0 ≤ (z * 48271 + 12820163 + (r + 1)) % 2147483647 := Int.emod_nonneg _ (by decide)
      have z1 : (z * 48271 + 12820163 + (r + 1)) % 2147483647 < 2147483647 := Int.emod_lt_of_pos _ (by decide)
      have hf3 : upd (upd H1 f (.lst ([V.ref c, V.int i, V.int p, V.int z, V.int r].set 4 (V.int (r + 1))))) f (.lst ([V.ref c, V.int i, V.int p, V.int z, V.int (r + 1)].set 3 (V.int ((z * 48271 + 12820163 + (r + 1)) % 2147483647)))) f =
        some (.lst [.ref c, .int i, .int p, .int ((z * 48271 + 12820163 + (r + 1)) % 2147483647), .int (r + 1)]) := upd_same
      have hc3 : upd (upd H1 f (.lst ([V.ref c, V.int i, V.int p, V.int z, V.int r].set 4 (V.int (r + 1))))) f (.lst ([V.ref c, V.int i, V.int p, V.int z, V.int (r + 1)].set 3 (V.int ((z * 48271 + 12820163 + (r + 1)) % 2147483647)))) c = some (.lst (ns.map V.int)) := by
        rw [upd_ne ncf, upd_ne ncf]
        exact hc
      refine ⟨_, rfl, f, _, _, _, rfl, rfl, SqL.of hf3, atI_nat (j := 3) rfl, _, _, rfl, rfl, (by show (0 : Int) < 65521; decide), _, _, rfl, rfl, _, rfl, f, _, _, _, rfl, rfl, SqL.of hf3, atI_nat (j := 3) rfl, _, _, rfl, rfl, ⟨by decide, by decide⟩, _, _, rfl, rfl, _, _, rfl, rfl, .inl ⟨?_, ?_⟩, _, _, rfl, rfl, (by show (0 : Int) < 1000003; decide), _, _, rfl, rfl, ⟨by decide, by decide⟩, _, rfl, _, _, rfl, rfl, m0, ?_⟩
      · omega
      · omega
      · rw [eD]
        exact q _ _ (Int.emod_nonneg _ (by omega)) (Int.emod_lt_of_pos _ m0) ⟨ns, i, p, _, r + 1, hf3, hc3, hi, hp, z0, z1⟩ bt.upd.upd
  refine ⟨_, rfl, f, _, _, _, rfl, rfl, SqL.of hf, atI_nat (j := 2) rfl, rfl, _, rfl, if_bl (fun c1 => ?_) (fun c1 => ?_)⟩
  · refine ⟨_, rfl, f, _, _, _, rfl, rfl, SqL.of hf, atI_nat (j := 1) rfl, _, rfl, f, _, _, _, rfl, rfl, SqL.of hf, atI_nat (j := 0) rfl, c, _, rfl, .inl (SqL.of hc), _, _, rfl, rfl, _, rfl, if_bl (fun c2 => ?_) (fun c2 => ?_)⟩
    · have c3 : i < ((ns.map V.int).length : Int) := of_decide_eq_true c2
      rw [List.length_map] at c3
      obtain ⟨v, hv⟩ := at_ints hi c3
      refine ⟨_, rfl, f, _, _, _, rfl, rfl, SqL.of hf, atI_nat (j := 0) rfl, _, rfl, f, _, _, _, rfl, rfl, SqL.of hf, atI_nat (j := 1) rfl, c, _, i, _, rfl, rfl, SqL.of hc, hv, ?_⟩
      refine ⟨_, rfl, f, _, _, _, rfl, rfl, SqL.of hf, atI_nat (j := 1) rfl, _, _, rfl, rfl, _, rfl, f, _, _, 1, rfl, rfl, hf, rfl, ?_⟩
      have hf2 : upd H f (.lst ([V.ref c, V.int i, V.int p, V.int z, V.int r].set 1 (V.int (i + 1)))) f = some (.lst [.ref c, .int (i + 1), .int p, .int z, .int r]) := upd_same
      refine ⟨_, rfl, _, _, rfl, rfl, ⟨by decide, by decide, by decide⟩, _, _, rfl, rfl, _, rfl, if_bl (fun c4 => ?_) (fun c4 => ?_)⟩
      · have c5 : (10 : Int) ^ (18 : Int).toNat ≤ v := of_decide_eq_true c4
        have c6 : (0 : Int) ≤ (10 : Int) ^ (18 : Int).toNat := by decide
        refine ⟨_, rfl, _, rfl, f, _, _, 2, rfl, rfl, hf2, rfl, rfl, _, rfl, ⟨i + 1, v, z, r, upd_same, ?_, by omega, by omega, hz, hz2⟩, But.refl.upd.upd⟩
        rw [upd_ne ncf, upd_ne ncf]
        exact hc
      · refine ⟨_, rfl, f, _, _, _, rfl, rfl, SqL.of hf2, atI_nat (j := 3) rfl, _, _, rfl, rfl, .inl ⟨by omega, by omega⟩, _, rfl, _, _, rfl, rfl, (by show (0 : Int) < 1000003; decide), _, _, rfl, rfl, _, _, rfl, rfl, _, _, rfl, rfl, (by show (0 : Int) < 2147483647; decide), _, rfl, f, _, _, 3, rfl, rfl, hf2, rfl, rfl, _, rfl, ⟨i + 1, p, _, r, upd_same, ?_, by omega, hp, Int.emod_nonneg _ (by decide), Int.emod_lt_of_pos _ (by decide)⟩, But.refl.upd.upd⟩
        rw [upd_ne ncf, upd_ne ncf]
        exact hc
    · exact ⟨rfl, _, rfl, ⟨i, p, z, r, hf, hc, hi, hp, hz, hz2⟩, But.refl⟩
  · exact ⟨rfl, _, rfl, ⟨i, p, z, r, hf, hc, hi, hp, hz, hz2⟩, But.refl⟩
end
/-! ### rooms: what they are -/
/-- a hand: its rule's word, its number if it has one, its moments -/
structure HR where
  wd : Str
  no : Option Int
  mom : Int
/-- a belt -/
structure BR where
  one : Nat
  to : Nat
  th : List Int
abbrev ruleL (h : HR) : List V := .str h.wd :: (match h.no with | none => [] | some n => [.int n])
def HandAt (H : Hp) (v : V) (h : HR) : Prop := ∃ t r : Addr, v = .ref t ∧ H t = some (.tup [.ref r, .int h.mom]) ∧ H r = some (.tup (ruleL h))
def BeltAt (H : Hp) (v : V) (b : BR) : Prop := ∃ t g : Addr, v = .ref t ∧ H t = some (.tup [.int (b.one : Nat), .int (b.to : Nat), .ref g]) ∧ H g = some (.tup (b.th.map V.int))
theorem HandAt.keep {H H' : Hp} {v : V} {h : HR} (a : HandAt H v h) (k : TK H H') : HandAt H' v h := by
  obtain ⟨t, r, e, e1, e2⟩ := a
  exact ⟨t, r, e, k _ _ e1, k _ _ e2⟩
theorem BeltAt.keep {H H' : Hp} {v : V} {b : BR} (a : BeltAt H v b) (k : TK H H') : BeltAt H' v b := by
  obtain ⟨t, r, e, e1, e2⟩ := a
  exact ⟨t, r, e, k _ _ e1, k _ _ e2⟩
def nine : List Str := ["always", "same", "times", "sum", "gap", "below", "most", "least", "pick"]
def needs (wd : Str) : Int := if wd ∈ (["in", "always"] : List Str) then 0 else if wd ∈ (["out", "same", "times"] : List Str) then 1 else 2 + (if wd = "pick" then 1 else 0)
/-- a rule of one of the nine words -/
structure GoodRule (h : HR) : Prop where
  wd : h.wd ∈ nine
  no : h.no.isSome = true ↔ h.wd = "times" ∨ h.wd = "always"
  big : ∀ n, h.no = some n → -1000000 ≤ n ∧ n ≤ 1000000
def GoodHand (h : HR) : Prop := (GoodRule h ∨ ((h.wd = "in" ∨ h.wd = "out") ∧ h.no = none)) ∧ 0 ≤ h.mom ∧ h.mom ≤ 30
def Small (v : Int) : Prop := -1000000 ≤ v ∧ v ≤ 1000000
section
variable {P : Program} {w : World} {K : PySem.W.Frag} {mg : Str → Option Value} {base : Heap}
def sp_law_thing (K : PySem.W.Frag) : Sp := fun vs H Q _ => ∃ f c : Addr, vs = [.ref f] ∧ Flow H f c ∧ ∀ (v : Int) (H' : Hp), Small v → Flow H' f c → But f H H' → Q (.int v) H'
theorem ok_law_thing {f : Addr} {fd : FuncData} (F : Fun K "_law_thing" "_law_thing" s_law_thing f fd) (T : Top K mg) : FnOk P w K mg base CX0 2 f fd ["_law_flow_here"] (sp_law_thing K) := by
  obtain ⟨f_law_pick, fd_law_pick, F_law_pick, b_law_pick, m_law_pick⟩ := T.d_law_pick
  have G_law_pick := ok_law_pick (P := P) (w := w) (base := base) F_law_pick T
  refine F.ok sc_law_thing (fun vs H Q E h => ?_) (fun cdv A outer s H vs Q E hr h => ?_)
  · obtain ⟨f, c, rfl, _⟩ := h
    rfl
  obtain ⟨f, c, rfl, hF, q⟩ := h
  refine ⟨_, (pss_cons (ps_if (pt_cmpR op_gt (pe_call G_law_pick (hr.mono (by decide)) (by rfl) m_law_pick F_law_pick.kp b_law_pick .nil pass0 (pa_cons (pv 0) (pa_cons pe_int pa_nil))) pe_int (nomark _)) (pss_one (ps_ret (pe_op op_sub (pe_call G_law_pick (hr.mono (by decide)) (by rfl) m_law_pick F_law_pick.kp b_law_pick .nil pass0 (pa_cons (pv 0) (pa_cons pe_int pa_nil))) pe_int))) pss_nil)
      (pss_one (ps_ret (pe_op op_sub (pe_call G_law_pick (hr.mono (by decide)) (by rfl) m_law_pick F_law_pick.kp b_law_pick .nil pass0 (pa_cons (pv 0) (pa_cons pe_int pa_nil))) pe_int)))), ?_⟩
  refine ⟨_, rfl, f, c, 3, rfl, by decide, by decide +kernel, hF, fun v1 H1 a1 b1 F1 B1 => ⟨_, _, rfl, rfl, _, rfl, if_bl (fun _ => ?_) (fun _ => ?_)⟩⟩
  · exact ⟨_, rfl, f, c, 7, rfl, by decide, by decide +kernel, F1, fun v2 H2 a2 b2 F2 B2 => ⟨_, _, rfl, rfl, q _ _ ⟨by omega, by omega⟩ F2 (B1.trans B2)⟩⟩
  · exact ⟨_, rfl, f, c, 2000001, rfl, by decide, by decide +kernel, F1, fun v2 H2 a2 b2 F2 B2 => ⟨_, _, rfl, rfl, q _ _ ⟨by omega, by omega⟩ F2 (B1.trans B2)⟩⟩
def sp_law_needs (K : PySem.W.Frag) : Sp := fun vs H Q _ => ∃ (r : Addr) (wd : Str) (l : List V), vs = [.ref r] ∧ SqT K H r (.str wd :: l) ∧ ∀ H', Same H H' → Q (.int (needs wd)) H'
theorem ok_law_needs {f : Addr} {fd : FuncData} (F : Fun K "_law_needs" "_law_needs" s_law_needs f fd) (T : Top K mg) : FnOk P w K mg base CX0 1 f fd ["_law_rule_here"] (sp_law_needs K) := by
  refine F.ok sc_law_needs (fun vs H Q E h => ?_) (fun cdv A outer s H vs Q E hr h => ?_)
  · obtain ⟨r, wd, l, rfl, _⟩ := h
    rfl
  obtain ⟨r, wd, l, rfl, hR, q⟩ := h
  unfold needs at q
  refine ⟨_, (pss_cons (ps_if (pt_cmpR (op_in_seqK K rfl) (pe_ix (ix_tupK K rfl) (pv 0) pe_int (fun _ _ => rfl)) (pe_tup (pa_cons pe_str (pa_cons pe_str pa_nil))) (by with_unfolding_all rfl)) (pss_one (ps_ret pe_int)) pss_nil)
      (pss_cons (ps_if (pt_cmpR (op_in_seqK K rfl) (pe_ix (ix_tupK K rfl) (pv 0) pe_int (fun _ _ => rfl)) (pe_tup (pa_cons pe_str (pa_cons pe_str (pa_cons pe_str pa_nil)))) (by with_unfolding_all rfl)) (pss_one (ps_ret pe_int)) pss_nil)
      (pss_one (ps_ret (pe_op op_add pe_int (pe_callTy call_int1 (by rfl) T.m_int (by decide +kernel) (pa_cons (pe_cmpR op_eq (pe_ix (ix_tupK K rfl) (pv 0) pe_int (fun _ _ => rfl)) pe_str (nomark _)) pa_nil))))))), ?_⟩
  refine ⟨_, rfl, r, _, _, _, rfl, rfl, hR, atI_nat (j := 0) rfl, (by show 2 ≤ sizeLine; decide), fun p np => ⟨p, _, rfl, .inr (SqT.of upd_same), rfl, rfl, _, rfl, if_in (zs := ["in", "always"]) (fun e => ?_) (fun e => ?_)⟩⟩
  · have q := q _ (same_new (o := .tup [V.str "in", V.str "always"]) np)
    rw [if_pos e] at q
    exact q
  have s1 := same_new (o := .tup [V.str "in", V.str "always"]) np
  refine ⟨_, rfl, r, _, _, _, rfl, rfl, same_seqT s1 hR, atI_nat (j := 0) rfl, (by show 3 ≤ sizeLine; decide), fun p2 np2 => ⟨p2, _, rfl, .inr (SqT.of upd_same), rfl, rfl, _, rfl, if_in (zs := ["out", "same", "times"]) (fun e2 => ?_) (fun e2 => ?_)⟩⟩
  · have q := q _ (s1.trans (same_new (o := .tup [V.str "out", V.str "same", V.str "times"]) np2))
    rw [if_neg e, if_pos e2] at q
    exact q
  have s2 := s1.trans (same_new (o := .tup [V.str "out", V.str "same", V.str "times"]) np2)
  have q := q _ s2
  rw [if_neg e, if_neg e2] at q
  refine ⟨_, rfl, r, _, _, _, rfl, rfl, same_seqT s2 hR, atI_nat (j := 0) rfl, rfl, .inr ⟨_, rfl, _, _, rfl, rfl, ?_⟩⟩
  by_cases k : wd = "pick"
  · rw [if_pos k] at q
    rw [decide_eq_true (show V.str wd = V.str "pick" by rw [k])]
    exact q
  · rw [if_neg k] at q
    rw [decide_eq_false (show ¬ V.str wd = V.str "pick" from fun z => k (V.str.inj z))]
    exact q
theorem nine_at {m : Int} (h0 : 0 ≤ m) (h9 : m < 9) : ∃ wd : Str, wd ∈ nine ∧ atI (nine.map V.str) m = some (.str wd) ∧ (m < 1 → needs wd ≤ 0) ∧ (m < 3 → needs wd ≤ 1) ∧ (m < 8 → needs wd ≤ 2) ∧ needs wd ≤ 3 ∧ 0 ≤ needs wd := by
  have : m = 0 ∨ m = 1 ∨ m = 2 ∨ m = 3 ∨ m = 4 ∨ m = 5 ∨ m = 6 ∨ m = 7 ∨ m = 8 := by omega
  rcases this with rfl | rfl | rfl | rfl | rfl | rfl | rfl | rfl | rfl
  · exact ⟨"always", by decide +kernel, rfl, by decide +kernel, by decide +kernel, by decide +kernel, by decide +kernel, by decide +kernel⟩
  · exact ⟨"same", by decide +kernel, rfl, by decide +kernel, by decide +kernel, by decide +kernel, by decide +kernel, by decide +kernel⟩
  · exact ⟨"times", by decide +kernel, rfl, by decide +kernel, by decide +kernel, by decide +kernel, by decide +kernel, by decide +kernel⟩
  · exact ⟨"sum", by decide +kernel, rfl, by decide +kernel, by decide +kernel, by decide +kernel, by decide +kernel, by decide +kernel⟩
  · exact ⟨"gap", by decide +kernel, rfl, by decide +kernel, by decide +kernel, by decide +kernel, by decide +kernel, by decide +kernel⟩
  · exact ⟨"below", by decide +kernel, rfl, by decide +kernel, by decide +kernel, by decide +kernel, by decide +kernel, by decide +kernel⟩
  · exact ⟨"most", by decide +kernel, rfl, by decide +kernel, by decide +kernel, by decide +kernel, by decide +kernel, by decide +kernel⟩
  · exact ⟨"least", by decide +kernel, rfl, by decide +kernel, by decide +kernel, by decide +kernel, by decide +kernel, by decide +kernel⟩
  · exact ⟨"pick", by decide +kernel, rfl, by decide +kernel, by decide +kernel, by decide +kernel, by decide +kernel, by decide +kernel⟩
def sp_law_rule (K : PySem.W.Frag) : Sp := fun vs H Q _ => ∃ (f c : Addr) (m : Int), vs = [.ref f, .int m] ∧ 0 ≤ m ∧ Flow H f c ∧
  ∀ (r : Addr) (h : HR) (H' : Hp), H' r = some (.tup (ruleL h)) → GoodRule h → needs h.wd ≤ m → 0 ≤ needs h.wd → h.mom = 0 → Flow H' f c → But f H H' → Q (.ref r) H'
theorem ok_law_rule {f : Addr} {fd : FuncData} (F : Fun K "_law_rule" "_law_rule" s_law_rule f fd) (T : Top K mg) : FnOk P w K mg base CX0 3 f fd ["_law_flow_here", "_law_most"] (sp_law_rule K) := by
  obtain ⟨f_law_pick, fd_law_pick, F_law_pick, b_law_pick, m_law_pick⟩ := T.d_law_pick
  have G_law_pick := ok_law_pick (P := P) (w := w) (base := base) F_law_pick T
  obtain ⟨f_law_thing, fd_law_thing, F_law_thing, b_law_thing, m_law_thing⟩ := T.d_law_thing
  have G_law_thing := ok_law_thing (P := P) (w := w) (base := base) F_law_thing T
  refine F.ok sc_law_rule (fun vs H Q E h => ?_) (fun cdv A outer s H vs Q E hr h => ?_)
  · obtain ⟨f, c, m, rfl, _⟩ := h
    rfl
  obtain ⟨f, c, m, rfl, m0, hF, q⟩ := h
  refine ⟨_, (pss_cons (ps_set (i := 2) sc_law_rule.nd rfl (Or.inl rfl) (pe_lst (pa_cons pe_str (pa_cons pe_str (pa_cons pe_str (pa_cons pe_str (pa_cons pe_str (pa_cons pe_str (pa_cons pe_str (pa_cons pe_str (pa_cons pe_str pa_nil)))))))))))
      (pss_cons (ps_set (i := 3) sc_law_rule.nd rfl (Or.inl rfl) (pe_ix (ix_listK K rfl) (pv 2) (pe_call G_law_pick (hr.mono (by decide)) (by rfl) m_law_pick F_law_pick.kp b_law_pick .nil pass0 (pa_cons (pv 0) (pa_cons (pe_ix (ix_listK K rfl) (pe_lst (pa_cons pe_int (pa_cons pe_int (pa_cons pe_int (pa_cons pe_int pa_nil))))) (pe_callB (call_min2 rfl) (by rfl) T.m_min (by decide +kernel) (pa_cons pe_int (pa_cons (pv 1) pa_nil))) (fun _ _ => rfl)) pa_nil))) (fun _ _ => rfl)))
      (pss_cons (ps_if (pt_cmpR op_eq (pv 3) pe_str (nomark _)) (pss_one (ps_ret (pe_tup (pa_cons (pv 3) (pa_cons (pe_op op_sub (pe_call G_law_pick (hr.mono (by decide)) (by rfl) m_law_pick F_law_pick.kp b_law_pick .nil pass0 (pa_cons (pv 0) (pa_cons pe_int pa_nil))) pe_int) pa_nil))))) pss_nil)
      (pss_cons (ps_if (pt_cmpR op_eq (pv 3) pe_str (nomark _)) (pss_one (ps_ret (pe_tup (pa_cons (pv 3) (pa_cons (pe_call G_law_thing (hr.mono (by decide)) (by rfl) m_law_thing F_law_thing.kp b_law_thing .nil pass0 (pa_cons (pv 0) pa_nil)) pa_nil))))) pss_nil)
      (pss_one (ps_ret (pe_tup (pa_cons (pv 3) pa_nil)))))))), ?_⟩
  refine ⟨(by show 9 ≤ sizeLine; decide), fun wl nwl => ?_⟩
  have F1 : Flow (upd H wl (.lst (nine.map V.str))) f c := hF.new nwl
  refine ⟨_, rfl, _, rfl, (by show 4 ≤ sizeLine; decide), fun cl ncl => ?_⟩
  have F2 : Flow (upd (upd H wl (.lst (nine.map V.str))) cl (.lst [V.int 1, V.int 3, V.int 8, V.int 9])) f c := F1.new ncl
  have B2 : But f H (upd (upd H wl (.lst (nine.map V.str))) cl (.lst [V.int 1, V.int 3, V.int 8, V.int 9])) := (But.refl.new nwl).new ncl
  obtain ⟨j, hj, j1, j9, jn⟩ : ∃ j : Int, atI [V.int 1, V.int 3, V.int 8, V.int 9] (if m < 3 then m else 3) = some (.int j) ∧ 1 ≤ j ∧ j ≤ 9 ∧ ((j = 1 ∧ m = 0) ∨ (j = 3 ∧ m = 1) ∨ (j = 8 ∧ m = 2) ∨ (j = 9 ∧ 3 ≤ m)) := by
    by_cases k : m < 3
    · rw [if_pos k]
      have : m = 0 ∨ m = 1 ∨ m = 2 := by omega
      rcases this with rfl | rfl | rfl
      · exact ⟨1, rfl, by decide, by decide, by decide⟩
      · exact ⟨3, rfl, by decide, by decide, by decide⟩
      · exact ⟨8, rfl, by decide, by decide, by decide⟩
    · rw [if_neg k]
      exact ⟨9, rfl, by decide, by decide, by omega⟩
  refine ⟨_, rfl, _, _, rfl, cl, _, _, _, rfl, rfl, SqL.of upd_same, hj, f, c, j, rfl, by omega, ?_, F2, fun v H1 v0 v1 F3 B3 => ?_⟩
  · have : j = 1 ∨ j = 3 ∨ j = 8 ∨ j = 9 := by omega
    rcases this with rfl | rfl | rfl | rfl <;> decide +kernel
  obtain ⟨wd, hw, hat, n1, n3, n8, n9, n0⟩ := nine_at v0 (by omega)
  have hn : needs wd ≤ m := by
    rcases jn with ⟨rfl, rfl⟩ | ⟨rfl, rfl⟩ | ⟨rfl, rfl⟩ | ⟨rfl, k⟩
    · exact n1 v1
    · exact n3 v1
    · exact n8 v1
    · omega
  have hwl : H1 wl = some (.lst (nine.map V.str)) := B3 _ _ (same_new ncl _ _ upd_same) (hF.ne nwl)
  refine ⟨wl, _, _, _, rfl, rfl, SqL.of hwl, hat, ?_⟩
  have BB := B2.trans B3
  refine ⟨_, rfl, rfl, _, rfl, if_str (fun e => ?_) (fun e => ?_)⟩
  · refine ⟨_, rfl, _, rfl, f, c, 19, rfl, by decide, by decide +kernel, F3, fun v2 H2 a2 b2 F4 B4 => ⟨_, _, rfl, rfl, (by show 2 ≤ sizeLine; decide), fun r nr => ?_⟩⟩
    exact q r ⟨wd, some (v2 - 9), 0⟩ _ upd_same ⟨hw, ⟨fun _ => .inl e, fun _ => rfl⟩, fun n en => by cases en; exact ⟨by omega, by omega⟩⟩ hn n0 rfl (F4.new nr) ((BB.trans B4).new nr)
  refine ⟨_, rfl, rfl, _, rfl, if_str (fun e2 => ?_) (fun e2 => ?_)⟩
  · refine ⟨_, rfl, _, rfl, f, c, rfl, F3, fun v2 H2 s2 F4 B4 => ⟨(by show 2 ≤ sizeLine; decide), fun r nr => ?_⟩⟩
    exact q r ⟨wd, some v2, 0⟩ _ upd_same ⟨hw, ⟨fun _ => .inr e2, fun _ => rfl⟩, fun n en => by cases en; exact s2⟩ hn n0 rfl (F4.new nr) ((BB.trans B4).new nr)
  · refine ⟨_, rfl, (by show 1 ≤ sizeLine; decide), fun r nr => ?_⟩
    exact q r ⟨wd, none, 0⟩ _ upd_same ⟨hw, ⟨(fun z => nomatch z), fun z => absurd z (fun z => z.elim e e2)⟩, (fun n en => nomatch en)⟩ hn n0 rfl (F3.new nr) (BB.new nr)
def sp_law_shuffled (K : PySem.W.Frag) : Sp := fun vs H Q _ => ∃ (f c l : Addr) (xs : List V), vs = [.ref f, .ref l] ∧ SqL K H l xs ∧ l ≠ f ∧ xs.length ≤ 500 ∧ Flow H f c ∧
  ∀ (p : Addr) (ys : List V) (H' : Hp), ys.Perm xs → H p = none → H' p = some (.lst ys) → Flow H' f c → But f H H' → Q (.ref p) H'
theorem But.seqL {K : PySem.W.Frag} {f a : Addr} {H H1 : Hp} {xs : List V} (b : But f H H1) (h : SqL K H a xs) (n : a ≠ f) : SqL K H1 a xs := by
  rcases h with h | h
  · left
    rcases h with h | ⟨o, h⟩
    · exact .inl (b _ _ h n)
    · exact .inr ⟨o, b _ _ h n⟩
  · exact .inr h
theorem same_seqL {K : PySem.W.Frag} {a : Addr} {H H1 : Hp} {xs : List V} (b : Same H H1) (h : SqL K H a xs) : SqL K H1 a xs := by
  rcases h with h | h
  · left
    rcases h with h | ⟨o, h⟩
    · exact .inl (b _ _ h)
    · exact .inr ⟨o, b _ _ h⟩
  · exact .inr h
theorem log_small {m : Nat} (h : m ≤ 500) : ((m : Int)).natAbs.log2 < 9000 := by
  rw [Int.natAbs_natCast]
  exact Nat.lt_of_le_of_lt (Nat.log2_le_self m) (by omega)
theorem perm_erase {α : Type} : ∀ {l : List α} {j : Nat} {y : α}, l[j]? = some y → (y :: l.eraseIdx j).Perm l
  | [], _, _, h => nomatch h
  | a :: l, 0, y, h => by
    cases h
    exact List.Perm.refl _
  | a :: l, j + 1, y, h => by
    have ih : (y :: l.eraseIdx j).Perm l := perm_erase h
    exact (List.Perm.swap a y _).trans (ih.cons a)
theorem ok_law_shuffled {f : Addr} {fd : FuncData} (F : Fun K "_law_shuffled" "_law_shuffled" s_law_shuffled f fd) (T : Top K mg) : FnOk P w K mg base CX0 2 f fd ["_law_flow_here", "_law_some"] (sp_law_shuffled K) := by
  obtain ⟨f_law_pick, fd_law_pick, F_law_pick, b_law_pick, m_law_pick⟩ := T.d_law_pick
  have G_law_pick := ok_law_pick (P := P) (w := w) (base := base) F_law_pick T
  refine F.ok sc_law_shuffled (fun vs H Q E h => ?_) (fun cdv A outer s H vs Q E hr h => ?_)
  · obtain ⟨f, c, l, xs, rfl, _⟩ := h
    rfl
  obtain ⟨f, c, l, xs, rfl, hL, nl, hlen, hF, q⟩ := h
  refine ⟨_, (pss_cons (ps_set (i := 2) sc_law_shuffled.nd rfl (Or.inr rfl) (pe_callTy (call_list_ofK K rfl) (by rfl) T.m_list (by decide +kernel) (pa_cons (pv 1) pa_nil)))
      (pss_one (ps_ret (pe_lc (own := [("_law_k", 3)]) (g := gName 3) (tt := tYes) (by rfl) sc_law_shuffled.nd (pi_range1 (by rfl) T.m_range (pa_cons (pe_callB (call_len_seqK K rfl) (by rfl) T.m_len (by decide +kernel) (pa_cons (pv 1) pa_nil)) pa_nil)) (blkOk_by (own := [("_law_k", 3)]) (N := N_law_shuffled) (sc := defScope s_law_shuffled) (by decide +kernel)) (fun _ _ _ _ _ => (pg_name (i := 3) sc_law_shuffled.nd rfl (Or.inl rfl))) (fun _ _ _ _ _ => pts_nil) (fun _ _ _ _ _ => (pe_bmK K rfl PySem.F.plainAttrs_list PySem.F.slot_list_pop PySem.F.type_list_pop mt_popAt (pv 2) (pa_cons (pe_call G_law_pick (hr.mono (by decide)) (by rfl) m_law_pick F_law_pick.kp b_law_pick .nil pass0 (pa_cons (pv 0) (pa_cons (pe_callB (call_len_seqK K rfl) (by rfl) T.m_len (by decide +kernel) (pa_cons (pv 2) pa_nil)) pa_nil))) pa_nil))))))), ?_⟩
  refine ⟨_, rfl, l, _, rfl, .inl hL, fun lf nlf => ?_⟩
  refine ⟨_, rfl, l, _, rfl, .inl (same_seqL (same_new nlf) hL), _, rfl, by omega, (by omega), fun D nD => ?_⟩
  have F1 : Flow (upd H lf (.lst xs)) f c := hF.new nlf
  have dl : D ≠ lf := (ne_of_none upd_same nD).symm
  refine lc_range (lo := 0) (n := xs.length) (fun i H5 => ∃ acc rest : List V, H5 D = some (.lst acc) ∧ H5 lf = some (.lst rest) ∧ acc.length = i ∧ rest.length + i = xs.length ∧ (acc ++ rest).Perm xs ∧ Flow H5 f c ∧ But f H H5)
    ⟨[], xs, upd_same, by rw [upd_ne dl.symm]; exact upd_same, rfl, by omega, List.Perm.refl _, F1.new nD, (But.refl.new nlf).new nD⟩ ?_ ?_
  · rintro i H5 hi ⟨acc, rest, hD, hl, ha, hr2, hp, F5, B5⟩
    refine ⟨rfl, yes_in ?_⟩
    refine ⟨_, rfl, .inl ⟨rfl, _, SqL.of hl⟩, _, rfl, _, rfl, lf, _, rfl, .inl (SqL.of hl), f, c, ((rest.length : Nat) : Int), rfl, by omega, log_small (by omega), F5, fun v H6 v0 v1 F6 B6 => ?_⟩
    have hl6 := B6 _ _ hl (hF.ne nlf)
    have hv : v.toNat < rest.length := by omega
    have e1 : seqIndex? v rest.length = some v.toNat := by
      rw [seqIndex_of v0 (by omega)]
    refine ⟨lf, rest, v, v.toNat, rest[v.toNat], rfl, rfl, hl6, by omega, by omega, e1, List.getElem?_eq_getElem hv, ?_⟩
    have hD6 := B6 _ _ hD (fun e => by rw [e] at nD; rw [show upd H lf (.lst xs) f = H f from upd_ne (hF.ne nlf).symm] at nD; obtain ⟨_, _, _, _, _, e1, _⟩ := hF; rw [e1] at nD; cases nD)
    refine ⟨acc, by rw [upd_ne dl]; exact hD6, small1000 (by omega), acc ++ [rest[v.toNat]], rest.eraseIdx v.toNat, upd_same, by rw [upd_ne dl.symm]; exact upd_same, by rw [List.length_append, ha]; rfl, ?_, ?_, ?_, ?_⟩
    · rw [List.length_eraseIdx, if_pos hv]
      omega
    · refine List.Perm.trans ?_ hp
      rw [List.append_assoc]
      exact List.Perm.append_left acc (perm_erase (List.getElem?_eq_getElem hv))
    · have dc : D ≠ c := fun e => by
        rw [e] at nD
        obtain ⟨_, _, _, _, _, _, e1, _⟩ := F1
        rw [e1] at nD
        cases nD
      exact (F6.lst (hF.ne nlf) (hF.nec nlf)).lst (F1.ne nD) dc
    · exact ((B5.trans B6).own nlf).own (same_none (same_new nlf) nD)
  · rintro H5 ⟨acc, rest, hD, hl, ha, hr2, hp, F5, B5⟩
    have er : rest = [] := by
      cases rest with
      | nil => rfl
      | cons a l => simp at hr2
    subst er
    rw [List.append_nil] at hp
    exact q D acc H5 hp (same_none (same_new nlf) nD) hD F5 B5
end
/-! ### the hands of a drawn room -/
def unS : V → Str
  | .str s => s
  | _ => ""
theorem perm_strs {ys : List V} {zs : List Str} (h : ys.Perm (zs.map V.str)) : ∃ ss : List Str, ys = ss.map V.str ∧ ss.Perm zs := by
  refine ⟨ys.map unS, ?_, ?_⟩
  · rw [List.map_map]
    symm
    refine (List.map_congr_left (g := id) fun y hy => ?_).trans (List.map_id _)
    obtain ⟨z, _, e⟩ := List.mem_map.mp (h.mem_iff.mp hy)
    subst e
    rfl
  · have q := h.map unS
    rw [List.map_map] at q
    have e : zs.map (unS ∘ V.str) = zs := (List.map_congr_left (g := id) fun z _ => rfl).trans (List.map_id _)
    rw [e] at q
    exact q
theorem flat_rep {α : Type} (x : α) : ∀ n : Nat, (List.replicate n [x]).flatten = List.replicate n x
  | 0 => rfl
  | n + 1 => by
    rw [List.replicate_succ, List.flatten_cons, flat_rep x n]
    rfl
def cnt (ss : List Str) : Nat := (ss.filter fun s => !decide (s = ("in" : Str))).length
theorem cnt_le (ss : List Str) : cnt ss ≤ ss.length := List.length_filter_le ..
theorem cut_drop (xs : List V) (k : Nat) : cutV xs (some ((k : Nat) : Int)) none = xs.drop k := by
  unfold cutV
  rw [HT.sIx_nat, HT.sIx_none]
  by_cases h : k ≤ xs.length
  · rw [Nat.min_eq_left h]
    exact List.take_of_length_le (by rw [List.length_drop]; exact Nat.le_refl _)
  · rw [Nat.min_eq_right (by omega), Nat.sub_self, List.take_zero, List.drop_eq_nil_of_le (by omega)]
structure HInv (f c sl hh : Addr) (ss : List Str) (H0 H : Hp) (i : Nat) (vs : List V) (hs : List HR) (left : Int) : Prop where
  fl : Flow H f c
  bt : But f H0 H
  hsl : H sl = some (.lst (ss.map V.str))
  hhh : H hh = some (.lst vs)
  al : All2 (HandAt H) vs hs
  len : hs.length = i
  good : ∀ h ∈ hs, GoodHand h
  lf : (cnt (ss.drop i) : Int) ≤ left
  sum : (hs.map fun h => needs h.wd).sum + left = 20
  nz : ∀ h ∈ hs, 0 ≤ needs h.wd
  one : ("hand" : Str) ∈ ss.take i → ∃ h ∈ hs, h.wd ≠ "out" ∧ h.wd ≠ "in"
  n1 : sl ≠ f
  n2 : sl ≠ hh
  n3 : hh ≠ f
  n4 : hh ≠ c
  n5 : H0 hh = none
section
variable {f c sl hh : Addr} {ss : List Str} {H0 H H' : Hp} {i : Nat} {vs : List V} {hs : List HR} {left : Int}
theorem HInv.but (s : HInv f c sl hh ss H0 H i vs hs left) (F : Flow H' f c) (b : But f H H') : HInv f c sl hh ss H0 H' i vs hs left :=
  { s with fl := F, bt := s.bt.trans b, hsl := b _ _ s.hsl s.n1, hhh := b _ _ s.hhh s.n3, al := s.al.imp fun _ _ k => k.keep (TK.but s.fl b) }
theorem HInv.new {p : Addr} {o : HO} (s : HInv f c sl hh ss H0 H i vs hs left) (n : H p = none) : HInv f c sl hh ss H0 (upd H p o) i vs hs left :=
  { s with fl := s.fl.new n, bt := s.bt.new n, hsl := same_new n _ _ s.hsl, hhh := same_new n _ _ s.hhh, al := s.al.imp fun _ _ k => k.keep (TK.new n) }
theorem HInv.same (s : HInv f c sl hh ss H0 H i vs hs left) (k : Same H H') : HInv f c sl hh ss H0 H' i vs hs left :=
  { s with fl := s.fl.same k, bt := s.bt.same k, hsl := k _ _ s.hsl, hhh := k _ _ s.hhh, al := s.al.imp fun _ _ z => z.keep (TK.same k) }
theorem HInv.step {x : V} {h : HR} {sd : Str} (s : HInv f c sl hh ss H0 H i vs hs left) (hx : HandAt H x h) (g : GoodHand h) (z : 0 ≤ needs h.wd) (k : needs h.wd + (cnt (ss.drop (i + 1)) : Int) ≤ left) (e : ss[i]? = some sd) (o : sd = "hand" → h.wd ≠ "out" ∧ h.wd ≠ "in") :
    HInv f c sl hh ss H0 (upd H hh (.lst (vs ++ [x]))) (i + 1) (vs ++ [x]) (hs ++ [h]) (left - needs h.wd) := by
  refine { s with fl := s.fl.lst s.n3 s.n4, bt := s.bt.own s.n5, hsl := by rw [upd_ne s.n2]; exact s.hsl, hhh := upd_same, al := (s.al.snoc hx).imp fun _ _ z => z.keep (TK.lst s.hhh), len := by rw [List.length_append, s.len]; rfl, good := ?_, lf := by omega, sum := ?_, nz := ?_, one := ?_ }
  · intro y hy
    rcases List.mem_append.mp hy with hy | hy
    · exact s.good y hy
    · obtain rfl : y = h := by simpa using hy
      exact g
  · have := s.sum
    rw [List.map_append, List.sum_append]
    simp only [List.map_cons, List.map_nil, List.sum_cons, List.sum_nil]
    omega
  · intro y hy
    rcases List.mem_append.mp hy with hy | hy
    · exact s.nz y hy
    · obtain rfl : y = h := by simpa using hy
      exact z
  · intro hm
    rw [List.take_add_one, e] at hm
    rcases List.mem_append.mp hm with hm | hm
    · obtain ⟨y, h1, h2⟩ := s.one hm
      exact ⟨y, List.mem_append_left _ h1, h2⟩
    · have e2 : ("hand" : Str) = sd := by simpa using hm
      exact ⟨h, List.mem_append_right _ (by simp), o e2.symm⟩
end
theorem cnt_cons {ss : List Str} {i : Nat} {sd : Str} (e : ss[i]? = some sd) : cnt (ss.drop i) = (if sd = "in" then 0 else 1) + cnt (ss.drop (i + 1)) := by
  have hi := (List.getElem?_eq_some_iff.mp e).1
  have e2 : ss.drop i = sd :: ss.drop (i + 1) := by
    rw [List.drop_eq_getElem_cons hi, (List.getElem?_eq_some_iff.mp e).2]
  rw [e2]
  unfold cnt
  rw [List.filter_cons]
  by_cases k : sd = "in"
  · rw [if_pos k, decide_eq_true k]
    simp
  · rw [if_neg k, decide_eq_false k]
    simp only [Bool.not_false, if_true, List.length_cons]
    omega
section
variable {P : Program} {w : World} {K : PySem.W.Frag} {mg : Str → Option Value} {base : Heap}
structure HandsOk (hs : List HR) : Prop where
  len : hs.length ≤ 12
  good : ∀ h ∈ hs, GoodHand h
  sum : (hs.map fun h => needs h.wd).sum ≤ 20
  nz : ∀ h ∈ hs, 0 ≤ needs h.wd
  one : ∃ h ∈ hs, h.wd ≠ "out" ∧ h.wd ≠ "in"
def sp_law_hands (K : PySem.W.Frag) : Sp := fun vs H Q _ => ∃ (f c : Addr) (m : Int), vs = [.ref f, .int m] ∧ 1 ≤ m ∧ m ≤ 8 ∧ Flow H f c ∧
  ∀ (p : Addr) (xs : List V) (hs : List HR) (H' : Hp), H p = none → H' p = some (.lst xs) → All2 (HandAt H') xs hs → HandsOk hs → Flow H' f c → But f H H' → Q (.ref p) H'
theorem ok_law_hands {f : Addr} {fd : FuncData} (F : Fun K "_law_hands" "_law_hands" s_law_hands f fd) (T : Top K mg) : FnOk P w K mg base CX0 4 f fd ["_law_flow_here", "_law_many"] (sp_law_hands K) := by
  obtain ⟨f_law_shuffled, fd_law_shuffled, F_law_shuffled, b_law_shuffled, m_law_shuffled⟩ := T.d_law_shuffled
  have G_law_shuffled := ok_law_shuffled (P := P) (w := w) (base := base) F_law_shuffled T
  obtain ⟨f_law_rule, fd_law_rule, F_law_rule, b_law_rule, m_law_rule⟩ := T.d_law_rule
  have G_law_rule := ok_law_rule (P := P) (w := w) (base := base) F_law_rule T
  obtain ⟨f_law_needs, fd_law_needs, F_law_needs, b_law_needs, m_law_needs⟩ := T.d_law_needs
  have G_law_needs := ok_law_needs (P := P) (w := w) (base := base) F_law_needs T
  obtain ⟨f_law_pick, fd_law_pick, F_law_pick, b_law_pick, m_law_pick⟩ := T.d_law_pick
  have G_law_pick := ok_law_pick (P := P) (w := w) (base := base) F_law_pick T
  refine F.ok sc_law_hands (fun vs H Q E h => ?_) (fun cdv A outer s H vs Q E hr h => ?_)
  · obtain ⟨f, c, m, rfl, _⟩ := h
    rfl
  obtain ⟨f, c, m, rfl, m1, m8, hF, q⟩ := h
  let R1 : TS := fun D' σ' H' => D'.rt = Q ∧ ∃ (x : Int) (sl : Addr) (ss : List Str), σ' = [some (.ref f), some (.int m), some (.int (3 + x)), some (.ref sl), none, none, none, none, none, none, none] ∧ H' sl = some (.lst (ss.map V.str)) ∧ sl ≠ f ∧ ss.length ≤ 12 ∧ ("hand" : Str) ∈ ss ∧ (∀ s ∈ ss, s = "in" ∨ s = "out" ∨ s = "hand") ∧ Flow H' f c ∧ But f H H'
  refine ⟨_, (pss_cons (ps_set (i := 2) sc_law_hands.nd rfl (Or.inl rfl) (pe_op op_add pe_int (pe_callTy call_int1 (by rfl) T.m_int (by decide +kernel) (pa_cons (pe_cmpR op_lt (pv 1) pe_int (nomark _)) pa_nil))))
      (pss_cons (ps_set (i := 3) sc_law_hands.nd rfl (Or.inl rfl) (pe_op op_cat (pe_op op_cat (pe_op op_rep (pe_lst (pa_cons pe_str pa_nil)) (pe_call G_law_pick (hr.mono (by decide)) (by rfl) m_law_pick F_law_pick.kp b_law_pick .nil pass0 (pa_cons (pv 0) (pa_cons (pv 2) pa_nil)))) (pe_op op_rep (pe_lst (pa_cons pe_str pa_nil)) (pe_call G_law_pick (hr.mono (by decide)) (by rfl) m_law_pick F_law_pick.kp b_law_pick .nil pass0 (pa_cons (pv 0) (pa_cons (pv 2) pa_nil))))) (pe_op op_rep (pe_lst (pa_cons pe_str pa_nil)) (pv 1))))
      (pss_cons (ps_set (i := 3) sc_law_hands.nd rfl (Or.inl rfl) (pe_call G_law_shuffled (hr.mono (by decide)) (by rfl) m_law_shuffled F_law_shuffled.kp b_law_shuffled .nil pass0 (pa_cons (pv 0) (pa_cons (pv 3) pa_nil))))
      (PSs.to (pss_cons (ps_set (i := 4) sc_law_hands.nd rfl (Or.inl rfl) pe_int)
      (pss_cons (ps_set (i := 5) sc_law_hands.nd rfl (Or.inl rfl) (pe_lst pa_nil))
      (pss_cons (ps_for PassesOwn.never rfl (pi_enum (by rfl) T.m_enumerate (pa_cons (pv 3) pa_nil)) (pg_tupK K rfl rfl (pgs_cons (pg_name (i := 6) sc_law_hands.nd rfl (Or.inl rfl)) (pgs_cons (pg_name (i := 7) sc_law_hands.nd rfl (Or.inl rfl)) pgs_nil)))
        (pss_cons (ps_if (pt_cmpR op_eq (pv 7) pe_str (nomark _)) (pss_cons (ps_set (i := 8) sc_law_hands.nd rfl (Or.inl rfl) (pe_callB (call_len_seqK K rfl) (by rfl) T.m_len (by decide +kernel) (pa_cons (pe_lc (own := [("_law_other", 9)]) (g := gName 9) (by rfl) sc_law_hands.nd (pi_listK K rfl (pe_slice (sl_listK K rfl) (pv 3) (po_some (pe_op op_add (pv 6) pe_int)) po_none)) (blkOk_by (own := [("_law_other", 9)]) (N := N_law_hands) (sc := defScope s_law_hands) (by decide +kernel)) (fun _ _ _ _ _ => (pg_name (i := 9) sc_law_hands.nd rfl (Or.inl rfl))) (fun _ _ _ _ _ => pts_one (pt_cmpR op_ne (pv 9) pe_str (nomark _))) (fun _ _ _ _ _ => (pv 9))) pa_nil)))
      (pss_cons (ps_set (i := 10) sc_law_hands.nd rfl (Or.inl rfl) (pe_call G_law_rule (hr.mono (by decide)) (by rfl) m_law_rule F_law_rule.kp b_law_rule .nil pass0 (pa_cons (pv 0) (pa_cons (pe_op op_sub (pv 4) (pv 8)) pa_nil))))
      (pss_one (ps_expr (pe_bmK K rfl PySem.F.plainAttrs_list PySem.F.slot_list_append PySem.F.type_list_append mt_append (pv 5) (pa_cons (pe_tup (pa_cons (pv 10) (pa_cons (pe_call G_law_pick (hr.mono (by decide)) (by rfl) m_law_pick F_law_pick.kp b_law_pick .nil pass0 (pa_cons (pv 0) (pa_cons (pe_ix (ix_listK K rfl) (pe_lst (pa_cons pe_int (pa_cons pe_int (pa_cons pe_int pa_nil)))) (pe_call G_law_pick (hr.mono (by decide)) (by rfl) m_law_pick F_law_pick.kp b_law_pick .nil pass0 (pa_cons (pv 0) (pa_cons pe_int pa_nil))) (fun _ _ => rfl)) pa_nil))) pa_nil))) pa_nil)))))) (pss_one (ps_expr (pe_bmK K rfl PySem.F.plainAttrs_list PySem.F.slot_list_append PySem.F.type_list_append mt_append (pv 5) (pa_cons (pe_tup (pa_cons (pe_tup (pa_cons (pv 7) pa_nil)) (pa_cons pe_int pa_nil))) pa_nil)))))
      (pss_one (ps_set (i := 4) sc_law_hands.nd rfl (Or.inl rfl) (pe_op op_sub (pv 4) (pe_call G_law_needs (hr.mono (by decide)) (by rfl) m_law_needs F_law_needs.kp b_law_needs .nil pass0 (pa_cons (pe_ix (ix_tupK K rfl) (pe_ix (ix_listK K rfl) (pv 5) (pe_un un_neg pe_int) (fun _ _ => rfl)) pe_int (fun _ _ => rfl)) pa_nil)))))))
      (pss_one (ps_ret (pv 5)))))) R1 ?tail1)))), ?_⟩
  case tail1 =>
    rintro D' σ' H1 ⟨eD, x, sl, ss, rfl, hsl, nsl, hlen, hhand, hall, F1, B1⟩
    refine ⟨(by show 0 ≤ sizeLine; decide), fun hh nhh => ?_⟩
    have I0 : HInv f c sl hh ss H (upd H1 hh (.lst [])) 0 [] [] 20 :=
      { fl := F1.new nhh, bt := B1.new nhh, hsl := same_new nhh _ _ hsl, hhh := upd_same, al := .nil, len := rfl, good := (fun _ h => nomatch h), lf := by have := cnt_le (ss.drop 0); rw [List.length_drop] at this; omega, sum := rfl, nz := (fun _ h => nomatch h), one := (fun h => nomatch h), n1 := nsl, n2 := ne_of_none hsl nhh, n3 := F1.ne nhh, n4 := F1.nec nhh, n5 := B1.none nhh (F1.ne nhh) }
    refine ⟨_, rfl, sl, _, rfl, SqL.of I0.hsl, for_it (n := ss.length) (fun i σ H2 => ∃ (vs : List V) (hs : List HR) (left : Int) (v5 v6 v7 v8 v9 : Option V), σ = [some (.ref f), some (.int m), some (.int (3 + x)), some (.ref sl), some (.int left), some (.ref hh), v5, v6, v7, v8, v9] ∧ HInv f c sl hh ss H H2 i vs hs left)
      ⟨[], [], 20, none, none, none, none, none, rfl, I0⟩ ?_ ?_ ?_ ?_⟩
    · rintro i σ H2 hi ⟨vs, hs, left, v5, v6, v7, v8, v9, rfl, I⟩
      exact ⟨_, _, SqL.of I.hsl, by rw [List.getElem?_map, List.getElem?_eq_getElem hi]; rfl⟩
    · rintro σ H2 ⟨vs, hs, left, v5, v6, v7, v8, v9, rfl, I⟩
      exact ⟨_, SqL.of I.hsl, by rw [List.length_map]; exact Nat.le_refl _⟩
    · rintro i x σ H2 H3 hi ⟨vs, hs, left, v5, v6, v7, v8, v9, rfl, I⟩ ⟨t, y, rfl, nt, rfl, fy⟩
      have ei : ss[i]? = some ss[i] := List.getElem?_eq_getElem hi
      obtain ⟨sd, hsd⟩ : ∃ sd, sd = ss[i] := ⟨_, rfl⟩
      rw [← hsd] at ei
      have ey : y = V.str sd := by
        have := fy _ (SqL.of I.hsl)
        rw [List.getElem?_map, ei] at this
        exact (Option.some.inj this).symm
      subst ey
      have I1 := I.new (o := .tup [V.int ((i : Nat) : Int), V.str sd]) nt
      have hc1 := cnt_cons ei
      have hl := I.lf
      have sz : vs.length < sizeLine := small1000 (by rw [I.al.length, I.len]; omega)
      refine ⟨t, _, rfl, SqT.of upd_same, rfl, _, _, rfl, _, _, rfl, rfl, ?_⟩
      refine ⟨_, rfl, rfl, _, rfl, if_str (fun e => ?_) (fun e => ?_)⟩
      · -- a hand
        refine ⟨_, rfl, _, rfl, _, _, rfl, rfl, _, rfl, sl, _, rfl, SqL.of I1.hsl, fun cp ncp => ?_⟩
        have I2 := I1.new (o := .lst (cutV (ss.map V.str) (some (((i : Nat) : Int) + 1)) none)) ncp
        have ecut : cutV (ss.map V.str) (some (((i : Nat) : Int) + 1)) none = (ss.drop (i + 1)).map V.str := by
          rw [show ((i : Nat) : Int) + 1 = ((i + 1 : Nat) : Int) by omega, cut_drop, List.map_drop]
        refine ⟨cp, rfl, ⟨_, SqL.of upd_same⟩, fun D nD => lc_list (K := K) (a := cp) (xs := cutV (ss.map V.str) (some (((i : Nat) : Int) + 1)) none) (fun j H5 => ∃ acc : List V, H5 D = some (.lst acc) ∧ acc.length = cnt ((ss.drop (i + 1)).take j) ∧ H5 cp = some (.lst (cutV (ss.map V.str) (some (((i : Nat) : Int) + 1)) none)) ∧ HInv f c sl hh ss H H5 i vs hs left ∧ D ≠ cp ∧ D ≠ f ∧ D ≠ c ∧ D ≠ sl ∧ D ≠ hh ∧ H D = Option.none)
          ⟨[], upd_same, rfl, same_new nD _ _ upd_same, I2.new nD, (ne_of_none upd_same nD).symm, I2.fl.ne nD, I2.fl.nec nD, (ne_of_none I2.hsl nD).symm, (ne_of_none I2.hhh nD).symm, I2.bt.none nD (I2.fl.ne nD)⟩ (fun j H5 _ ⟨_, _, _, h, _⟩ => SqL.of h) ?_ ?_⟩
        · rintro j z H5 hz ⟨acc, hD, hacc, hcp, I5, d1, d2, d3, d4, d5, d6⟩
          rw [ecut, List.getElem?_map] at hz
          cases ez : (ss.drop (i + 1))[j]? with
          | none => rw [ez] at hz; cases hz
          | some so =>
            rw [ez] at hz
            obtain rfl : V.str so = z := Option.some.inj hz
            refine ⟨rfl, _, rfl, rfl, _, rfl, if_bl (fun k => ?_) (fun k => ?_)⟩
            · have k2 : ¬ so = "in" := fun y => by
                rw [y] at k
                exact absurd k (by decide +kernel)
              refine ⟨_, rfl, acc, hD, ?_, acc ++ [V.str so], upd_same, ?_, by rw [upd_ne d1.symm]; exact hcp, ?_, d1, d2, d3, d4, d5, d6⟩
              · rw [hacc]
                have := cnt_le ((ss.drop (i + 1)).take j)
                rw [List.length_take, List.length_drop] at this
                exact small1000 (by omega)
              · rw [List.length_append, hacc, List.take_add_one, ez]
                unfold cnt
                rw [List.filter_append, List.length_append]
                simp [k2]
              · exact { I5 with fl := I5.fl.lst d2 d3, bt := I5.bt.own d6, hsl := by rw [upd_ne d4.symm]; exact I5.hsl, hhh := by rw [upd_ne d5.symm]; exact I5.hhh, al := I5.al.imp fun _ _ y => y.keep (TK.lst hD) }
            · have k2 : so = "in" := by
                by_cases y : so = "in"
                · exact y
                · have k3 : (!decide (V.str so = V.str "in")) = false := k
                  rw [decide_eq_false (fun y2 => y (V.str.inj y2))] at k3
                  cases k3
              refine ⟨acc, hD, ?_, hcp, I5, d1, d2, d3, d4, d5, d6⟩
              rw [hacc, List.take_add_one, ez]
              unfold cnt
              rw [List.filter_append, List.length_append]
              simp [k2]
        · rintro H5 ⟨acc, hD, hacc, hcp, I5, d1, d2, d3, d4, d5, d6⟩
          have hacc2 : acc.length = cnt (ss.drop (i + 1)) := by
            rw [hacc, List.take_of_length_le]
            rw [ecut, List.length_map]
            exact Nat.le_refl _
          have hm0 : 0 ≤ left - ((acc.length : Nat) : Int) := by
            have hne : ¬ sd = "in" := by rw [e]; decide +kernel
            rw [hacc2]
            rw [hc1, if_neg hne] at hl
            omega
          refine ⟨D, _, rfl, .inl (SqL.of hD), ?_⟩
          refine ⟨_, rfl, _, rfl, _, rfl, _, _, rfl, rfl, f, c, _, rfl, hm0, I5.fl, fun r hR H6 hr6 gR n1 n0 mo F6 B6 => ?_⟩
          have I6 := I5.but F6 B6
          refine ⟨_, rfl, .inl ⟨rfl, _, SqL.of I6.hhh⟩, _, rfl, _, rfl, (by show 3 ≤ sizeLine; decide), fun ml nml => ?_⟩
          have I7 := I6.new (o := .lst [V.int 5, V.int 5, V.int 31]) nml
          refine ⟨_, rfl, f, c, 3, rfl, by decide, by decide +kernel, I7.fl, fun z H8 z0 z3 F8 B8 => ?_⟩
          have I8 := I7.but F8 B8
          have hml := B8 _ _ upd_same (I6.fl.ne nml)
          obtain ⟨mm, hmm, mk⟩ : ∃ mm : Int, atI [V.int 5, V.int 5, V.int 31] z = some (.int mm) ∧ (mm = 5 ∨ mm = 31) := by
            have : z = 0 ∨ z = 1 ∨ z = 2 := by omega
            rcases this with rfl | rfl | rfl
            · exact ⟨5, rfl, .inl rfl⟩
            · exact ⟨5, rfl, .inl rfl⟩
            · exact ⟨31, rfl, .inr rfl⟩
          refine ⟨ml, _, _, _, rfl, rfl, SqL.of hml, hmm, f, c, mm, rfl, by omega, (by rcases mk with rfl | rfl <;> decide +kernel), I8.fl, fun mo2 H9 o0 o1 F9 B9 => ?_⟩
          have I9 := I8.but F9 B9
          refine ⟨(by show 2 ≤ sizeLine; decide), fun t2 nt2 => ?_⟩
          have I10 := I9.new (o := .tup [V.ref r, V.int mo2]) nt2
          have sz10 : vs.length < sizeLine := sz
          refine ⟨hh, _, _, rfl, rfl, I10.hhh, sz10, ?_⟩
          have k9 : TK H6 H9 := ((TK.new nml).trans (TK.but I7.fl B8)).trans (TK.but I8.fl B9)
          have hx : HandAt (upd H9 t2 (.tup [V.ref r, V.int mo2])) (V.ref t2) ⟨hR.wd, hR.no, mo2⟩ := ⟨t2, r, rfl, upd_same, TK.new nt2 _ _ (k9 _ _ hr6)⟩
          have gd : GoodHand ⟨hR.wd, hR.no, mo2⟩ := ⟨.inl ⟨gR.wd, gR.no, gR.big⟩, o0, (show mo2 ≤ 30 by omega)⟩
          have nout : hR.wd ≠ "out" ∧ hR.wd ≠ "in" := ⟨fun y => by
            have := gR.wd
            rw [y] at this
            exact absurd this (by decide +kernel), fun y => by
            have := gR.wd
            rw [y] at this
            exact absurd this (by decide +kernel)⟩
          have I11 := I10.step (h := ⟨hR.wd, hR.no, mo2⟩) hx gd n0 (by show needs hR.wd + _ ≤ left; rw [hacc2] at n1; omega) ei (fun _ => nout)
          refine ⟨_, rfl, _, rfl, 1, rfl, hh, _, -1, _, rfl, rfl, SqL.of I11.hhh, atI_last _ _, t2, _, _, _, rfl, rfl, SqT.of (TK.lst I10.hhh _ _ upd_same), atI_nat (j := 0) rfl, r, hR.wd, _, rfl, SqT.of (TK.lst I10.hhh _ _ (TK.new nt2 _ _ (k9 _ _ hr6))), fun H12 s12 => ⟨_, _, rfl, rfl, ?_⟩⟩
          exact ⟨_, _, _, _, _, _, _, _, rfl, I11.same s12⟩
      · -- a door
        refine ⟨_, rfl, .inl ⟨rfl, _, SqL.of I1.hhh⟩, _, rfl, (by show 1 ≤ sizeLine; decide), fun r nr => ⟨(by show 2 ≤ sizeLine; decide), fun t2 nt2 => ?_⟩⟩
        have I2 := (I1.new (o := .tup [V.str sd]) nr).new (o := .tup [V.ref r, V.int 0]) nt2
        refine ⟨hh, _, _, rfl, rfl, I2.hhh, sz, ?_⟩
        have hsd2 : sd = "in" ∨ sd = "out" := by
          rcases hall sd (List.mem_of_getElem? ei) with y | y | y
          · exact .inl y
          · exact .inr y
          · exact absurd y e
        have hn : needs sd = (if sd = "in" then 0 else 1) := by
          rcases hsd2 with y | y <;> rw [y] <;> decide +kernel
        have hx : HandAt (upd (upd (upd H2 t (.tup [V.int ((i : Nat) : Int), V.str sd])) r (.tup [V.str sd])) t2 (.tup [V.ref r, V.int 0])) (V.ref t2) ⟨sd, none, 0⟩ := ⟨t2, r, rfl, upd_same, same_new nt2 _ _ upd_same⟩
        have I3 := I2.step (h := ⟨sd, none, 0⟩) hx ⟨.inr ⟨hsd2, rfl⟩, (show (0 : Int) ≤ 0 by decide), (show (0 : Int) ≤ 30 by decide)⟩ (by show 0 ≤ needs sd; rw [hn]; split <;> decide) (by
          show needs sd + _ ≤ left
          rw [hn]
          rw [hc1] at hl
          by_cases y : sd = "in"
          · rw [if_pos y] at hl ⊢; omega
          · rw [if_neg y] at hl ⊢; omega) ei (fun y => absurd y e)
        refine ⟨_, rfl, _, rfl, 1, rfl, hh, _, -1, _, rfl, rfl, SqL.of I3.hhh, atI_last _ _, t2, _, _, _, rfl, rfl, SqT.of (TK.lst I2.hhh _ _ upd_same), atI_nat (j := 0) rfl, r, sd, _, rfl, SqT.of (TK.lst I2.hhh _ _ (same_new nt2 _ _ upd_same)), fun H12 s12 => ⟨_, _, rfl, rfl, ?_⟩⟩
        exact ⟨_, _, _, _, _, _, _, _, rfl, I3.same s12⟩
    · rintro σ H2 ⟨vs, hs, left, v5, v6, v7, v8, v9, rfl, I⟩
      refine ⟨_, rfl, ?_⟩
      rw [eD]
      refine q hh vs hs H2 I.n5 I.hhh I.al ⟨by rw [I.len]; exact hlen, I.good, ?_, I.nz, I.one (by rw [List.take_length]; exact hhand)⟩ I.fl I.bt
      have := I.sum
      have := I.lf
      omega
  obtain ⟨x, ex⟩ : ∃ x : Int, (if decide (m < 7) = true then (1 : Int) else 0) = x := ⟨_, rfl⟩
  have xb : x = 0 ∨ (x = 1 ∧ m < 7) := by
    by_cases h7 : m < 7
    · rw [decide_eq_true h7] at ex
      exact .inr ⟨ex.symm, h7⟩
    · rw [decide_eq_false h7] at ex
      exact .inl ex.symm
  have lx : (3 + x).natAbs.log2 < 9000 := by
    rcases xb with rfl | ⟨rfl, _⟩ <;> decide +kernel
  refine ⟨_, rfl, _, _, rfl, rfl, .inr ⟨_, rfl, 3, x, rfl, congrArg V.int ex, ?_⟩⟩
  refine ⟨(by show 1 ≤ sizeLine; decide), fun l1 nl1 => ?_⟩
  refine ⟨_, rfl, _, rfl, f, c, 3 + x, rfl, by omega, lx, hF.new nl1, fun v1 H1 a1 b1 F1 B1 => ?_⟩
  have g1 := B1 _ _ upd_same (hF.ne nl1)
  have small : ∀ v : Int, 0 ≤ v → v ≤ 8 → [V.str "in"].length * v.toNat ≤ sizeLine := fun v v0 v8 => little (by show 1 * v.toNat ≤ 1000; omega)
  refine ⟨l1, v1, _, rfl, rfl, g1, by omega, by omega, small v1 a1 (by omega), fun p1 np1 => ?_⟩
  rw [flat_rep]
  have F2 := F1.new (o := .lst (List.replicate v1.toNat (V.str "in"))) np1
  refine ⟨(by show 1 ≤ sizeLine; decide), fun l2 nl2 => ?_⟩
  refine ⟨_, rfl, _, rfl, f, c, 3 + x, rfl, by omega, lx, F2.new nl2, fun v2 H3 a2 b2 F3 B3 => ?_⟩
  have g2 := B3 _ _ upd_same (F2.ne nl2)
  have h1 := B3 _ _ (same_new nl2 _ _ upd_same) (F1.ne np1)
  refine ⟨l2, v2, _, rfl, rfl, g2, by omega, by omega, small v2 a2 (by omega), fun p2 np2 => ?_⟩
  rw [flat_rep]
  have F4 := F3.new (o := .lst (List.replicate v2.toNat (V.str "out"))) np2
  refine ⟨p1, p2, _, _, rfl, rfl, same_new np2 _ _ h1, upd_same, ?_, fun p3 np3 => ?_⟩
  · rw [List.length_replicate, List.length_replicate]; exact little (by omega)
  have F5 := F4.new (o := .lst (List.replicate v1.toNat (V.str "in") ++ List.replicate v2.toNat (V.str "out"))) np3
  refine ⟨(by show 1 ≤ sizeLine; decide), fun l4 nl4 => ⟨_, rfl, l4, m, _, rfl, rfl, upd_same, by omega, by omega, small m (by omega) m8, fun p5 np5 => ?_⟩⟩
  rw [flat_rep]
  have F6 := F5.new (o := .lst [V.str "hand"]) nl4
  have F7 := F6.new (o := .lst (List.replicate m.toNat (V.str "hand"))) np5
  refine ⟨p3, p5, _, _, rfl, rfl, same_new np5 _ _ (same_new nl4 _ _ upd_same), upd_same, ?_, fun p6 np6 => ?_⟩
  · rw [List.length_append, List.length_replicate, List.length_replicate, List.length_replicate]; exact little (by omega)
  refine ⟨_, rfl, _, rfl, f, c, p6, _, rfl, SqL.of upd_same, F7.ne np6, ?_, F7.new np6, fun p ys H8 hp np hy F8 B8 => ?_⟩
  · rw [List.length_append, List.length_append, List.length_replicate, List.length_replicate, List.length_replicate]; omega
  have ez : (List.replicate v1.toNat (V.str "in") ++ List.replicate v2.toNat (V.str "out")) ++ List.replicate m.toNat (V.str "hand") = ((List.replicate v1.toNat ("in" : Str) ++ List.replicate v2.toNat ("out" : Str)) ++ List.replicate m.toNat ("hand" : Str)).map V.str := by
    rw [List.map_append, List.map_append, List.map_replicate, List.map_replicate, List.map_replicate]
  rw [ez] at hp
  obtain ⟨ss, rfl, hss⟩ := perm_strs hp
  have pf : p ≠ f := fun y => by
    rw [y] at np
    obtain ⟨_, _, _, _, _, e1, _⟩ := F7.new (o := .lst ((List.replicate v1.toNat (V.str "in") ++ List.replicate v2.toNat (V.str "out")) ++ List.replicate m.toNat (V.str "hand"))) np6
    rw [e1] at np
    cases np
  refine ⟨rfl, x, p, ss, rfl, hy, pf, ?_, ?_, ?_, F8, But.trans ((((((((((But.refl.new nl1).trans B1).new np1).new nl2).trans B3).new np2).new np3).new nl4).new np5).new np6) B8⟩
  · rw [hss.length_eq, List.length_append, List.length_append, List.length_replicate, List.length_replicate, List.length_replicate]; omega
  · refine hss.mem_iff.mpr (List.mem_append_right _ (List.mem_replicate.mpr ⟨by omega, rfl⟩))
  · intro s hs
    rcases List.mem_append.mp (hss.mem_iff.mp hs) with hs | hs
    · rcases List.mem_append.mp hs with hs | hs
      · exact .inl (List.mem_replicate.mp hs).2
      · exact .inr (.inl (List.mem_replicate.mp hs).2)
    · exact .inr (.inr (List.mem_replicate.mp hs).2)
end
/-! ### rules as data -/
abbrev ruleD (h : HR) : List PyData := .str h.wd :: (match h.no with | none => [] | some n => [.int n])
theorem rule_dp {K : PySem.W.Frag} {H : Hp} {r : Addr} {h : HR} (e : H r = some (.tup (ruleL h))) : Dp K H (.ref r) (.tuple (ruleD h)) := by
  obtain ⟨wd, no, mom⟩ := h
  cases no with
  | none => exact .tup (SqT.of e) (.cons (.str _) .nil)
  | some n => exact .tup (SqT.of e) (.cons (.str _) (.cons (.int _) .nil))
theorem rule_shaped {h : HR} (k : PyData.canLay0 (.str h.wd) = true) : SeqAt.shaped (.tuple (ruleD h)) = true := by
  obtain ⟨wd, no, mom⟩ := h
  have k : PyData.canLay0 (.str wd) = true := k
  cases no <;> simp [SeqAt.shaped, PyData.canLay0, PyData.canLayAll0, PyData.depth, PyData.depthAll] <;> simpa [PyData.canLay0] using k
theorem GoodHand.lay {h : HR} (g : GoodHand h) : PyData.canLay0 (.str h.wd) = true := by
  have : h.wd ∈ nine ∨ h.wd = "in" ∨ h.wd = "out" := g.1.elim (fun k => .inl k.wd) (fun k => .inr k.1)
  rcases this with k | k | k
  · unfold nine at k
    simp only [List.mem_cons, List.not_mem_nil, or_false] at k
    rcases k with k | k | k | k | k | k | k | k | k <;> rw [k] <;> decide +kernel
  · rw [k]; decide +kernel
  · rw [k]; decide +kernel
theorem one_shaped {z : Str} (k : PyData.canLay0 (.str z) = true) : SeqAt.shaped (.tuple [.str z]) = true := rule_shaped (h := ⟨z, none, 0⟩) k
theorem at0 {xs : List V} {i : Nat} {v : V} (h : xs[i]? = some v) : atI xs (0 + ((i : Nat) : Int)) = some v := by
  rw [Int.zero_add]
  exact atI_nat h
theorem rule_eqv (h : HR) (z : Str) : PyData.eqv (.tuple (ruleD h)) (.tuple [.str z]) = (decide (h.wd = z) && h.no.isNone) := by
  obtain ⟨wd, no, mom⟩ := h
  have e : (wd == z) = decide (wd = z) := by
    by_cases k : wd = z
    · rw [k, decide_eq_true rfl]; exact beq_self_eq_true z
    · rw [decide_eq_false k]; exact beq_eq_false_iff_ne.mpr k
  cases no with
  | none =>
    show (wd == z && true) = (decide (wd = z) && true)
    rw [e]
  | some n =>
    show (wd == z && false) = (decide (wd = z) && false)
    rw [Bool.and_false, Bool.and_false]
theorem GoodHand.door {h : HR} (g : GoodHand h) (z : Str) (hz : z = "in" ∨ z = "out") : (decide (h.wd = z) && h.no.isNone) = decide (h.wd = z) := by
  by_cases k : h.wd = z
  · rw [decide_eq_true k, Bool.true_and]
    rcases g.1 with g | g
    · have := g.wd
      rw [k] at this
      rcases hz with rfl | rfl <;> exact absurd this (by decide +kernel)
    · rw [g.2]; rfl
  · rw [decide_eq_false k]; rfl
/-! ### numbers in lists -/
abbrev nV (n : Nat) : V := .int (n : Nat)
def unN : V → Nat
  | .int i => i.toNat
  | _ => 0
def unI : V → Int
  | .int i => i
  | _ => 0
theorem perm_inv {α : Type} {f : α → V} {g : V → α} (k : ∀ a, g (f a) = a) {ys : List V} {zs : List α} (h : ys.Perm (zs.map f)) : ∃ ss : List α, ys = ss.map f ∧ ss.Perm zs := by
  refine ⟨ys.map g, ?_, ?_⟩
  · rw [List.map_map]
    symm
    refine (List.map_congr_left (g := id) fun y hy => ?_).trans (List.map_id _)
    obtain ⟨z, _, e⟩ := List.mem_map.mp (h.mem_iff.mp hy)
    subst e
    show f (g (f z)) = f z
    rw [k]
  · have q := h.map g
    rw [List.map_map] at q
    have e : zs.map (g ∘ f) = zs := (List.map_congr_left (g := id) fun z _ => k z).trans (List.map_id _)
    rw [e] at q
    exact q
def nd (hs : List HR) (j : Nat) : Nat := match hs[j]? with | some h => (needs h.wd).toNat | none => 0
def tkTo (hs : List HR) : Nat → List Nat
  | 0 => []
  | n + 1 => tkTo hs n ++ List.replicate (nd hs n) n
theorem tk_count (hs : List HR) (k : Nat) : ∀ n, (tkTo hs n).count k = if k < n then nd hs k else 0
  | 0 => by simp [tkTo]
  | n + 1 => by
    unfold tkTo
    rw [List.count_append, tk_count hs k n, List.count_replicate]
    by_cases h1 : k < n
    · have h2 : ¬ (n == k) = true := by simp; omega
      rw [if_pos h1, if_neg h2, if_pos (show k < n + 1 by omega), Nat.add_zero]
    · by_cases h2 : n = k
      · subst h2
        rw [if_neg h1, if_pos (beq_self_eq_true n), if_pos (show n < n + 1 by omega), Nat.zero_add]
      · have h3 : ¬ (n == k) = true := by simpa using h2
        rw [if_neg h1, if_neg h3, if_neg (show ¬ k < n + 1 by omega)]
theorem tk_mem (hs : List HR) : ∀ n k, k ∈ tkTo hs n → k < n
  | 0, k, h => nomatch h
  | n + 1, k, h => by
    rcases List.mem_append.mp h with h | h
    · exact Nat.lt_succ_of_lt (tk_mem hs n k h)
    · rw [(List.mem_replicate.mp h).2]; exact Nat.lt_succ_self n
theorem tk_len (hs : List HR) (z : ∀ h ∈ hs, 0 ≤ needs h.wd) : ∀ n, n ≤ hs.length → ((tkTo hs n).length : Int) = ((hs.take n).map fun h => needs h.wd).sum
  | 0, _ => rfl
  | n + 1, hn => by
    have e : hs[n]? = some hs[n] := List.getElem?_eq_getElem (by omega)
    unfold tkTo
    rw [List.length_append, List.length_replicate, List.take_add_one, e, List.map_append, List.sum_append, Int.natCast_add, tk_len hs z n (by omega)]
    unfold nd
    rw [e]
    have := z hs[n] (List.getElem_mem _)
    simp only [Option.toList, List.map_cons, List.map_nil, List.sum_cons, List.sum_nil]
    omega
structure RoomOk (hs : List HR) (bs : List BR) : Prop where
  hands : hs.length ≤ 12
  good : ∀ h ∈ hs, GoodHand h
  ends : ∀ b ∈ bs, b.one < hs.length ∧ b.to < hs.length
  out : ∀ b ∈ bs, ∀ h, hs[b.one]? = some h → h.wd ≠ "out"
  th : ∀ b ∈ bs, b.th.length ≤ 300 ∧ True
  rank : ∃ rk : Nat → Int, ∀ b ∈ bs, b.th = [] → rk b.one < rk b.to
  count : ∀ k h, hs[k]? = some h → (((bs.map BR.to).count k : Nat) : Int) = needs h.wd
  many : bs.length ≤ 20
structure RoomAt (H : Hp) (r : Addr) (hs : List HR) (bs : List BR) : Prop where
  ex : ∃ (ha ba : Addr) (hv bv : List V), H r = some (.tup [.ref ha, .ref ba]) ∧ H ha = some (.tup hv) ∧ H ba = some (.tup bv) ∧ All2 (HandAt H) hv hs ∧ All2 (BeltAt H) bv bs
theorem RoomAt.keep {H H' : Hp} {r : Addr} {hs : List HR} {bs : List BR} (a : RoomAt H r hs bs) (k : TK H H') : RoomAt H' r hs bs := by
  obtain ⟨ha, ba, hv, bv, e1, e2, e3, a1, a2⟩ := a.ex
  exact ⟨ha, ba, hv, bv, k _ _ e1, k _ _ e2, k _ _ e3, a1.imp fun _ _ z => z.keep k, a2.imp fun _ _ z => z.keep k⟩
section
variable {P : Program} {w : World} {K : PySem.W.Frag} {mg : Str → Option Value} {base : Heap}
def sp_law_room (K : PySem.W.Frag) : Sp := fun vs H Q _ => ∃ (f c : Addr) (m : Int), vs = [.ref f, .int m] ∧ 1 ≤ m ∧ m ≤ 8 ∧ Flow H f c ∧
  ∀ (r : Addr) (hs : List HR) (bs : List BR) (H' : Hp), RoomAt H' r hs bs → RoomOk hs bs → (∃ h ∈ hs, h.wd ≠ "out" ∧ h.wd ≠ "in") → (∀ b ∈ bs, b.th.length ≤ 6) → Flow H' f c → But f H H' → Q (.ref r) H'
/-- what stands while a room is drawn: the draws, the list of its hands -/
structure RI (f c hh : Addr) (H0 H : Hp) (xs : List V) (hs : List HR) : Prop where
  fl : Flow H f c
  bt : But f H0 H
  lh : H hh = some (.lst xs)
  al : All2 (HandAt H) xs hs
  n1 : hh ≠ f
  n2 : H0 hh = none
section
variable {f c hh : Addr} {H0 H H' : Hp} {xs : List V} {hs : List HR}
theorem RI.but (s : RI f c hh H0 H xs hs) (F : Flow H' f c) (b : But f H H') : RI f c hh H0 H' xs hs :=
  { s with fl := F, bt := s.bt.trans b, lh := b _ _ s.lh s.n1, al := s.al.imp fun _ _ k => k.keep (TK.but s.fl b) }
theorem RI.new {p : Addr} {o : HO} (s : RI f c hh H0 H xs hs) (n : H p = none) : RI f c hh H0 (upd H p o) xs hs :=
  { s with fl := s.fl.new n, bt := s.bt.new n, lh := same_new n _ _ s.lh, al := s.al.imp fun _ _ k => k.keep (TK.new n) }
theorem RI.same (s : RI f c hh H0 H xs hs) (k : Same H H') : RI f c hh H0 H' xs hs :=
  { s with fl := s.fl.same k, bt := s.bt.same k, lh := k _ _ s.lh, al := s.al.imp fun _ _ z => z.keep (TK.same k) }
theorem RI.lst {D : Addr} {as bs : List V} (s : RI f c hh H0 H xs hs) (h : H D = some (.lst as)) (d1 : D ≠ f) (d2 : D ≠ c) (d3 : D ≠ hh) (d4 : H0 D = none) : RI f c hh H0 (upd H D (.lst bs)) xs hs :=
  { s with fl := s.fl.lst d1 d2, bt := s.bt.own d4, lh := by rw [upd_ne d3.symm]; exact s.lh, al := s.al.imp fun _ _ z => z.keep (TK.lst h) }
end
theorem ok_law_room {f : Addr} {fd : FuncData} (F : Fun K "_law_room" "_law_room" s_law_room f fd) (T : Top K mg) : FnOk P w K mg base CX0 5 f fd ["_law_flow_here", "_law_most"] (sp_law_room K) := by
  obtain ⟨f_law_hands, fd_law_hands, F_law_hands, b_law_hands, m_law_hands⟩ := T.d_law_hands
  have G_law_hands := ok_law_hands (P := P) (w := w) (base := base) F_law_hands T
  obtain ⟨f_law_shuffled, fd_law_shuffled, F_law_shuffled, b_law_shuffled, m_law_shuffled⟩ := T.d_law_shuffled
  have G_law_shuffled := ok_law_shuffled (P := P) (w := w) (base := base) F_law_shuffled T
  obtain ⟨f_law_pick, fd_law_pick, F_law_pick, b_law_pick, m_law_pick⟩ := T.d_law_pick
  have G_law_pick := ok_law_pick (P := P) (w := w) (base := base) F_law_pick T
  obtain ⟨f_law_needs, fd_law_needs, F_law_needs, b_law_needs, m_law_needs⟩ := T.d_law_needs
  have G_law_needs := ok_law_needs (P := P) (w := w) (base := base) F_law_needs T
  obtain ⟨f_law_thing, fd_law_thing, F_law_thing, b_law_thing, m_law_thing⟩ := T.d_law_thing
  have G_law_thing := ok_law_thing (P := P) (w := w) (base := base) F_law_thing T
  refine F.ok sc_law_room (fun vs H Q E h => ?_) (fun cdv A outer s H vs Q E hr h => ?_)
  · obtain ⟨f, c, m, rfl, _⟩ := h
    rfl
  obtain ⟨f, c, m, rfl, m1, m8, hF, q⟩ := h
  have hm9 : m.natAbs.log2 < 9000 := by
    obtain ⟨j, rfl⟩ : ∃ j : Nat, m = (j : Int) := ⟨m.toNat, by omega⟩
    exact log_small (by omega)
  let R1 : TS := fun D' σ' H' => D'.rt = Q ∧ ∃ (hh rk gv : Addr) (xs : List V) (hs : List HR) (is : List Int) (gs : List Nat), σ' = [some (.ref f), some (.int m), some (.ref hh), some (.ref rk), some (.ref gv), none, none, none, none, none, none] ∧ RI f c hh H H' xs hs ∧ HandsOk hs ∧ H' rk = some (.lst (is.map V.int)) ∧ is.length = hs.length ∧ H' gv = some (.lst (gs.map nV)) ∧ gs ≠ [] ∧ gs.length ≤ 12 ∧ (∀ k ∈ gs, ∃ h, hs[k]? = some h ∧ h.wd ≠ "out") ∧ rk ≠ f ∧ gv ≠ f
  let R2 : TS := fun D' σ' H' => D'.rt = Q ∧ ∃ (hh rk gv tk : Addr) (xs : List V) (hs : List HR) (is : List Int) (gs ts : List Nat) (v5 : Option V), σ' = [some (.ref f), some (.int m), some (.ref hh), some (.ref rk), some (.ref gv), v5, some (.ref tk), none, none, none, none] ∧ RI f c hh H H' xs hs ∧ HandsOk hs ∧ H' rk = some (.lst (is.map V.int)) ∧ is.length = hs.length ∧ H' gv = some (.lst (gs.map nV)) ∧ gs ≠ [] ∧ gs.length ≤ 12 ∧ (∀ k ∈ gs, ∃ h, hs[k]? = some h ∧ h.wd ≠ "out") ∧ rk ≠ f ∧ gv ≠ f ∧ tk ≠ f ∧ H' tk = some (.lst (ts.map nV)) ∧ ts = tkTo hs hs.length
  refine ⟨_, (pss_cons (ps_set (i := 2) sc_law_room.nd rfl (Or.inr rfl) (pe_call G_law_hands (hr.mono (by decide)) (by rfl) m_law_hands F_law_hands.kp b_law_hands .nil pass0 (pa_cons (pv 0) (pa_cons (pe_op op_add pe_int (pe_call G_law_pick (hr.mono (by decide)) (by rfl) m_law_pick F_law_pick.kp b_law_pick .nil pass0 (pa_cons (pv 0) (pa_cons (pv 1) pa_nil)))) pa_nil))))
      (pss_cons (ps_set (i := 3) sc_law_room.nd rfl (Or.inl rfl) (pe_call G_law_shuffled (hr.mono (by decide)) (by rfl) m_law_shuffled F_law_shuffled.kp b_law_shuffled .nil pass0 (pa_cons (pv 0) (pa_cons (pe_listRg rfl (by rfl) T.m_list (prg_1 (by rfl) T.m_range (pe_callB (call_len_seqK K rfl) (by rfl) T.m_len (by decide +kernel) (pa_cons (pv 2) pa_nil)))) pa_nil))))
      (pss_cons (ps_setLc (i := 4) (own := [("_law_k", 5)]) (g := gName 5) (by rfl) sc_law_room.nd rfl rfl (sw_true rfl rfl rfl (by decide +kernel)) (pi_range1 (by rfl) T.m_range (pa_cons (pe_callB (call_len_seqK K rfl) (by rfl) T.m_len (by decide +kernel) (pa_cons (pv 2) pa_nil)) pa_nil)) (blkOk_by (own := [("_law_k", 5)]) (N := N_law_room) (sc := defScope s_law_room) (by decide +kernel)) (fun _ _ _ _ _ => (pg_name (i := 5) sc_law_room.nd rfl (Or.inl rfl))) (fun _ _ _ _ _ => pts_one (pt_cmpR (op_neDK K rfl hr.units) (pe_ix (ix_tupK K rfl) (pe_ix (ix_listK K rfl) (pv 2) (pv 5) (fun _ _ => rfl)) pe_int (fun _ _ => rfl)) (pe_tup (pa_cons pe_str pa_nil)) (nomark _))) (fun _ _ _ _ _ => (pv 5)))
      (PSs.to (pss_cons (ps_set (i := 6) sc_law_room.nd rfl (Or.inl rfl) (pe_lst pa_nil))
      (pss_cons (ps_for PassesOwn.never rfl (pi_range1 (by rfl) T.m_range (pa_cons (pe_callB (call_len_seqK K rfl) (by rfl) T.m_len (by decide +kernel) (pa_cons (pv 2) pa_nil)) pa_nil)) (pg_name (i := 5) sc_law_room.nd rfl (Or.inl rfl))
        (pss_one (ps_set (i := 6) sc_law_room.nd rfl (Or.inl rfl) (pe_op op_cat (pv 6) (pe_op op_rep (pe_lst (pa_cons (pv 5) pa_nil)) (pe_call G_law_needs (hr.mono (by decide)) (by rfl) m_law_needs F_law_needs.kp b_law_needs .nil pass0 (pa_cons (pe_ix (ix_tupK K rfl) (pe_ix (ix_listK K rfl) (pv 2) (pv 5) (fun _ _ => rfl)) pe_int (fun _ _ => rfl)) pa_nil)))))))
      (PSs.to (pss_cons (ps_set (i := 7) sc_law_room.nd rfl (Or.inl rfl) (pe_lst pa_nil))
      (pss_cons (ps_for PassesOwn.never rfl (pi_listK K rfl (pe_call G_law_shuffled (hr.mono (by decide)) (by rfl) m_law_shuffled F_law_shuffled.kp b_law_shuffled .nil pass0 (pa_cons (pv 0) (pa_cons (pv 6) pa_nil)))) (pg_name (i := 8) sc_law_room.nd rfl (Or.inl rfl))
        (pss_cons (ps_set (i := 9) sc_law_room.nd rfl (Or.inl rfl) (pe_ix (ix_listK K rfl) (pv 4) (pe_call G_law_pick (hr.mono (by decide)) (by rfl) m_law_pick F_law_pick.kp b_law_pick .nil pass0 (pa_cons (pv 0) (pa_cons (pe_callB (call_len_seqK K rfl) (by rfl) T.m_len (by decide +kernel) (pa_cons (pv 4) pa_nil)) pa_nil))) (fun _ _ => rfl)))
      (pss_cons (ps_set (i := 10) sc_law_room.nd rfl (Or.inl rfl) (pe_ix (ix_listK K rfl) (pe_lst (pa_cons pe_int (pa_cons pe_int (pa_cons pe_int (pa_cons pe_int (pa_cons pe_int (pa_cons pe_int (pa_cons pe_int (pa_cons pe_int pa_nil))))))))) (pe_call G_law_pick (hr.mono (by decide)) (by rfl) m_law_pick F_law_pick.kp b_law_pick .nil pass0 (pa_cons (pv 0) (pa_cons pe_int pa_nil))) (fun _ _ => rfl)))
      (pss_cons (ps_if (pt_cmpR op_ge (pe_ix (ix_listK K rfl) (pv 3) (pv 9) (fun _ _ => rfl)) (pe_ix (ix_listK K rfl) (pv 3) (pv 8) (fun _ _ => rfl)) (nomark _)) (pss_one (ps_set (i := 10) sc_law_room.nd rfl (Or.inl rfl) (pe_callB (call_max2 rfl) (by rfl) T.m_max (by decide +kernel) (pa_cons pe_int (pa_cons (pv 10) pa_nil))))) pss_nil)
      (pss_one (ps_expr (pe_bmK K rfl PySem.F.plainAttrs_list PySem.F.slot_list_append PySem.F.type_list_append mt_append (pv 7) (pa_cons (pe_tup (pa_cons (pv 9) (pa_cons (pv 8) (pa_cons (pe_callTy (call_tuple_ofK K rfl) (by rfl) T.m_tuple (by decide +kernel) (pa_cons (pe_lc (own := [("_law_k", 5)]) (g := gName 5) (tt := tYes) (by rfl) sc_law_room.nd (pi_range1 (by rfl) T.m_range (pa_cons (pv 10) pa_nil)) (blkOk_by (own := [("_law_k", 5)]) (N := N_law_room) (sc := defScope s_law_room) (by decide +kernel)) (fun _ _ _ _ _ => (pg_name (i := 5) sc_law_room.nd rfl (Or.inl rfl))) (fun _ _ _ _ _ => pts_nil) (fun _ _ _ _ _ => (pe_call G_law_thing (hr.mono (by decide)) (by rfl) m_law_thing F_law_thing.kp b_law_thing .nil pass0 (pa_cons (pv 0) pa_nil)))) pa_nil)) pa_nil)))) pa_nil))))))))
      (pss_one (ps_ret (pe_tup (pa_cons (pe_callTy (call_tuple_ofK K rfl) (by rfl) T.m_tuple (by decide +kernel) (pa_cons (pv 2) pa_nil)) (pa_cons (pe_callTy (call_tuple_ofK K rfl) (by rfl) T.m_tuple (by decide +kernel) (pa_cons (pv 7) pa_nil)) pa_nil))))))) R2 ?tail2))) R1 ?tail1)))), ?_⟩
  case tail2 =>
    rintro D' σ' H1 ⟨eD, hh, rk, gv, tk, xs, hs, is, gs, ts, v5, rfl, I1, ok, hrk, lis, hgv, gne, glen, gok, nrk, ngv, ntk, htk, ets⟩
    have hx : xs.length = hs.length := I1.al.length
    have len12 := ok.len
    have lts : ts.length ≤ 20 := by
      have a := tk_len hs ok.nz hs.length (Nat.le_refl _)
      rw [List.take_length, ← ets] at a
      have := ok.sum
      omega
    refine ⟨(by show 0 ≤ sizeLine; decide), fun bl nbl => ?_⟩
    have I2 := I1.new (o := .lst []) nbl
    refine ⟨_, rfl, _, rfl, f, c, tk, _, rfl, SqL.of (same_new nbl _ _ htk), ntk, by rw [List.length_map]; omega, I2.fl, fun sh ys H3 hp nsh hsh F3 B3 => ?_⟩
    obtain ⟨tt, rfl, htt⟩ := perm_inv (f := nV) (g := unN) (fun n => by show ((n : Nat) : Int).toNat = n; omega) hp
    have I3 := I2.but F3 B3
    have bf : bl ≠ f := I1.fl.ne nbl
    have bc : bl ≠ c := I1.fl.nec nbl
    have hbl3 := B3 _ _ upd_same bf
    have bsh : bl ≠ sh := fun e => by rw [← e, upd_same] at nsh; cases nsh
    have bnone : H bl = Option.none := I1.bt.none nbl bf
    have rank : Nat → Int := fun k => is.getD k 0
    refine ⟨sh, rfl, ⟨_, SqL.of hsh⟩, for_list (K := K) (a := sh) (xs := tt.map nV) (fun i σ H4 => ∃ (bv : List V) (bs : List BR) (v5 v8 v9 v10 : Option V), σ = [some (.ref f), some (.int m), some (.ref hh), some (.ref rk), some (.ref gv), v5, some (.ref tk), some (.ref bl), v8, v9, v10] ∧ RI f c hh H H4 xs hs ∧ H4 rk = some (.lst (is.map V.int)) ∧ H4 gv = some (.lst (gs.map nV)) ∧ H4 sh = some (.lst (tt.map nV)) ∧ H4 bl = some (.lst bv) ∧ All2 (BeltAt H4) bv bs ∧ bs.map BR.to = tt.take i ∧
        (∀ b ∈ bs, b.one < hs.length ∧ (∀ h, hs[b.one]? = some h → h.wd ≠ "out") ∧ b.th.length ≤ 6 ∧ (∀ x ∈ b.th, Small x) ∧ (b.th = [] → is.getD b.one 0 < is.getD b.to 0)))
      ⟨[], [], v5, none, none, none, rfl, I3, B3 _ _ (same_new nbl _ _ hrk) nrk, B3 _ _ (same_new nbl _ _ hgv) ngv, hsh, hbl3, .nil, rfl, (fun _ h => nomatch h)⟩ (fun i σ H4 _ ⟨_, _, _, _, _, _, _, _, _, _, h, _⟩ => SqL.of h) ?_ ?_⟩
    · rintro i y σ H4 hi ⟨bv, bs, v5, v8, v9, v10, rfl, I4, hrk4, hgv4, hsh4, hbl4, al, em, hb⟩
      rw [List.getElem?_map] at hi
      cases et : tt[i]? with
      | none => rw [et] at hi; cases hi
      | some to =>
      rw [et] at hi
      obtain rfl : nV to = y := Option.some.inj hi
      have toL : to < hs.length := tk_mem hs _ _ (by rw [← ets]; exact htt.mem_iff.mp (List.mem_of_getElem? et))
      have il : i < 20 := by have := (List.getElem?_eq_some_iff.mp et).1; rw [htt.length_eq] at this; omega
      have lb : bs.length = i := by
        have := congrArg List.length em
        rw [List.length_map, List.length_take, Nat.min_eq_left (Nat.le_of_lt (List.getElem?_eq_some_iff.mp et).1)] at this
        exact this
      have g0 : 0 < gs.length := List.length_pos_iff.mpr gne
      refine ⟨_, rfl, _, rfl, _, rfl, gv, _, rfl, .inl (SqL.of hgv4), f, c, _, rfl, (by rw [List.length_map]; omega), (by rw [List.length_map]; exact log_small (by omega)), I4.fl, fun z H5 z0 z1 F5 B5 => ?_⟩
      rw [List.length_map] at z1
      have I5 := I4.but F5 B5
      have hgv5 := B5 _ _ hgv4 ngv
      obtain ⟨one, eo, ho⟩ : ∃ one, atI (gs.map nV) z = some (nV one) ∧ one ∈ gs := by
        have hk : z.toNat < gs.length := by omega
        have ek : z = ((z.toNat : Nat) : Int) := by omega
        refine ⟨gs[z.toNat], ?_, List.getElem_mem _⟩
        have q2 : atI (gs.map nV) ((z.toNat : Nat) : Int) = some (nV gs[z.toNat]) := atI_nat (by rw [List.getElem?_map, List.getElem?_eq_getElem hk]; rfl)
        rw [← ek] at q2
        exact q2
      obtain ⟨ho1, eh1, hout⟩ := gok one ho
      have oneL : one < hs.length := (List.getElem?_eq_some_iff.mp eh1).1
      refine ⟨gv, _, _, _, rfl, rfl, SqL.of hgv5, eo, ?_⟩
      refine ⟨(by show 8 ≤ sizeLine; decide), fun tl ntl => ?_⟩
      have I6 := I5.new (o := .lst [V.int 0, V.int 0, V.int 0, V.int 1, V.int 1, V.int 2, V.int 3, V.int 6]) ntl
      refine ⟨_, rfl, f, c, 8, rfl, by decide, by decide +kernel, I6.fl, fun y2 H7 y0 y8 F7 B7 => ?_⟩
      have I7 := I6.but F7 B7
      have htl := B7 _ _ upd_same (I5.fl.ne ntl)
      obtain ⟨tr, htr, tr0, tr6⟩ : ∃ tr : Int, atI [V.int 0, V.int 0, V.int 0, V.int 1, V.int 1, V.int 2, V.int 3, V.int 6] y2 = some (.int tr) ∧ 0 ≤ tr ∧ tr ≤ 6 := by
        have : y2 = 0 ∨ y2 = 1 ∨ y2 = 2 ∨ y2 = 3 ∨ y2 = 4 ∨ y2 = 5 ∨ y2 = 6 ∨ y2 = 7 := by omega
        rcases this with rfl | rfl | rfl | rfl | rfl | rfl | rfl | rfl
        · exact ⟨0, rfl, by decide, by decide⟩
        · exact ⟨0, rfl, by decide, by decide⟩
        · exact ⟨0, rfl, by decide, by decide⟩
        · exact ⟨1, rfl, by decide, by decide⟩
        · exact ⟨1, rfl, by decide, by decide⟩
        · exact ⟨2, rfl, by decide, by decide⟩
        · exact ⟨3, rfl, by decide, by decide⟩
        · exact ⟨6, rfl, by decide, by decide⟩
      refine ⟨tl, _, _, _, rfl, rfl, SqL.of htl, htr, ?_⟩
      have k7 : But f H4 H7 := (B5.new ntl).trans B7
      have hrk7 := k7 _ _ hrk4 nrk
      have hgv7 := k7 _ _ hgv4 ngv
      have shf : sh ≠ f := fun e => by rw [e] at nsh; obtain ⟨_, _, _, _, _, e1, _⟩ := I2.fl; rw [e1] at nsh; cases nsh
      have hsh7 := k7 _ _ hsh4 shf
      have hbl7 := k7 _ _ hbl4 bf
      have tk7 : TK H4 H7 := (TK.but I4.fl B5).trans ((TK.new ntl).trans (TK.but I6.fl B7))
      have al7 : All2 (BeltAt H7) bv bs := al.imp fun _ _ z => z.keep tk7
      have r1 : (is.map V.int)[one]? = some (.int (is.getD one 0)) := by
        rw [List.getElem?_map, List.getD_eq_getElem?_getD, List.getElem?_eq_getElem (by omega)]; rfl
      have r2 : (is.map V.int)[to]? = some (.int (is.getD to 0)) := by
        rw [List.getElem?_map, List.getD_eq_getElem?_getD, List.getElem?_eq_getElem (by omega)]; rfl
      have bvl : bv.length = i := by rw [al.length, lb]
      -- the end of a turn, with so many trays
      refine ⟨_, rfl, _, rfl, rk, _, _, _, rfl, rfl, SqL.of hrk7, atI_nat r1, _, rfl, _, rfl, rk, _, _, _, rfl, rfl, SqL.of hrk7, atI_nat r2, _, _, rfl, rfl, _, rfl, if_bl (fun kk => ?_) (fun kk => ?_)⟩
      · refine ⟨_, rfl, _, _, rfl, ?_⟩
        generalize ht : (if tr > 1 then tr else 1) = tn
        have tn0 : 0 ≤ tn := by rw [← ht]; split <;> omega
        have tn6 : tn ≤ 6 := by rw [← ht]; split <;> omega
        have ttt : tn.toNat = 0 → is.getD one 0 < is.getD to 0 := fun e => by
          exfalso
          have : 1 ≤ tn := by rw [← ht]; split <;> omega
          omega
        refine ⟨_, rfl, .inl ⟨rfl, _, SqL.of hbl7⟩, _, rfl, _, rfl, _, rfl, _, rfl, by omega, by omega, fun D nD => lc_range (lo := 0) (n := tn.toNat) (fun j H8 => ∃ vs : List Int, vs.length = j ∧ H8 D = some (.lst (vs.map V.int)) ∧ (∀ x ∈ vs, Small x) ∧ RI f c hh H H8 xs hs ∧ But f H7 H8 ∧ TK H7 H8 ∧ D ≠ f ∧ D ≠ c ∧ D ≠ hh ∧ H D = Option.none ∧ H7 D = Option.none)
          ⟨[], rfl, upd_same, (fun _ h => nomatch h), I7.new nD, But.refl.new nD, TK.new nD, I7.fl.ne nD, I7.fl.nec nD, (ne_of_none I7.lh nD).symm, I7.bt.none nD (I7.fl.ne nD), nD⟩ ?_ ?_⟩
        · rintro j H8 hj ⟨vs, lv, hD, sm, I8, b8, t8, d1, d2, d3, d4, d5⟩
          refine ⟨rfl, yes_in ⟨_, rfl, f, c, rfl, I8.fl, fun x H9 sx F9 B9 => ⟨_, B9 _ _ hD d1, ?_, vs ++ [x], by rw [List.length_append, lv]; rfl, ?_, ?_, (I8.but F9 B9).lst (B9 _ _ hD d1) d1 d2 d3 d4, (b8.trans B9).own d5, (t8.trans (TK.but I8.fl B9)).trans (TK.lst (B9 _ _ hD d1)), d1, d2, d3, d4, d5⟩⟩⟩
          · rw [List.length_map, lv]; exact small1000 (by omega)
          · rw [upd_same, List.map_append]; rfl
          · intro y hy
            rcases List.mem_append.mp hy with hy | hy
            · exact sm y hy
            · obtain rfl : y = x := by simpa using hy
              exact sx
        · rintro H8 ⟨vs, lv, hD, sm, I8, b8, t8, d1, d2, d3, d4, d5⟩
          refine ⟨D, _, rfl, .inl ⟨SqL.of hD, fun g ng => ⟨(by show 3 ≤ sizeLine; decide), fun t nt => ?_⟩⟩⟩
          have I9 := (I8.new (o := .tup (vs.map V.int)) ng).new (o := .tup [nV one, nV to, V.ref g]) nt
          have hbl8 := same_new (o := .tup [nV one, nV to, V.ref g]) nt _ _ (same_new (o := .tup (vs.map V.int)) ng _ _ (b8 _ _ hbl7 bf))
          have t9 : TK H7 (upd (upd H8 g (.tup (vs.map V.int))) t (.tup [nV one, nV to, V.ref g])) := (t8.trans (TK.new ng)).trans (TK.new nt)
          have s9 : ∀ b o, H7 b = some o → b ≠ f → (upd (upd H8 g (.tup (vs.map V.int))) t (.tup [nV one, nV to, V.ref g])) b = some o := fun b o e n => same_new nt _ _ (same_new ng _ _ (b8 _ _ e n))
          have bh : bl ≠ hh := fun e => by
            have h1 := I1.lh
            rw [← e, nbl] at h1
            cases h1
          have brk : bl ≠ rk := fun e => by
            have h1 := hrk
            rw [← e, nbl] at h1
            cases h1
          have bgv : bl ≠ gv := fun e => by
            have h1 := hgv
            rw [← e, nbl] at h1
            cases h1
          refine ⟨bl, _, _, rfl, rfl, hbl8, small1000 (by rw [bvl]; omega), ?_⟩
          refine ⟨bv ++ [V.ref t], bs ++ [⟨one, to, vs⟩], _, _, _, _, rfl, I9.lst hbl8 bf bc bh bnone, ?_, ?_, ?_, upd_same, ?_, ?_, ?_⟩
          · rw [upd_ne brk.symm]; exact s9 _ _ hrk7 nrk
          · rw [upd_ne bgv.symm]; exact s9 _ _ hgv7 ngv
          · rw [upd_ne bsh.symm]; exact s9 _ _ hsh7 shf
          · exact ((al7.imp fun _ _ z => z.keep t9).snoc ⟨t, g, rfl, upd_same, same_new nt _ _ upd_same⟩).imp fun _ _ z => z.keep (TK.lst hbl8)
          · rw [List.map_append, em, List.take_add_one, et]; rfl
          · intro b hb2
            rcases List.mem_append.mp hb2 with hb2 | hb2
            · exact hb b hb2
            · obtain rfl : b = ⟨one, to, vs⟩ := by simpa using hb2
              refine ⟨oneL, fun h e => ?_, by show vs.length ≤ 6; omega, sm, fun e => ?_⟩
              · have e : hs[one]? = some h := e
                rw [eh1] at e
                cases e
                exact hout
              · have e : vs = [] := e
                rw [e] at lv
                exact ttt (by simpa using lv.symm)
      · obtain ⟨tn, ht⟩ : ∃ tn, tn = tr := ⟨_, rfl⟩
        rw [← ht]
        have tn0 : 0 ≤ tn := by omega
        have tn6 : tn ≤ 6 := by omega
        have ttt : tn.toNat = 0 → is.getD one 0 < is.getD to 0 := fun _ => by
          have : ¬ is.getD to 0 ≤ is.getD one 0 := of_decide_eq_false kk
          omega
        refine ⟨_, rfl, .inl ⟨rfl, _, SqL.of hbl7⟩, _, rfl, _, rfl, _, rfl, _, rfl, by omega, by omega, fun D nD => lc_range (lo := 0) (n := tn.toNat) (fun j H8 => ∃ vs : List Int, vs.length = j ∧ H8 D = some (.lst (vs.map V.int)) ∧ (∀ x ∈ vs, Small x) ∧ RI f c hh H H8 xs hs ∧ But f H7 H8 ∧ TK H7 H8 ∧ D ≠ f ∧ D ≠ c ∧ D ≠ hh ∧ H D = Option.none ∧ H7 D = Option.none)
          ⟨[], rfl, upd_same, (fun _ h => nomatch h), I7.new nD, But.refl.new nD, TK.new nD, I7.fl.ne nD, I7.fl.nec nD, (ne_of_none I7.lh nD).symm, I7.bt.none nD (I7.fl.ne nD), nD⟩ ?_ ?_⟩
        · rintro j H8 hj ⟨vs, lv, hD, sm, I8, b8, t8, d1, d2, d3, d4, d5⟩
          refine ⟨rfl, yes_in ⟨_, rfl, f, c, rfl, I8.fl, fun x H9 sx F9 B9 => ⟨_, B9 _ _ hD d1, ?_, vs ++ [x], by rw [List.length_append, lv]; rfl, ?_, ?_, (I8.but F9 B9).lst (B9 _ _ hD d1) d1 d2 d3 d4, (b8.trans B9).own d5, (t8.trans (TK.but I8.fl B9)).trans (TK.lst (B9 _ _ hD d1)), d1, d2, d3, d4, d5⟩⟩⟩
          · rw [List.length_map, lv]; exact small1000 (by omega)
          · rw [upd_same, List.map_append]; rfl
          · intro y hy
            rcases List.mem_append.mp hy with hy | hy
            · exact sm y hy
            · obtain rfl : y = x := by simpa using hy
              exact sx
        · rintro H8 ⟨vs, lv, hD, sm, I8, b8, t8, d1, d2, d3, d4, d5⟩
          refine ⟨D, _, rfl, .inl ⟨SqL.of hD, fun g ng => ⟨(by show 3 ≤ sizeLine; decide), fun t nt => ?_⟩⟩⟩
          have I9 := (I8.new (o := .tup (vs.map V.int)) ng).new (o := .tup [nV one, nV to, V.ref g]) nt
          have hbl8 := same_new (o := .tup [nV one, nV to, V.ref g]) nt _ _ (same_new (o := .tup (vs.map V.int)) ng _ _ (b8 _ _ hbl7 bf))
          have t9 : TK H7 (upd (upd H8 g (.tup (vs.map V.int))) t (.tup [nV one, nV to, V.ref g])) := (t8.trans (TK.new ng)).trans (TK.new nt)
          have s9 : ∀ b o, H7 b = some o → b ≠ f → (upd (upd H8 g (.tup (vs.map V.int))) t (.tup [nV one, nV to, V.ref g])) b = some o := fun b o e n => same_new nt _ _ (same_new ng _ _ (b8 _ _ e n))
          have bh : bl ≠ hh := fun e => by
            have h1 := I1.lh
            rw [← e, nbl] at h1
            cases h1
          have brk : bl ≠ rk := fun e => by
            have h1 := hrk
            rw [← e, nbl] at h1
            cases h1
          have bgv : bl ≠ gv := fun e => by
            have h1 := hgv
            rw [← e, nbl] at h1
            cases h1
          refine ⟨bl, _, _, rfl, rfl, hbl8, small1000 (by rw [bvl]; omega), ?_⟩
          refine ⟨bv ++ [V.ref t], bs ++ [⟨one, to, vs⟩], _, _, _, _, rfl, I9.lst hbl8 bf bc bh bnone, ?_, ?_, ?_, upd_same, ?_, ?_, ?_⟩
          · rw [upd_ne brk.symm]; exact s9 _ _ hrk7 nrk
          · rw [upd_ne bgv.symm]; exact s9 _ _ hgv7 ngv
          · rw [upd_ne bsh.symm]; exact s9 _ _ hsh7 shf
          · exact ((al7.imp fun _ _ z => z.keep t9).snoc ⟨t, g, rfl, upd_same, same_new nt _ _ upd_same⟩).imp fun _ _ z => z.keep (TK.lst hbl8)
          · rw [List.map_append, em, List.take_add_one, et]; rfl
          · intro b hb2
            rcases List.mem_append.mp hb2 with hb2 | hb2
            · exact hb b hb2
            · obtain rfl : b = ⟨one, to, vs⟩ := by simpa using hb2
              refine ⟨oneL, fun h e => ?_, by show vs.length ≤ 6; omega, sm, fun e => ?_⟩
              · have e : hs[one]? = some h := e
                rw [eh1] at e
                cases e
                exact hout
              · have e : vs = [] := e
                rw [e] at lv
                exact ttt (by simpa using lv.symm)
    · rintro σ H4 ⟨bv, bs, v5, v8, v9, v10, rfl, I4, hrk4, hgv4, hsh4, hbl4, al, em, hb⟩
      rw [List.length_map, List.take_length] at em
      have lb : bs.length = ts.length := by
        have := congrArg List.length em
        rw [List.length_map] at this
        rw [this, htt.length_eq]
      refine ⟨_, rfl, hh, _, rfl, .inl ⟨SqL.of I4.lh, fun a1 na1 => ⟨_, rfl, bl, _, rfl, .inl ⟨SqL.of (same_new na1 _ _ hbl4), fun a2 na2 => ⟨(by show 2 ≤ sizeLine; decide), fun a3 na3 => ?_⟩⟩⟩⟩⟩
      rw [eD]
      have k1 : TK H4 (upd (upd (upd H4 a1 (.tup xs)) a2 (.tup bv)) a3 (.tup [V.ref a1, V.ref a2])) := ((TK.new na1).trans (TK.new na2)).trans (TK.new na3)
      refine q a3 hs bs _ ⟨a1, a2, xs, bv, upd_same, same_new na3 _ _ (same_new na2 _ _ upd_same), same_new na3 _ _ upd_same, I4.al.imp fun _ _ z => z.keep k1, al.imp fun _ _ z => z.keep k1⟩ ⟨ok.len, ok.good, fun b hb2 => ⟨(hb b hb2).1, ?_⟩, fun b hb2 => (hb b hb2).2.1, fun b hb2 => ⟨Nat.le_trans (hb b hb2).2.2.1 (by decide), trivial⟩, ⟨fun k => is.getD k 0, fun b hb2 => (hb b hb2).2.2.2.2⟩, fun k h hk => ?_, by omega⟩ ok.one (fun b hb2 => (hb b hb2).2.2.1) (((I4.fl.new na1).new na2).new na3) (((I4.bt.new na1).new na2).new na3)
      · have : b.to ∈ bs.map BR.to := List.mem_map.mpr ⟨b, hb2, rfl⟩
        rw [em] at this
        exact tk_mem hs _ _ (by rw [← ets]; exact htt.mem_iff.mp this)
      · rw [em, htt.count_eq, ets, tk_count, if_pos (List.getElem?_eq_some_iff.mp hk).1]
        unfold nd
        rw [hk]
        have := ok.nz h (List.mem_of_getElem? hk)
        show (((needs h.wd).toNat : Nat) : Int) = needs h.wd
        omega
  case tail1 =>
    rintro D' σ' H1 ⟨eD, hh, rk, gv, xs, hs, is, gs, rfl, I1, ok, hrk, lis, hgv, gne, glen, gok, nrk, ngv⟩
    refine ⟨(by show 0 ≤ sizeLine; decide), fun tk ntk => ?_⟩
    have I2 := I1.new (o := .lst []) ntk
    have hx : xs.length = hs.length := I1.al.length
    refine ⟨_, rfl, hh, _, rfl, .inl (SqL.of I2.lh), _, rfl, by omega, (by rw [hx]; have := ok.len; omega), for_range (lo := 0) (n := xs.length) (fun i σ H2 => ∃ (tk : Addr) (v5 : Option V), σ = [some (.ref f), some (.int m), some (.ref hh), some (.ref rk), some (.ref gv), v5, some (.ref tk), none, none, none, none] ∧ RI f c hh H H2 xs hs ∧ H2 rk = some (.lst (is.map V.int)) ∧ H2 gv = some (.lst (gs.map nV)) ∧ tk ≠ f ∧ H2 tk = some (.lst ((tkTo hs i).map nV)))
      ⟨tk, none, rfl, I2, same_new ntk _ _ hrk, same_new ntk _ _ hgv, I1.fl.ne ntk, upd_same⟩ ?_ ?_⟩
    · rintro i σ H2 hi ⟨tk, v5, rfl, I3, hrk3, hgv3, tf, htk⟩
      have eh : hs[i]? = some hs[i] := List.getElem?_eq_getElem (by omega)
      obtain ⟨x, ex, ⟨t, r, rfl, e1, e2⟩⟩ := I3.al.get eh
      have z0 := ok.nz _ (List.mem_of_getElem? eh)
      have zs : needs hs[i].wd ≤ 3 := by
        unfold needs
        split
        · decide
        · split
          · decide
          · split <;> decide
      have sz : (tkTo hs i).length ≤ 20 := by
        have a := tk_len hs ok.nz i (by omega)
        have b : ((hs.take i).map fun h => needs h.wd).sum ≤ (hs.map fun h => needs h.wd).sum := by
          have e : hs.map (fun h => needs h.wd) = (hs.take i).map (fun h => needs h.wd) ++ (hs.drop i).map (fun h => needs h.wd) := by rw [← List.map_append, List.take_append_drop]
          rw [e, List.sum_append]
          have : 0 ≤ ((hs.drop i).map fun h => needs h.wd).sum := by
            have hz : ∀ h ∈ hs.drop i, 0 ≤ needs h.wd := fun h hh => ok.nz h (List.mem_of_mem_drop hh)
            revert hz
            generalize hs.drop i = l
            intro hz
            induction l with
            | nil => decide
            | cons a l ih =>
              have := hz a (List.mem_cons_self ..)
              have := ih fun h hh => hz h (List.mem_cons_of_mem _ hh)
              rw [List.map_cons, List.sum_cons]
              omega
          omega
        have := ok.sum
        omega
      refine ⟨_, rfl, _, rfl, (by show 1 ≤ sizeLine; decide), fun l1 nl1 => ?_⟩
      have I4 := I3.new (o := .lst [V.int (0 + ((i : Nat) : Int))]) nl1
      refine ⟨_, rfl, _, rfl, hh, _, _, _, rfl, rfl, SqL.of I4.lh, at0 ex, t, _, _, _, rfl, rfl, SqT.of (same_new nl1 _ _ e1), atI_nat (j := 0) rfl, r, hs[i].wd, _, rfl, SqT.of (same_new nl1 _ _ e2), fun H5 s5 => ?_⟩
      have I5 := I4.same s5
      have g1 := s5 _ _ upd_same
      have g2 := s5 _ _ (same_new nl1 _ _ htk)
      refine ⟨l1, _, _, rfl, rfl, g1, by omega, by omega, little (by show 1 * (needs hs[i].wd).toNat ≤ 1000; omega), fun l2 nl2 => ?_⟩
      rw [flat_rep]
      have I6 := I5.new (o := .lst (List.replicate (needs hs[i].wd).toNat (V.int (0 + ((i : Nat) : Int))))) nl2
      refine ⟨tk, l2, _, _, rfl, rfl, same_new nl2 _ _ g2, upd_same, ?_, fun l3 nl3 => ?_⟩
      · rw [List.length_map, List.length_replicate]; exact little (by omega)
      refine ⟨l3, _, rfl, I6.new nl3, same_new nl3 _ _ (same_new nl2 _ _ (s5 _ _ (same_new nl1 _ _ hrk3))), same_new nl3 _ _ (same_new nl2 _ _ (s5 _ _ (same_new nl1 _ _ hgv3))), I6.fl.ne nl3, ?_⟩
      rw [upd_same]
      have e : nd hs i = (needs hs[i].wd).toNat := by unfold nd; rw [eh]
      rw [show tkTo hs (i + 1) = tkTo hs i ++ List.replicate (nd hs i) i from rfl, List.map_append, List.map_replicate, e, Int.zero_add]
    · rintro σ H2 ⟨tk, v5, rfl, I3, hrk3, hgv3, tf, htk⟩
      exact ⟨eD, hh, rk, gv, tk, xs, hs, is, gs, _, v5, rfl, I3, ok, hrk3, lis, hgv3, gne, glen, gok, nrk, ngv, tf, htk, by rw [hx]⟩
  refine ⟨_, rfl, _, rfl, _, rfl, f, c, m, rfl, by omega, hm9, hF, fun v1 H1 a1 b1 F1 B1 => ?_⟩
  refine ⟨_, _, rfl, rfl, f, c, _, rfl, by omega, by omega, F1, fun hh xs hs H2 nhh hhh al ok F2 B2 => ?_⟩
  have hx : xs.length = hs.length := al.length
  have len12 := ok.len
  have nf : hh ≠ f := F1.ne nhh
  have I2 : RI f c hh H H2 xs hs := ⟨F2, B1.trans B2, hhh, al, nf, B1.none nhh nf⟩
  -- ranks
  refine ⟨_, rfl, _, rfl, hh, _, rfl, .inl (SqL.of I2.lh), _, rfl, ⟨by omega, by omega, by omega, by omega, by omega⟩, fun rg nrg => ?_⟩
  have I3 := I2.new (o := .lst (rgV 0 ((xs.length : Nat) : Int))) nrg
  refine ⟨f, c, rg, _, rfl, SqL.of upd_same, I2.fl.ne nrg, ?_, I3.fl, fun rk ys H4 hp nrk hrk F4 B4 => ?_⟩
  · rw [rgV_length]; omega
  have erg : rgV 0 ((xs.length : Nat) : Int) = ((List.range xs.length).map fun i => ((i : Nat) : Int)).map V.int := by
    unfold rgV
    rw [List.map_map, show (((xs.length : Nat) : Int) - 0).toNat = xs.length by omega]
    refine List.map_congr_left fun i _ => ?_
    show V.int (0 + ((i : Nat) : Int)) = V.int ((i : Nat) : Int)
    rw [Int.zero_add]
  rw [erg] at hp
  obtain ⟨is, rfl, his⟩ := perm_inv (f := V.int) (g := unI) (fun _ => rfl) hp
  have lis : is.length = hs.length := by rw [his.length_eq, List.length_map, List.length_range, hx]
  have I4 := I3.but F4 B4
  have rkf : rk ≠ f := I3.fl.ne nrk
  -- givers
  refine ⟨_, rfl, hh, _, rfl, .inl (SqL.of I4.lh), _, rfl, by omega, by omega, fun D nD => lc_range (lo := 0) (n := xs.length) (fun i H5 => ∃ gs : List Nat, H5 D = some (.lst (gs.map nV)) ∧ gs.length ≤ i ∧ RI f c hh H H5 xs hs ∧ H5 rk = some (.lst (is.map V.int)) ∧ (∀ k ∈ gs, ∃ h, hs[k]? = some h ∧ h.wd ≠ "out") ∧ (∀ k h, k < i → hs[k]? = some h → h.wd ≠ "out" → gs ≠ []) ∧ D ≠ f ∧ D ≠ c ∧ D ≠ hh ∧ D ≠ rk ∧ H D = Option.none)
    ⟨[], upd_same, Nat.le_refl _, I4.new nD, same_new nD _ _ hrk, (fun _ h => nomatch h), (fun k h hk => absurd hk (Nat.not_lt_zero _)), I4.fl.ne nD, I4.fl.nec nD, (ne_of_none I4.lh nD).symm, (ne_of_none hrk nD).symm, I4.bt.none nD (I4.fl.ne nD)⟩ ?_ ?_⟩
  · rintro i H5 hi ⟨gs, hD, lg, I5, hrk5, g1, g2, d1, d2, d3, d4, d5⟩
    have eh : hs[i]? = some hs[i] := List.getElem?_eq_getElem (by omega)
    obtain ⟨x, ex, ⟨t, r, rfl, e1, e2⟩⟩ := I5.al.get eh
    have gh := ok.good _ (List.mem_of_getElem? eh)
    refine ⟨rfl, _, rfl, _, rfl, hh, _, _, _, rfl, rfl, SqL.of I5.lh, at0 ex, t, _, _, _, rfl, rfl, SqT.of e1, atI_nat (j := 0) rfl, (by show 1 ≤ sizeLine; decide), fun o1 no1 => ?_⟩
    have I6 := I5.new (o := .tup [V.str "out"]) no1
    have hD6 : (upd H5 o1 (.tup [V.str "out"])) D = some (.lst (gs.map nV)) := same_new no1 _ _ hD
    refine ⟨_, _, rule_dp (same_new no1 _ _ e2), .tup (SqT.of upd_same) (.cons (.str _) .nil), rule_shaped gh.lay, one_shaped (by decide +kernel), _, rfl, ?_⟩
    rw [rule_eqv, gh.door "out" (.inr rfl)]
    by_cases k : hs[i].wd = "out"
    · rw [decide_eq_true k]
      refine if_bl (fun z => absurd z (by decide)) (fun _ => ⟨gs, hD6, by omega, I6, same_new no1 _ _ hrk5, g1, fun k' h' hk hk2 hk3 => ?_, d1, d2, d3, d4, d5⟩)
      by_cases y : k' = i
      · subst y
        rw [eh] at hk2
        cases hk2
        exact absurd k hk3
      · exact g2 k' h' (by omega) hk2 hk3
    · rw [decide_eq_false k]
      refine if_bl (fun _ => ⟨_, rfl, _, hD6, ?_, gs ++ [i], ?_, ?_, I6.lst hD6 d1 d2 d3 d5, ?_, ?_, fun _ _ _ _ _ z => by simp at z, d1, d2, d3, d4, d5⟩) (fun z => absurd z (by decide))
      · rw [List.length_map]; exact small1000 (by omega)
      · rw [upd_same, List.map_append, Int.zero_add]; rfl
      · rw [List.length_append]; show gs.length + 1 ≤ i + 1; omega
      · rw [upd_ne d4.symm]; exact same_new no1 _ _ hrk5
      · intro k' hk
        rcases List.mem_append.mp hk with hk | hk
        · exact g1 k' hk
        · obtain rfl : k' = i := by simpa using hk
          exact ⟨_, eh, k⟩
  · rintro H5 ⟨gs, hD, lg, I5, hrk5, g1, g2, d1, d2, d3, d4, d5⟩
    obtain ⟨h1, hm1, hm2, _⟩ := ok.one
    obtain ⟨k1, hk1⟩ := List.getElem?_of_mem hm1
    have k1l := (List.getElem?_eq_some_iff.mp hk1).1
    exact ⟨rfl, hh, rk, D, xs, hs, is, gs, rfl, I5, ok, hrk5, lis, hD, g2 k1 h1 (by omega) hk1 hm2, by omega, g1, rkf, d1⟩
end
/-! ### the order of work -/
/-- the belts without trays, their ends -/
def looseOf (bs : List BR) : List (Nat × Nat) := (bs.filter fun b => b.th.isEmpty).map fun b => (b.one, b.to)
def free (ls : List (Nat × Nat)) (left : List Nat) (k : Nat) : Prop := ∀ p ∈ ls, p.2 = k → p.1 ∉ left
/-- each stands as soon as it can -/
inductive Soon (ls : List (Nat × Nat)) : List Nat → List Nat → Prop
  | nil : Soon ls [] []
  | cons {left ord : List Nat} {k : Nat} : k ∈ left → free ls left k → (∀ j ∈ left, free ls left j → k ≤ j) → Soon ls (left.erase k) ord → Soon ls left (k :: ord)
def cN (p : Nat × Nat → Bool) (l : List (Nat × Nat)) : Int := ((l.filter p).length : Nat)
theorem cN_snoc (p : Nat × Nat → Bool) (l : List (Nat × Nat)) (x : Nat × Nat) : cN p (l ++ [x]) = cN p l + (if p x = true then 1 else 0) := by
  unfold cN
  rw [List.filter_append, List.length_append]
  cases h : p x <;> simp [h]
theorem cN_zero {p : Nat × Nat → Bool} {l : List (Nat × Nat)} : cN p l = 0 ↔ ∀ x ∈ l, p x = false := by
  unfold cN
  constructor
  · intro h x hx
    have e : (l.filter p).length = 0 := by omega
    have e2 := List.eq_nil_of_length_eq_zero e
    cases k : p x with
    | false => rfl
    | true =>
      have : x ∈ l.filter p := List.mem_filter.mpr ⟨hx, k⟩
      rw [e2] at this
      cases this
  · intro h
    have e : l.filter p = [] := List.filter_eq_nil_iff.mpr fun x hx => by rw [h x hx]; decide
    rw [e]
    rfl
abbrev owing (left : List Nat) (k : Nat) : Nat × Nat → Bool := fun p => decide (p.2 = k) && decide (p.1 ∈ left)
theorem owing_free {ls : List (Nat × Nat)} {left : List Nat} {k : Nat} : cN (owing left k) ls = 0 ↔ free ls left k := by
  rw [cN_zero]
  constructor
  · intro h p hp e1 e2
    have := h p hp
    have this : (decide (p.2 = k) && decide (p.1 ∈ left)) = false := this
    rw [decide_eq_true e1, decide_eq_true e2] at this
    cases this
  · intro h p hp
    show (decide (p.2 = k) && decide (p.1 ∈ left)) = false
    by_cases e1 : p.2 = k
    · rw [decide_eq_false (h p hp e1), Bool.and_false]
    · rw [decide_eq_false e1, Bool.false_and]
theorem cN_erase {ls : List (Nat × Nat)} {left : List Nat} {k r : Nat} (nd : left.Nodup) (hr : r ∈ left) : cN (owing left k) ls - cN (fun p => decide (p.1 = r) && decide (p.2 = k)) ls = cN (owing (left.erase r) k) ls := by
  induction ls with
  | nil => rfl
  | cons x l ih =>
    have e : ∀ q : Nat × Nat → Bool, cN q (x :: l) = (if q x = true then 1 else 0) + cN q l := fun q => by
      unfold cN
      rw [List.filter_cons]
      cases h : q x <;> simp [h] <;> omega
    have h1 : x.1 ∈ left.erase r ↔ x.1 ≠ r ∧ x.1 ∈ left := nd.mem_erase_iff
    have key : (if owing left k x = true then (1 : Int) else 0) - (if (decide (x.1 = r) && decide (x.2 = k)) = true then 1 else 0) = (if owing (left.erase r) k x = true then 1 else 0) := by
      by_cases a : x.2 = k
      · by_cases b : x.1 = r
        · have d : ¬ r ∈ left.erase r := fun z => (nd.mem_erase_iff.mp z).1 rfl
          simp [owing, a, b, hr, d]
        · by_cases c : x.1 ∈ left
          · have d : x.1 ∈ left.erase r := h1.mpr ⟨b, c⟩
            simp [owing, a, b, c, d]
          · have d : ¬ x.1 ∈ left.erase r := fun z => c (h1.mp z).2
            simp [owing, a, b, c, d]
      · simp [owing, a]
    rw [e, e, e, ← ih]
    omega
/-- some hand is free, where the belts without trays go up -/
theorem some_free {ls : List (Nat × Nat)} {rk : Nat → Int} (hr : ∀ p ∈ ls, rk p.1 < rk p.2) : ∀ {left : List Nat}, left ≠ [] → ∃ k ∈ left, free ls left k := by
  have low : ∀ left : List Nat, left ≠ [] → ∃ k ∈ left, ∀ j ∈ left, rk k ≤ rk j := by
    intro left
    induction left with
    | nil => intro h; exact absurd rfl h
    | cons a l ih =>
      intro _
      cases l with
      | nil => exact ⟨a, by simp, fun j hj => by have : j = a := by simpa using hj
                                                 rw [this]; exact Int.le_refl _⟩
      | cons b l =>
        obtain ⟨k, hk, h⟩ := ih (by simp)
        by_cases c : rk a ≤ rk k
        · exact ⟨a, by simp, fun j hj => by
            rcases List.mem_cons.mp hj with e | e
            · rw [e]; exact Int.le_refl _
            · exact Int.le_trans c (h j e)⟩
        · exact ⟨k, List.mem_cons_of_mem _ hk, fun j hj => by
            rcases List.mem_cons.mp hj with e | e
            · rw [e]; omega
            · exact h j e⟩
  intro left hl
  obtain ⟨k, hk, h⟩ := low left hl
  refine ⟨k, hk, fun p hp e hm => ?_⟩
  have h1 := h _ hm
  have h2 := hr p hp
  rw [e] at h2
  omega
theorem erase_map {α β : Type} (f : α → β) : ∀ (l : List α) (j : Nat), (l.map f).eraseIdx j = (l.eraseIdx j).map f
  | [], _ => rfl
  | _ :: _, 0 => rfl
  | a :: l, j + 1 => congrArg (f a :: ·) (erase_map f l j)
abbrev fL (n : Nat) (F : Nat → Int) : List V := (List.range n).map fun k => V.int (F k)
theorem fL_get {n k : Nat} {F : Nat → Int} (h : k < n) : (fL n F)[k]? = some (.int (F k)) := by
  rw [List.getElem?_map, List.getElem?_range h]; rfl
theorem fL_set {n k : Nat} {F : Nat → Int} {z : Int} : (fL n F).set k (.int z) = fL n fun j => if j = k then z else F j := by
  apply List.ext_getElem?
  intro i
  rw [List.getElem?_set]
  by_cases h : i < n
  · rw [fL_get h, fL_get h]
    by_cases e : k = i
    · subst e
      rw [if_pos rfl, if_pos rfl, if_pos (by rw [List.length_map, List.length_range]; exact h)]
    · rw [if_neg e, if_neg (fun z => e z.symm)]
  · have h1 : (fL n F)[i]? = none := List.getElem?_eq_none (by rw [List.length_map, List.length_range]; omega)
    have h2 : (fL n fun j => if j = k then z else F j)[i]? = none := List.getElem?_eq_none (by rw [List.length_map, List.length_range]; omega)
    rw [h1, h2]
    by_cases e : k = i
    · rw [if_pos e, if_neg (by rw [List.length_map, List.length_range]; omega)]
    · rw [if_neg e]
def PairAt (H : Hp) (v : V) (p : Nat × Nat) : Prop := ∃ t : Addr, v = .ref t ∧ H t = some (.tup [nV p.1, nV p.2])
theorem PairAt.keep {H H' : Hp} {v : V} {p : Nat × Nat} (a : PairAt H v p) (k : TK H H') : PairAt H' v p := by
  obtain ⟨t, e, h⟩ := a
  exact ⟨t, e, k _ _ h⟩
section
variable {P : Program} {w : World} {K : PySem.W.Frag} {mg : Str → Option Value} {base : Heap}
def sp_work_order (K : PySem.W.Frag) : Sp := fun vs H Q _ => ∃ (r : Addr) (hs : List HR) (bs : List BR) (rk : Nat → Int), vs = [.ref r] ∧ RoomAt H r hs bs ∧ hs.length ≤ 400 ∧ bs.length ≤ 400 ∧ (∀ b ∈ bs, b.one < hs.length ∧ b.to < hs.length) ∧ (∀ p ∈ looseOf bs, rk p.1 < rk p.2) ∧
  ∀ (p : Addr) (ord : List Nat) (H' : Hp), H p = none → H' p = some (.lst (ord.map nV)) → Same H H' → Soon (looseOf bs) (List.range hs.length) ord → Q (.ref p) H'
theorem ok_work_order {f : Addr} {fd : FuncData} (F : Fun K "work_order" "work_order" s_work_order f fd) (T : Top K mg) : FnOk P w K mg base CX0 1 f fd ["room"] (sp_work_order K) := by
  refine F.ok sc_work_order (fun vs H Q E h => ?_) (fun cdv A outer s H vs Q E hr h => ?_)
  · obtain ⟨r, hs, bs, rk, rfl, _⟩ := h
    rfl
  obtain ⟨r, hs, bs, rk, rfl, hR, lh, lb, ends, hrk, q⟩ := h
  obtain ⟨ha, ba, hv, bv, er, eh, eb, alh, alb⟩ := hR.ex
  have lhv := alh.length
  have lbv := alb.length
  have lls : (looseOf bs).length ≤ 400 := by
    unfold looseOf
    rw [List.length_map]
    exact Nat.le_trans (List.length_filter_le ..) lb
  have pls : ∀ p ∈ looseOf bs, p.1 < hs.length ∧ p.2 < hs.length := by
    intro p hp
    obtain ⟨b, hb, e⟩ := List.mem_map.mp hp
    have := ends b (List.mem_filter.mp hb).1
    rw [← e]
    exact this
  let R1 : TS := fun D' σ' H' => D'.rt = Q ∧ ∃ (lo : Addr) (lv : List V), σ' = [some (.ref r), some (.ref ha), some (.ref ba), some (.ref lo), none, none, none, none, none, none, none, none] ∧ H' lo = some (.lst lv) ∧ All2 (PairAt H') lv (looseOf bs) ∧ Same H H' ∧ H lo = none
  let R2 : TS := fun D' σ' H' => D'.rt = Q ∧ ∃ (lo ow : Addr) (lv : List V) (v4 v5 : Option V), σ' = [some (.ref r), some (.ref ha), some (.ref ba), some (.ref lo), v4, v5, none, some (.ref ow), none, none, none, none] ∧ H' lo = some (.lst lv) ∧ All2 (PairAt H') lv (looseOf bs) ∧ Same H H' ∧ H lo = none ∧ H ow = none ∧ lo ≠ ow ∧ H' ow = some (.lst (fL hs.length fun k => cN (owing (List.range hs.length) k) (looseOf bs)))
  refine ⟨_, (pss_cons (ps_asg (pv 0) (pg_tupK K rfl rfl (pgs_cons (pg_name (i := 1) sc_work_order.nd rfl (Or.inl rfl)) (pgs_cons (pg_name (i := 2) sc_work_order.nd rfl (Or.inl rfl)) pgs_nil))))
      (pss_cons (ps_setLc (i := 3) (own := [("giver", 4), ("taker", 5), ("things", 6)]) (g := gTup K 3 (gCons (gName 4) (gCons (gName 5) (gCons (gName 6) gNil)))) (by rfl) sc_work_order.nd rfl rfl (sw_true rfl rfl rfl (by decide +kernel)) (pi_tupK K rfl (pv 2)) (blkOk_by (own := [("giver", 4), ("taker", 5), ("things", 6)]) (N := N_work_order) (sc := defScope s_work_order) (by decide +kernel)) (fun _ _ _ _ _ => (pg_tupK K rfl rfl (pgs_cons (pg_name (i := 4) sc_work_order.nd rfl (Or.inl rfl)) (pgs_cons (pg_name (i := 5) sc_work_order.nd rfl (Or.inl rfl)) (pgs_cons (pg_name (i := 6) sc_work_order.nd rfl (Or.inl rfl)) pgs_nil))))) (fun _ _ _ _ _ => pts_one (pt_not (pt_truthK K rfl (pv 6) (by intro _; rfl)))) (fun _ _ _ _ _ => (pe_tup (pa_cons (pv 4) (pa_cons (pv 5) pa_nil)))))
      (PSs.to (pss_cons (ps_set (i := 7) sc_work_order.nd rfl (Or.inr rfl) (pe_op op_rep (pe_lst (pa_cons pe_int pa_nil)) (pe_callB (call_len_seqK K rfl) (by rfl) T.m_len (by decide +kernel) (pa_cons (pv 1) pa_nil))))
      (pss_cons (ps_for PassesOwn.never rfl (pi_listK K rfl (pv 3)) (pg_tupK K rfl rfl (pgs_cons (pg_name (i := 4) sc_work_order.nd rfl (Or.inl rfl)) (pgs_cons (pg_name (i := 5) sc_work_order.nd rfl (Or.inl rfl)) pgs_nil)))
        (pss_one (ps_augS (pv 7) (pv 5) (get_listK K rfl) pe_int ip_add set_list)))
      (PSs.to (pss_cons (ps_set (i := 8) sc_work_order.nd rfl (Or.inl rfl) (pe_listRg rfl (by rfl) T.m_list (prg_1 (by rfl) T.m_range (pe_callB (call_len_seqK K rfl) (by rfl) T.m_len (by decide +kernel) (pa_cons (pv 1) pa_nil)))))
      (pss_cons (ps_set (i := 9) sc_work_order.nd rfl (Or.inl rfl) (pe_lst pa_nil))
      (pss_cons (ps_while PassesOwn.never (pt_truthK K rfl (pv 8) (by intro _; rfl))
        (pss_cons (ps_set (i := 10) sc_work_order.nd rfl (Or.inl rfl) (pe_callB (cr_minKK K rfl rfl) (by rfl) T.m_min (by decide +kernel) (pa_cons (pe_lc (own := [("hand", 11)]) (g := gName 11) (by rfl) sc_work_order.nd (pi_listK K rfl (pv 8)) (blkOk_by (own := [("hand", 11)]) (N := N_work_order) (sc := defScope s_work_order) (by decide +kernel)) (fun _ _ _ _ _ => (pg_name (i := 11) sc_work_order.nd rfl (Or.inl rfl))) (fun _ _ _ _ _ => pts_one (pt_cmpR op_eq (pe_ix (ix_listK K rfl) (pv 7) (pv 11) (fun _ _ => rfl)) pe_int (nomark _))) (fun _ _ _ _ _ => (pv 11))) pa_nil)))
      (pss_cons (ps_expr (pe_bmK K rfl PySem.F.plainAttrs_list PySem.F.slot_list_remove PySem.F.type_list_remove mt_remove (pv 8) (pa_cons (pv 10) pa_nil)))
      (pss_cons (ps_expr (pe_bmK K rfl PySem.F.plainAttrs_list PySem.F.slot_list_append PySem.F.type_list_append mt_append (pv 9) (pa_cons (pv 10) pa_nil)))
      (pss_one (ps_for PassesOwn.never rfl (pi_listK K rfl (pv 3)) (pg_tupK K rfl rfl (pgs_cons (pg_name (i := 4) sc_work_order.nd rfl (Or.inl rfl)) (pgs_cons (pg_name (i := 5) sc_work_order.nd rfl (Or.inl rfl)) pgs_nil)))
        (pss_one (ps_if (pt_cmpR op_eq (pv 4) (pv 10) (nomark _)) (pss_one (ps_augS (pv 7) (pv 5) (get_listK K rfl) pe_int ip_sub set_list)) pss_nil))))))))
      (pss_one (ps_ret (pv 9)))))) R2 ?tail2))) R1 ?tail1))), ?_⟩
  case tail2 =>
    rintro D' σ' H1 ⟨eD, lo, ow, lv, v4, v5, rfl, hlo, al, s1, nlo, now, low, how⟩
    refine ⟨_, rfl, ha, _, rfl, .inr (SqT.of (s1 _ _ eh)), _, rfl, ⟨by omega, by omega, by omega, by omega, by omega⟩, fun lf nlf => ?_⟩
    refine ⟨(by show 0 ≤ sizeLine; decide), fun od nod => ?_⟩
    have erg : rgV 0 ((hv.length : Nat) : Int) = (List.range hs.length).map nV := by
      unfold rgV
      rw [show (((hv.length : Nat) : Int) - 0).toNat = hs.length by omega]
      refine List.map_congr_left fun i _ => ?_
      show V.int (0 + ((i : Nat) : Int)) = V.int ((i : Nat) : Int)
      rw [Int.zero_add]
    rw [erg] at nod ⊢
    have lf0 : H lf = none := same_none s1 nlf
    have od0 : H od = none := same_none (s1.trans (same_new nlf)) nod
    have lfod : lf ≠ od := ne_of_none upd_same nod
    have lflo : lo ≠ lf := ne_of_none hlo nlf
    have lfow : ow ≠ lf := ne_of_none how nlf
    have odlo : lo ≠ od := ne_of_none (same_new nlf _ _ hlo) nod
    have odow : ow ≠ od := ne_of_none (same_new nlf _ _ how) nod
    have tk2 : TK H1 (upd (upd H1 lf (.lst ((List.range hs.length).map nV))) od (.lst [])) := (TK.new nlf).trans (TK.new nod)
    let W : Nat → L2.St → Hp → Prop := fun mm σ H2 => ∃ (left ord : List Nat) (v4 v5 v10 v11 : Option V), σ = [some (.ref r), some (.ref ha), some (.ref ba), some (.ref lo), v4, v5, none, some (.ref ow), some (.ref lf), some (.ref od), v10, v11] ∧ mm = left.length ∧ left.Nodup ∧ (∀ k ∈ left, k < hs.length) ∧ H2 lo = some (.lst lv) ∧ All2 (PairAt H2) lv (looseOf bs) ∧ Same H H2 ∧ H2 lf = some (.lst (left.map nV)) ∧ H2 od = some (.lst (ord.map nV)) ∧ ord.length + left.length = hs.length ∧ H2 ow = some (.lst (fL hs.length fun k => cN (owing left k) (looseOf bs))) ∧ (∀ rest, Soon (looseOf bs) left rest → Soon (looseOf bs) (List.range hs.length) (ord ++ rest))
    refine ⟨W, ⟨_, List.range hs.length, [], v4, v5, none, none, rfl, rfl, List.nodup_range, fun k hk => List.mem_range.mp hk, same_new nod _ _ (same_new nlf _ _ hlo), al.imp fun _ _ z => z.keep tk2, (s1.trans (same_new nlf)).trans (same_new nod), same_new nod _ _ upd_same, upd_same, by rw [List.length_range]; exact Nat.zero_add _, same_new nod _ _ (same_new nlf _ _ how), fun rest h => h⟩, ?_⟩
    rintro mm σ H2 ⟨left, ord, w4, w5, w10, w11, rfl, rfl, ndl, hll, hlo2, al2, s2, hlf, hod, lol, how2, soon⟩
    refine ⟨_, rfl, _, .inl ⟨_, SqL.of hlf, rfl⟩, ?_⟩
    by_cases ne : left = []
    · subst ne
      refine if_bl (fun z => nomatch z) (fun _ => ⟨_, rfl, ?_⟩)
      rw [eD]
      have := soon [] .nil
      rw [List.append_nil] at this
      exact q od ord H2 od0 hod s2 this
    · have nb : (!(left.map nV).isEmpty) = true := by
        cases left with
        | nil => exact absurd rfl ne
        | cons a l => rfl
      refine if_bl (fun _ => ⟨W (left.length - 1), fun σ' H' hW => ⟨left.length - 1, by have := List.length_pos_iff.mpr ne; omega, hW⟩, ?_⟩) (fun z => by rw [nb] at z; cases z)
      obtain ⟨k0, hk0, fk0⟩ := some_free hrk ne
      -- the free ones
      refine ⟨_, rfl, lf, rfl, ⟨_, SqL.of hlf⟩, fun D nD => lc_list (K := K) (a := lf) (xs := left.map nV) (fun i H5 => ∃ fs : List Nat, H5 D = some (.lst (fs.map nV)) ∧ H5 lf = some (.lst (left.map nV)) ∧ H5 ow = some (.lst (fL hs.length fun k => cN (owing left k) (looseOf bs))) ∧ Same H2 H5 ∧ fs.length ≤ i ∧ (∀ k, k ∈ fs ↔ k ∈ left.take i ∧ free (looseOf bs) left k)) ⟨[], upd_same, same_new nD _ _ hlf, same_new nD _ _ how2, same_new nD, Nat.le_refl _, fun k => ⟨(fun z => nomatch z), (fun z => nomatch z.1)⟩⟩ (fun i H5 _ ⟨_, _, h, _⟩ => SqL.of h) ?_ ?_⟩
      · rintro i x H5 hx ⟨fs, hD, hlf5, how5, s5, lf5, mem⟩
        rw [List.getElem?_map] at hx
        cases ek : left[i]? with
        | none => rw [ek] at hx; cases hx
        | some k =>
        rw [ek] at hx
        obtain rfl : nV k = x := Option.some.inj hx
        have kl := hll k (List.mem_of_getElem? ek)
        refine ⟨rfl, _, rfl, _, rfl, ow, _, _, _, rfl, rfl, SqL.of how5, atI_nat (fL_get kl), rfl, _, rfl, if_bl (fun kk => ?_) (fun kk => ?_)⟩
        · have fk : free (looseOf bs) left k := owing_free.mp (V.int.inj (of_decide_eq_true kk))
          refine ⟨_, rfl, _, hD, ?_, fs ++ [k], ?_, ?_, ?_, Same.own s5 nD, by rw [List.length_append]; show fs.length + 1 ≤ i + 1; omega, fun j => ?_⟩
          · rw [List.length_map]
            have := (List.getElem?_eq_some_iff.mp ek).1
            exact small1000 (by omega)
          · rw [upd_same, List.map_append]; rfl
          · rw [upd_ne (ne_of_none hlf nD)]; exact hlf5
          · rw [upd_ne (ne_of_none how2 nD)]; exact how5
          · rw [List.mem_append, mem, List.take_add_one, ek, List.mem_append]
            constructor
            · rintro (h | h)
              · exact ⟨.inl h.1, h.2⟩
              · obtain rfl : j = k := by simpa using h
                exact ⟨.inr (by simp), fk⟩
            · rintro ⟨h | h, f⟩
              · exact .inl ⟨h, f⟩
              · obtain rfl : j = k := by simpa using h
                exact .inr (by simp)
        · have fk : ¬ free (looseOf bs) left k := fun z => of_decide_eq_false kk (congrArg V.int (owing_free.mpr z))
          refine ⟨fs, hD, hlf5, how5, s5, by omega, fun j => ?_⟩
          rw [mem, List.take_add_one, ek, List.mem_append]
          constructor
          · rintro ⟨h, f⟩
            exact ⟨.inl h, f⟩
          · rintro ⟨h | h, f⟩
            · exact ⟨h, f⟩
            · obtain rfl : j = k := by simpa using h
              exact absurd f fk
      · rintro H5 ⟨fs, hD, hlf5, how5, s5, lf5, mem⟩
        rw [List.length_map, List.take_length] at mem
        have hk0f : k0 ∈ fs := (mem k0).mpr ⟨hk0, fk0⟩
        refine ⟨D, fs.map fun k => ((k : Nat) : Int), rfl, SqL.of (by rw [hD, List.map_map]; rfl), by rw [List.length_map]; exact List.length_pos_of_mem hk0f, fun m hm hmin => ?_⟩
        obtain ⟨k, hk, rfl⟩ := List.mem_map.mp hm
        obtain ⟨hkl, fk⟩ := (mem k).mp hk
        have least : ∀ j ∈ left, free (looseOf bs) left j → k ≤ j := fun j h1 h2 => by
          have := hmin ((j : Nat) : Int) (List.mem_map.mpr ⟨j, (mem j).mpr ⟨h1, h2⟩, rfl⟩)
          omega
        have kl := hll k hkl
        obtain ⟨j, hj, hfirst, ees⟩ : ∃ j : Nat, left[j]? = some k ∧ (∀ m : Nat, m < j → left[m]? ≠ some k) ∧ left.eraseIdx j = left.erase k := by
          refine ⟨left.idxOf k, ?_, fun m hm => ?_, (List.erase_eq_eraseIdx_of_idxOf (rfl : left.idxOf k = left.idxOf k)).symm⟩
          · rw [List.getElem?_eq_getElem (List.idxOf_lt_length_of_mem hkl), List.getElem_idxOf]
          · intro e
            have := List.idxOf_lt_length_of_mem hkl
            have e1 : left[m] = k := (List.getElem?_eq_some_iff.mp e).2
            have e2 : left[left.idxOf k] = k := List.getElem_idxOf this
            have := (List.getElem_inj ndl (h₀ := by omega) (h₁ := this)).mp (e1.trans e2.symm)
            omega
        have elf : left.map nV = (left.map fun k => ((k : Nat) : Int)).map V.int := by rw [List.map_map]; rfl
        refine ⟨_, rfl, .inl ⟨rfl, _, SqL.of hlf5⟩, _, rfl, lf, left.map (fun k => ((k : Nat) : Int)), ((k : Nat) : Int), j, rfl, rfl, by rw [hlf5, elf], by rw [List.getElem?_map, hj]; rfl, fun m hm => ?_, ?_⟩
        · rw [List.getElem?_map]
          intro e
          cases em : left[m]? with
          | none => rw [em] at e; cases e
          | some y =>
            rw [em] at e
            have e : ((y : Nat) : Int) = ((k : Nat) : Int) := Option.some.inj e
            exact hfirst m hm (by rw [em]; congr 1; omega)
        have eer : ((left.map fun k => ((k : Nat) : Int)).eraseIdx j).map V.int = (left.erase k).map nV := by
          rw [← ees, erase_map, List.map_map]; rfl
        rw [eer]
        have hod5 := s5 _ _ hod
        have tk5 := TK.same s5
        have hlo5 := s5 _ _ hlo2
        have s6 : Same H (upd H5 lf (.lst ((left.erase k).map nV))) := Same.own (s2.trans s5) lf0
        have hod6 : (upd H5 lf (.lst ((left.erase k).map nV))) od = some (.lst (ord.map nV)) := by rw [upd_ne lfod.symm]; exact hod5
        have ll := lol
        have hlp := List.length_pos_of_mem hkl
        refine ⟨_, rfl, .inl ⟨rfl, _, SqL.of hod6⟩, _, rfl, od, _, _, rfl, rfl, hod6, by rw [List.length_map]; exact small1000 (by omega), ?_⟩
        have tk7 : TK H2 (upd (upd H5 lf (.lst ((left.erase k).map nV))) od (.lst (ord.map nV ++ [nV k]))) := (tk5.trans (TK.lst hlf5)).trans (TK.lst hod6)
        have hlo7 : (upd (upd H5 lf (.lst ((left.erase k).map nV))) od (.lst (ord.map nV ++ [nV k]))) lo = some (.lst lv) := by
          rw [upd_ne odlo, upd_ne lflo]; exact hlo5
        refine ⟨_, rfl, lo, rfl, ⟨_, SqL.of hlo7⟩, for_list (K := K) (a := lo) (xs := lv) (fun i σ H3 => ∃ v4 v5 : Option V, σ = [some (.ref r), some (.ref ha), some (.ref ba), some (.ref lo), v4, v5, none, some (.ref ow), some (.ref lf), some (.ref od), some (nV k), w11] ∧ H3 lo = some (.lst lv) ∧ All2 (PairAt H3) lv (looseOf bs) ∧ Same H H3 ∧ H3 lf = some (.lst ((left.erase k).map nV)) ∧ H3 od = some (.lst ((ord ++ [k]).map nV)) ∧ H3 ow = some (.lst (fL hs.length fun z => cN (owing left z) (looseOf bs) - cN (fun p => decide (p.1 = k) && decide (p.2 = z)) ((looseOf bs).take i))))
          ⟨w4, w5, rfl, hlo7, al2.imp fun _ _ z => z.keep tk7, Same.own s6 od0, by rw [upd_ne lfod, upd_same], by rw [upd_same, List.map_append]; rfl, ?_⟩ (fun i σ H3 _ ⟨_, _, _, h, _⟩ => SqL.of h) ?_ ?_⟩
        · rw [upd_ne odow, upd_ne lfow, how5]
          congr 2
        · rintro i x σ H3 hx ⟨u4, u5, rfl, hlo3, al3, s3, hlf3, hod3, how3⟩
          obtain ⟨p, ep, ⟨t, rfl, e1⟩⟩ := al3.getL hx
          have hp := pls p (List.mem_of_getElem? ep)
          have etk : (looseOf bs).take (i + 1) = (looseOf bs).take i ++ [p] := by rw [List.take_add_one, ep]; rfl
          refine ⟨t, _, rfl, SqT.of e1, rfl, _, _, rfl, _, _, rfl, rfl, ?_⟩
          refine ⟨_, rfl, _, rfl, rfl, _, rfl, if_bl (fun kk => ?_) (fun kk => ?_)⟩
          · have pk : p.1 = k := by have := V.int.inj (of_decide_eq_true kk); omega
            refine ⟨_, rfl, _, rfl, ow, _, p.2, _, rfl, rfl, SqL.of how3, fL_get hp.2, _, _, rfl, rfl, ow, _, _, p.2, rfl, rfl, how3, ?_, ?_⟩
            · unfold ixN
              rw [if_pos (by omega), if_pos (by rw [List.length_map, List.length_range]; omega), Int.toNat_natCast]
            · refine ⟨_, _, rfl, ?_, al3.imp fun _ _ z => z.keep (TK.lst how3), Same.own s3 now, ?_, ?_, ?_⟩
              · rw [upd_ne low]; exact hlo3
              · rw [upd_ne lfow.symm]; exact hlf3
              · rw [upd_ne odow.symm]; exact hod3
              · rw [upd_same, fL_set]
                congr 2
                refine List.map_congr_left fun z _ => ?_
                show V.int (if z = p.2 then (cN (owing left p.2) (looseOf bs) - cN (fun q => decide (q.1 = k) && decide (q.2 = p.2)) ((looseOf bs).take i)) - 1 else cN (owing left z) (looseOf bs) - cN (fun q => decide (q.1 = k) && decide (q.2 = z)) ((looseOf bs).take i)) = V.int (cN (owing left z) (looseOf bs) - cN (fun q => decide (q.1 = k) && decide (q.2 = z)) ((looseOf bs).take (i + 1)))
                rw [etk, cN_snoc]
                by_cases e : z = p.2
                · subst e
                  simp [pk]
                  omega
                · have : ¬ p.2 = z := fun y => e y.symm
                  simp [e, this]
          · have pk : ¬ p.1 = k := fun e => of_decide_eq_false kk (by rw [e])
            refine ⟨_, _, rfl, hlo3, al3, s3, hlf3, hod3, ?_⟩
            rw [how3]
            congr 2
            refine List.map_congr_left fun z _ => ?_
            show V.int (_ - cN _ _) = V.int (_ - cN _ _)
            rw [etk, cN_snoc]
            simp [pk]
        · rintro σ H3 ⟨u4, u5, rfl, hlo3, al3, s3, hlf3, hod3, how3⟩
          have le : (left.erase k).length = left.length - 1 := List.length_erase_of_mem hkl
          refine ⟨left.erase k, ord ++ [k], u4, u5, _, _, rfl, le.symm, ndl.erase k, fun y hy => hll y (List.mem_of_mem_erase hy), hlo3, al3, s3, hlf3, hod3, by rw [List.length_append, le]; show ord.length + 1 + (left.length - 1) = hs.length; omega, ?_, fun rest h => ?_⟩
          · rw [how3, List.take_of_length_le (by rw [← al3.length]; exact Nat.le_refl _)]
            congr 2
            refine List.map_congr_left fun z _ => ?_
            show V.int (_ - cN _ _) = V.int (cN _ _)
            rw [cN_erase ndl hkl]
          · have := soon (k :: rest) (.cons hkl fk least h)
            rw [List.append_assoc]
            exact this
  case tail1 =>
    rintro D' σ' H1 ⟨eD, lo, lv, rfl, hlo, al, s1, nlo⟩
    refine ⟨(by show 1 ≤ sizeLine; decide), fun l1 nl1 => ⟨_, rfl, ha, _, rfl, .inr (SqT.of (same_new nl1 _ _ (s1 _ _ eh))), l1, _, _, rfl, rfl, upd_same, by omega, by omega, little (by show 1 * _ ≤ 1000; omega), fun ow now => ?_⟩⟩
    have s2 : Same H _ := (s1.trans (same_new (o := .lst [V.int 0]) nl1)).trans (same_new (o := .lst (fL hs.length fun _ => 0)) now)
    have now0 : H ow = none := same_none (s1.trans (same_new nl1)) now
    have hlo2 := same_new (o := .lst (fL hs.length fun _ => 0)) now _ _ (same_new (o := .lst [V.int 0]) nl1 _ _ hlo)
    have low : lo ≠ ow := ne_of_none (same_new nl1 _ _ hlo) now
    have e0 : (List.replicate ((hv.length : Nat) : Int).toNat [V.int 0]).flatten = fL hs.length fun _ => 0 := by
      rw [flat_rep, Int.toNat_natCast, lhv]
      symm
      show (List.range hs.length).map (fun _ => V.int 0) = _
      rw [List.map_const', List.length_range]
    rw [e0]
    refine ⟨_, rfl, lo, rfl, ⟨_, SqL.of hlo2⟩, for_list (K := K) (a := lo) (xs := lv) (fun i σ H3 => ∃ v4 v5 : Option V, σ = [some (.ref r), some (.ref ha), some (.ref ba), some (.ref lo), v4, v5, none, some (.ref ow), none, none, none, none] ∧ H3 lo = some (.lst lv) ∧ All2 (PairAt H3) lv (looseOf bs) ∧ Same H H3 ∧ H3 ow = some (.lst (fL hs.length fun k => cN (fun p => decide (p.2 = k)) ((looseOf bs).take i))))
      ⟨none, none, rfl, hlo2, al.imp fun _ _ z => z.keep ((TK.new nl1).trans (TK.new now)), s2, upd_same⟩ (fun i σ H3 _ ⟨_, _, _, h, _⟩ => SqL.of h) ?_ ?_⟩
    · rintro i x σ H3 hx ⟨v4, v5, rfl, hlo3, al3, s3, how⟩
      obtain ⟨p, ep, ⟨t, rfl, e1⟩⟩ := al3.getL hx
      have hp := pls p (List.mem_of_getElem? ep)
      refine ⟨t, _, rfl, SqT.of e1, rfl, _, _, rfl, _, _, rfl, rfl, ?_⟩
      refine ⟨_, rfl, _, rfl, ow, _, p.2, _, rfl, rfl, SqL.of how, fL_get hp.2, _, _, rfl, rfl, ow, _, _, p.2, rfl, rfl, how, ?_, ?_⟩
      · unfold ixN
        rw [if_pos (by omega), if_pos (by rw [List.length_map, List.length_range]; omega), Int.toNat_natCast]
      · refine ⟨_, _, rfl, ?_, al3.imp fun _ _ z => z.keep (TK.lst how), Same.own s3 now0, ?_⟩
        · rw [upd_ne low]; exact hlo3
        · rw [upd_same, fL_set]
          congr 2
          refine List.map_congr_left fun k _ => ?_
          show V.int (if k = p.2 then cN (fun q => decide (q.2 = p.2)) ((looseOf bs).take i) + 1 else cN (fun q => decide (q.2 = k)) ((looseOf bs).take i)) = V.int (cN (fun q => decide (q.2 = k)) ((looseOf bs).take (i + 1)))
          rw [List.take_add_one, ep, show (some p).toList = [p] from rfl, cN_snoc]
          by_cases e : k = p.2
          · subst e
            simp
          · have : ¬ p.2 = k := fun z => e z.symm
            simp [e, this]
    · rintro σ H3 ⟨v4, v5, rfl, hlo3, al3, s3, how⟩
      refine ⟨eD, lo, ow, lv, v4, v5, rfl, hlo3, al3, s3, nlo, now0, low, ?_⟩
      rw [how, List.take_of_length_le (by rw [← al3.length]; exact Nat.le_refl _)]
      congr 2
      refine List.map_congr_left fun k _ => ?_
      show V.int (cN (fun q => decide (q.2 = k)) (looseOf bs)) = V.int (cN (owing (List.range hs.length) k) (looseOf bs))
      have e : (looseOf bs).filter (fun q => decide (q.2 = k)) = (looseOf bs).filter (owing (List.range hs.length) k) := List.filter_congr fun p hp => by
        have := (pls p hp).1
        show decide (p.2 = k) = (decide (p.2 = k) && decide (p.1 ∈ List.range hs.length))
        rw [decide_eq_true (List.mem_range.mpr this), Bool.and_true]
      unfold cN
      rw [e]
  refine ⟨_, rfl, r, _, rfl, SqT.of er, rfl, _, _, rfl, _, _, rfl, rfl, ?_⟩
  refine ⟨_, rfl, ba, rfl, ⟨_, SqT.of eb⟩, fun D nD => lc_tup (K := K) (a := ba) (xs := bv) (fun i H5 => ∃ lv : List V, H5 D = some (.lst lv) ∧ All2 (PairAt H5) lv (looseOf (bs.take i)) ∧ Same H H5) ⟨[], upd_same, .nil, same_new nD⟩ (fun i H5 _ ⟨_, _, _, s5⟩ => SqT.of (s5 _ _ eb)) ?_ ?_⟩
  · rintro i x H5 hx ⟨lv, hD, al, s5⟩
    obtain ⟨b, eb2, ⟨t, g, rfl, e1, e2⟩⟩ := alb.getL hx
    have il : i < bs.length := (List.getElem?_eq_some_iff.mp eb2).1
    have elo : looseOf (bs.take (i + 1)) = looseOf (bs.take i) ++ (if b.th.isEmpty = true then [(b.one, b.to)] else []) := by
      unfold looseOf
      rw [List.take_add_one, eb2, List.filter_append, List.map_append]
      congr 1
      cases h : b.th.isEmpty <;> simp [h]
    refine ⟨t, _, rfl, SqT.of (s5 _ _ e1), rfl, _, _, rfl, _, _, rfl, _, _, rfl, rfl, rfl, _, rfl, _, .inr (.inl ⟨_, SqT.of (s5 _ _ e2), rfl⟩), ?_⟩
    have lvl : lv.length ≤ 400 := by
      rw [al.length]
      unfold looseOf
      rw [List.length_map]
      refine Nat.le_trans (List.length_filter_le ..) ?_
      rw [List.length_take]
      omega
    refine if_bl (fun kk => ?_) (fun kk => ?_)
    · have ke : b.th.isEmpty = true := by
        cases h : b.th with
        | nil => rfl
        | cons a l => rw [h] at kk; cases kk
      refine ⟨_, rfl, _, rfl, (by show 2 ≤ sizeLine; decide), fun u nu => ⟨lv, same_new nu _ _ hD, small1000 (by omega), lv ++ [V.ref u], upd_same, ?_, ?_⟩⟩
      · rw [elo, if_pos ke]
        exact ((al.imp fun _ _ z => z.keep (TK.new nu)).snoc ⟨u, rfl, upd_same⟩).imp fun _ _ z => z.keep (TK.lst (same_new nu _ _ hD))
      · exact Same.own (s5.trans (same_new nu)) nD
    · have ke : ¬ b.th.isEmpty = true := by
        cases h : b.th with
        | nil => rw [h] at kk; cases kk
        | cons a l => intro z; cases z
      refine ⟨lv, hD, ?_, s5⟩
      rw [elo, if_neg ke, List.append_nil]
      exact al
  · rintro H5 ⟨lv, hD, al, s5⟩
    rw [List.take_of_length_le (by omega)] at al
    exact ⟨rfl, D, lv, rfl, hD, al, s5, nD⟩
end
/-! ### what rules make, bells -/
def mk2 (wd : Str) (a b : Int) : Int :=
  if wd = "sum" then a + b else if wd = "gap" then a - b else if wd = "below" then (if a < b then 1 else 0) else if wd = "most" then (if b > a then b else a) else (if b < a then b else a)
def mk (wd : Str) (n a b c : Int) : Int :=
  if wd = "always" then n else if wd = "times" then n * a else if wd = "pick" then (if a = 0 then c else b) else if wd = "same" ∨ wd = "out" then a else mk2 wd a b
def mkR (h : HR) (xs : List Int) : Int := mk h.wd (h.no.getD 0) (xs.getD 0 0) (xs.getD 1 0) (xs.getD 2 0)
/-- the hands whose rule is this door's -/
def doorsOf (z : Str) (hs : List HR) : List Nat := (List.range hs.length).filter fun i => decide (hs[i]?.map HR.wd = some z)
theorem mem_doors {z : Str} {hs : List HR} {k : Nat} : k ∈ doorsOf z hs ↔ ∃ h, hs[k]? = some h ∧ h.wd = z := by
  unfold doorsOf
  rw [List.mem_filter, List.mem_range, decide_eq_true_eq]
  constructor
  · rintro ⟨a, b⟩
    rw [List.getElem?_eq_getElem a] at b
    exact ⟨_, List.getElem?_eq_getElem a, Option.some.inj b⟩
  · rintro ⟨h, a, b⟩
    refine ⟨(List.getElem?_eq_some_iff.mp a).1, ?_⟩
    rw [a, ← b]
    rfl
theorem doors_nodup {z : Str} {hs : List HR} : (doorsOf z hs).Nodup := List.nodup_range.filter _
theorem doors_len {z : Str} {hs : List HR} : (doorsOf z hs).length ≤ hs.length := by
  refine Nat.le_trans (List.length_filter_le ..) ?_
  rw [List.length_range]
  exact Nat.le_refl _
abbrev gD (m : List Int) (k : Nat) : Int := m.getD k 0
def valB (f : Nat → Int) (b : BR) : Int := match b.th with | [] => f b.one | x :: _ => x
def takes (cur : List BR) (f : Nat → Int) (k : Nat) : List Int := (cur.filter fun b => decide (b.to = k)).map (valB f)
theorem valB_nil {f : Nat → Int} {b : BR} (h : b.th = []) : valB f b = f b.one := by unfold valB; rw [h]
theorem takes_ext {cur : List BR} {f g : Nat → Int} {k : Nat} (h : ∀ b ∈ cur, b.to = k → b.th = [] → f b.one = g b.one) : takes cur f k = takes cur g k := by
  unfold takes
  refine List.map_congr_left fun b hb => ?_
  have hb := List.mem_filter.mp hb
  cases e : b.th with
  | nil => rw [valB_nil e, valB_nil e]; exact h b hb.1 (of_decide_eq_true hb.2) e
  | cons x l => unfold valB; rw [e]
structure IsBell (hs : List HR) (cur : List BR) (ins m : List Int) : Prop where
  len : m.length = hs.length
  door : ∀ j k : Nat, (doorsOf "in" hs)[j]? = some k → m[k]? = ins[j]?
  hand : ∀ (k : Nat) (h : HR), hs[k]? = some h → h.wd ≠ "in" → m[k]? = some (mkR h (takes cur (gD m) k))
theorem mem_loose {cur : List BR} {b : BR} (h : b ∈ cur) (e : b.th = []) : (b.one, b.to) ∈ looseOf cur := List.mem_map.mpr ⟨b, List.mem_filter.mpr ⟨h, by rw [e]; rfl⟩, rfl⟩
theorem bell_one {hs : List HR} {cur : List BR} {ins m m' : List Int} {rk : Nat → Int} (hr : ∀ p ∈ looseOf cur, rk p.1 < rk p.2) (a : IsBell hs cur ins m) (b : IsBell hs cur ins m') : m = m' := by
  have off : ∀ k, ¬ k < hs.length → m[k]? = m'[k]? := fun k hk => by
    rw [List.getElem?_eq_none (by have := a.len; omega), List.getElem?_eq_none (by have := b.len; omega)]
  obtain ⟨D, hD⟩ : ∃ D, D = (List.range hs.length).filter fun k => decide (m[k]? ≠ m'[k]?) := ⟨_, rfl⟩
  have mD : ∀ k, k ∉ D → m[k]? = m'[k]? := fun k hk => by
    by_cases l : k < hs.length
    · by_cases e : m[k]? = m'[k]?
      · exact e
      · refine absurd ?_ hk
        rw [hD, List.mem_filter]
        exact ⟨List.mem_range.mpr l, decide_eq_true e⟩
    · exact off k l
  by_cases e : D = []
  · refine List.ext_getElem? fun k => mD k ?_
    rw [e]
    exact fun z => nomatch z
  · exfalso
    obtain ⟨k, hk, fr⟩ := some_free hr e
    have hk2 := hk
    rw [hD, List.mem_filter] at hk2
    have kl := List.mem_range.mp hk2.1
    have ne : m[k]? ≠ m'[k]? := of_decide_eq_true hk2.2
    have eh : hs[k]? = some hs[k] := List.getElem?_eq_getElem kl
    by_cases w : hs[k].wd = "in"
    · obtain ⟨j, hj⟩ := List.getElem?_of_mem (mem_doors.mpr ⟨_, eh, w⟩)
      exact ne ((a.door j k hj).trans (b.door j k hj).symm)
    · refine ne ((a.hand k _ eh w).trans ((b.hand k _ eh w).trans ?_).symm)
      rw [takes_ext (g := gD m) fun c hc et en => ?_]
      have := mD c.one (fr _ (mem_loose hc en) et)
      show m'.getD c.one 0 = m.getD c.one 0
      rw [List.getD_eq_getElem?_getD, List.getD_eq_getElem?_getD, this]
/-- what some hands have made already -/
structure Part (hs : List HR) (cur : List BR) (ins : List Int) (pm : Nat → Option Int) : Prop where
  dom : ∀ k v, pm k = some v → k < hs.length
  door : ∀ j k : Nat, (doorsOf "in" hs)[j]? = some k → pm k = ins[j]?
  hand : ∀ (k : Nat) (h : HR) (v : Int), hs[k]? = some h → h.wd ≠ "in" → pm k = some v → v = mkR h (takes cur (fun j => (pm j).getD 0) k) ∧ ∀ b ∈ cur, b.to = k → b.th = [] → (pm b.one).isSome = true
abbrev putM (pm : Nat → Option Int) (k : Nat) (v : Int) : Nat → Option Int := fun j => if j = k then some v else pm j
theorem Part.put {hs : List HR} {cur : List BR} {ins : List Int} {pm : Nat → Option Int} (p : Part hs cur ins pm) {k : Nat} {h : HR} (eh : hs[k]? = some h) (w : h.wd ≠ "in") (new : pm k = none)
    (there : ∀ b ∈ cur, b.to = k → b.th = [] → (pm b.one).isSome = true) : Part hs cur ins (putM pm k (mkR h (takes cur (fun j => (pm j).getD 0) k))) := by
  have old : ∀ j, (pm j).isSome = true → ∀ v, putM pm k v j = pm j := fun j hj v => if_neg fun e => by rw [e, new] at hj; cases hj
  have same : ∀ j v, (∀ b ∈ cur, b.to = j → b.th = [] → (pm b.one).isSome = true) → takes cur (fun i => (pm i).getD 0) j = takes cur (fun i => (putM pm k v i).getD 0) j := fun j v hb => takes_ext fun b b1 b2 b3 => by
    show (pm b.one).getD 0 = (putM pm k v b.one).getD 0
    rw [old _ (hb b b1 b2 b3)]
  refine ⟨fun j v e => ?_, fun i j e => ?_, fun j h' v e1 e2 e3 => ?_⟩
  · by_cases z : j = k
    · rw [z]; exact (List.getElem?_eq_some_iff.mp eh).1
    · exact p.dom j v ((if_neg z).symm.trans e)
  · have z : j ≠ k := fun z => by
      obtain ⟨h2, q1, q2⟩ := mem_doors.mp (List.mem_of_getElem? e)
      rw [z, eh] at q1
      cases q1
      exact w q2
    exact (if_neg z).trans (p.door i j e)
  · by_cases z : j = k
    · subst z
      rw [eh] at e1
      cases e1
      have e4 := Option.some.inj ((if_pos rfl).symm.trans e3)
      refine ⟨?_, fun b b1 b2 b3 => ?_⟩
      · exact e4.symm.trans (congrArg (mkR h) (same _ _ there))
      · rw [old _ (there b b1 b2 b3)]
        exact there b b1 b2 b3
    · have e4 : pm j = some v := (if_neg z).symm.trans e3
      obtain ⟨q1, q2⟩ := p.hand j h' v e1 e2 e4
      refine ⟨?_, fun b b1 b2 b3 => ?_⟩
      · exact q1.trans (congrArg (mkR h') (same _ _ q2))
      · rw [old _ (q2 b b1 b2 b3)]
        exact q2 b b1 b2 b3
abbrev fullM (n : Nat) (pm : Nat → Option Int) : List Int := (List.range n).map fun k => (pm k).getD 0
theorem fullM_get {n k : Nat} {pm : Nat → Option Int} (h : k < n) : (fullM n pm)[k]? = some ((pm k).getD 0) := by
  rw [List.getElem?_map, List.getElem?_range h]; rfl
theorem Part.full {hs : List HR} {cur : List BR} {ins : List Int} {pm : Nat → Option Int} (p : Part hs cur ins pm) (all : ∀ k, k < hs.length → (pm k).isSome = true) : IsBell hs cur ins (fullM hs.length pm) := by
  have at_ : ∀ k, k < hs.length → ∃ v, pm k = some v ∧ (fullM hs.length pm)[k]? = some v := fun k hk => by
    obtain ⟨v, hv⟩ := Option.isSome_iff_exists.mp (all k hk)
    exact ⟨v, hv, by rw [fullM_get hk, hv]; rfl⟩
  refine ⟨by rw [List.length_map, List.length_range], fun j k e => ?_, fun k h e w => ?_⟩
  · obtain ⟨h, q, _⟩ := mem_doors.mp (List.mem_of_getElem? e)
    obtain ⟨v, e1, e2⟩ := at_ k (List.getElem?_eq_some_iff.mp q).1
    rw [e2, ← e1]
    exact p.door j k e
  · obtain ⟨v, e1, e2⟩ := at_ k (List.getElem?_eq_some_iff.mp e).1
    obtain ⟨q1, q2⟩ := p.hand k h v e w e1
    rw [e2, q1]
    congr 2
    refine takes_ext fun b b1 b2 b3 => ?_
    obtain ⟨x, hx⟩ := Option.isSome_iff_exists.mp (q2 b b1 b2 b3)
    obtain ⟨y, e3, e4⟩ := at_ b.one (p.dom _ _ hx)
    show (pm b.one).getD 0 = (fullM hs.length pm).getD b.one 0
    rw [List.getD_eq_getElem?_getD, e4, e3]
/-! ### the dict of what was made -/
abbrev kN (k : Nat) : Key := .inl ((k : Nat) : Int)
def DM (kvs : List (Key × V)) (pm : Nat → Option Int) : Prop := ∀ k : Nat, valV kvs (kN k) = (pm k).map V.int
theorem kN_inj {a b : Nat} (h : kN a = kN b) : a = b := by
  have : ((a : Nat) : Int) = ((b : Nat) : Int) := Sum.inl.inj h
  omega
theorem DM.put {kvs : List (Key × V)} {pm : Nat → Option Int} (d : DM kvs pm) (k : Nat) (v : Int) : DM (putK kvs (kN k) (.int v)) (putM pm k v) := fun j => by
  rw [valV_put]
  by_cases e : j = k
  · subst e
    rw [if_pos rfl, show putM pm j v j = some v from if_pos rfl]
    rfl
  · rw [if_neg fun z => e (kN_inj z), show putM pm k v j = pm j from if_neg e]
    exact d j
theorem merge_off {k : Nat} : ∀ (ks : List Nat) (xs : List Int) (acc : List (Key × V)), k ∉ ks → valV (mergeK acc ((ks.map kN).zip (xs.map V.int))) (kN k) = valV acc (kN k)
  | [], _, _, _ => rfl
  | _ :: _, [], _, _ => rfl
  | a :: ks, x :: xs, acc, h => by
    have h1 : k ≠ a := fun e => h (by rw [e]; exact List.mem_cons_self ..)
    have h2 : k ∉ ks := fun e => h (List.mem_cons_of_mem _ e)
    show valV (mergeK (putK acc (kN a) (V.int x)) ((ks.map kN).zip (xs.map V.int))) (kN k) = _
    rw [merge_off ks xs _ h2, valV_put, if_neg fun z => h1 (kN_inj z)]
theorem merge_on {k : Nat} {v : Int} : ∀ (ks : List Nat) (xs : List Int) (acc : List (Key × V)) (j : Nat), ks.Nodup → ks[j]? = some k → xs[j]? = some v → valV (mergeK acc ((ks.map kN).zip (xs.map V.int))) (kN k) = some (.int v)
  | [], _, _, _, _, h, _ => nomatch h
  | _ :: _, [], _, _, _, _, h => nomatch h
  | a :: ks, x :: xs, acc, 0, nd, h1, h2 => by
    cases h1
    cases h2
    show valV (mergeK (putK acc (kN k) (V.int v)) ((ks.map kN).zip (xs.map V.int))) (kN k) = _
    rw [merge_off ks xs _ (List.nodup_cons.mp nd).1, valV_put, if_pos rfl]
  | a :: ks, x :: xs, acc, j + 1, nd, h1, h2 => merge_on ks xs _ j (List.nodup_cons.mp nd).2 h1 h2
/-- what the in doors have made -/
def doorM (hs : List HR) (ins : List Int) : Nat → Option Int := fun k => if k ∈ doorsOf "in" hs then ins[(doorsOf "in" hs).idxOf k]? else none
theorem idx_at {l : List Nat} (nd : l.Nodup) {j k : Nat} (h : l[j]? = some k) : l.idxOf k = j := by
  have jl := (List.getElem?_eq_some_iff.mp h).1
  have m := List.mem_of_getElem? h
  have il := List.idxOf_lt_length_of_mem m
  exact (List.getElem_inj nd (h₀ := il) (h₁ := jl)).mp ((List.getElem_idxOf il).trans (List.getElem?_eq_some_iff.mp h).2.symm)
theorem doorM_dm {hs : List HR} {ins : List Int} (hl : ins.length = (doorsOf "in" hs).length) : DM (mergeK [] (((doorsOf "in" hs).map kN).zip (ins.map V.int))) (doorM hs ins) := fun k => by
  unfold doorM
  by_cases e : k ∈ doorsOf "in" hs
  · rw [if_pos e]
    have il := List.idxOf_lt_length_of_mem e
    have e1 : (doorsOf "in" hs)[(doorsOf "in" hs).idxOf k]? = some k := by rw [List.getElem?_eq_getElem il, List.getElem_idxOf]
    have e2 : ins[(doorsOf "in" hs).idxOf k]? = some ins[(doorsOf "in" hs).idxOf k] := List.getElem?_eq_getElem (by omega)
    rw [merge_on _ _ _ _ doors_nodup e1 e2, e2]
    rfl
  · rw [if_neg e, merge_off _ _ _ e]
    rfl
theorem doorM_part {hs : List HR} {cur : List BR} {ins : List Int} : Part hs cur ins (doorM hs ins) := by
  refine ⟨fun k v e => ?_, fun j k e => ?_, fun k h v e w e2 => ?_⟩
  · unfold doorM at e
    by_cases m : k ∈ doorsOf "in" hs
    · obtain ⟨h, q, _⟩ := mem_doors.mp m
      exact (List.getElem?_eq_some_iff.mp q).1
    · rw [if_neg m] at e
      cases e
  · unfold doorM
    rw [if_pos (List.mem_of_getElem? e), idx_at doors_nodup e]
  · unfold doorM at e2
    rw [if_neg fun m => by
      obtain ⟨h2, q1, q2⟩ := mem_doors.mp m
      rw [e] at q1
      cases q1
      exact w q2] at e2
    cases e2
theorem doorM_all {hs : List HR} {ins : List Int} (hl : ins.length = (doorsOf "in" hs).length) {k : Nat} {h : HR} (e : hs[k]? = some h) (w : h.wd = "in") : (doorM hs ins k).isSome = true := by
  have m := mem_doors.mpr ⟨h, e, w⟩
  unfold doorM
  rw [if_pos m]
  have il := List.idxOf_lt_length_of_mem m
  rw [List.getElem?_eq_getElem (by omega)]
  rfl
/-! ### belts as they stand behind some bells -/
def nextB (m : List Int) (b : BR) : BR := if b.th = [] then b else ⟨b.one, b.to, b.th.drop 1 ++ [gD m b.one]⟩
def standB (ms : List (List Int)) (b : BR) : BR := if b.th = [] then b else ⟨b.one, b.to, (b.th ++ ms.map fun m => gD m b.one).drop ms.length⟩
abbrev stand (bs : List BR) (ms : List (List Int)) : List BR := bs.map (standB ms)
theorem stand_one (ms : List (List Int)) (b : BR) : (standB ms b).one = b.one := by unfold standB; split <;> rfl
theorem stand_to (ms : List (List Int)) (b : BR) : (standB ms b).to = b.to := by unfold standB; split <;> rfl
theorem stand_len (ms : List (List Int)) (b : BR) : (standB ms b).th.length = b.th.length := by
  unfold standB
  split
  · rfl
  · rw [List.length_drop, List.length_append, List.length_map]; omega
theorem nil_len {l l' : List Int} (h : l.length = l'.length) : l = [] ↔ l' = [] := by
  cases l <;> cases l' <;> simp at h ⊢
theorem stand_th (ms : List (List Int)) (b : BR) : (standB ms b).th = [] ↔ b.th = [] := nil_len (stand_len ms b)
theorem stand_zero (bs : List BR) : stand bs [] = bs := by
  refine (List.map_congr_left (g := id) fun b _ => ?_).trans (List.map_id _)
  unfold standB
  split
  · rfl
  · show (⟨b.one, b.to, (b.th ++ []).drop 0⟩ : BR) = b
    rw [List.append_nil]
    rfl
theorem stand_next (bs : List BR) (ms : List (List Int)) (m : List Int) : (stand bs ms).map (nextB m) = stand bs (ms ++ [m]) := by
  rw [List.map_map]
  refine List.map_congr_left fun b _ => ?_
  show nextB m (standB ms b) = standB (ms ++ [m]) b
  have hn := stand_th ms b
  by_cases e : b.th = []
  · rw [show nextB m (standB ms b) = standB ms b from if_pos (hn.mpr e)]
    rw [show standB ms b = b from if_pos e, show standB (ms ++ [m]) b = b from if_pos e]
  · rw [show nextB m (standB ms b) = ⟨(standB ms b).one, (standB ms b).to, (standB ms b).th.drop 1 ++ [gD m (standB ms b).one]⟩ from if_neg fun z => e (hn.mp z)]
    rw [stand_one, stand_to, show standB ms b = ⟨b.one, b.to, (b.th ++ ms.map fun m => gD m b.one).drop ms.length⟩ from if_neg e,
      show standB (ms ++ [m]) b = ⟨b.one, b.to, (b.th ++ (ms ++ [m]).map fun m => gD m b.one).drop (ms ++ [m]).length⟩ from if_neg e]
    show (⟨b.one, b.to, ((b.th ++ ms.map fun m => gD m b.one).drop ms.length).drop 1 ++ [gD m b.one]⟩ : BR) = _
    rw [List.drop_drop, List.map_append, ← List.append_assoc, List.length_append]
    congr 1
    refine (List.drop_append_of_le_length ?_).symm
    have := List.length_pos_iff.mpr e
    rw [List.length_append, List.length_map]
    show ms.length + 1 ≤ _
    omega
theorem loose_stand (bs : List BR) (ms : List (List Int)) : looseOf (stand bs ms) = looseOf bs := by
  unfold looseOf
  induction bs with
  | nil => rfl
  | cons b bs ih =>
    have e : (standB ms b).th.isEmpty = b.th.isEmpty := by
      have h := stand_th ms b
      cases h1 : (standB ms b).th <;> cases h2 : b.th <;> simp [h1, h2] at h ⊢
    show List.map _ (List.filter _ (standB ms b :: stand bs ms)) = _
    rw [List.filter_cons, List.filter_cons, e]
    cases b.th.isEmpty
    · exact ih
    · show ((standB ms b).one, (standB ms b).to) :: _ = (b.one, b.to) :: _
      rw [ih, stand_one, stand_to]
/-- what is taken from a belt with trays -/
theorem stand_head {ms : List (List Int)} {b : BR} (f : Nat → Int) (e : b.th ≠ []) : valB f (standB ms b) = (b.th ++ ms.map fun m => gD m b.one).getD ms.length 0 := by
  have hl := stand_len ms b
  have pos := List.length_pos_iff.mpr e
  have et : (standB ms b).th = (b.th ++ ms.map fun m => gD m b.one).drop ms.length := by unfold standB; rw [if_neg e]
  unfold valB
  cases q : (standB ms b).th with
  | nil => rw [q] at hl; simp at hl; omega
  | cons x l =>
    rw [q] at et
    have : ((b.th ++ ms.map fun m => gD m b.one).drop ms.length)[0]? = some x := by rw [← et]; rfl
    rw [List.getElem?_drop, Nat.add_zero] at this
    rw [List.getD_eq_getElem?_getD, this]
    rfl
/-! ### many bells -/
structure WS (hs : List HR) (bs : List BR) (rows ms : List (List Int)) : Prop where
  len : ms.length = rows.length
  at_ : ∀ (t : Nat) (r m : List Int), rows[t]? = some r → ms[t]? = some m → IsBell hs (stand bs (ms.take t)) r m
theorem WS.nil {hs : List HR} {bs : List BR} : WS hs bs [] [] := ⟨rfl, fun t r m e => nomatch e⟩
theorem WS.snoc {hs : List HR} {bs : List BR} {rows ms : List (List Int)} {r m : List Int} (h : WS hs bs rows ms) (b : IsBell hs (stand bs ms) r m) : WS hs bs (rows ++ [r]) (ms ++ [m]) := by
  refine ⟨by rw [List.length_append, List.length_append, h.len]; rfl, fun t r' m' e1 e2 => ?_⟩
  by_cases l : t < ms.length
  · have l2 : t < rows.length := by rw [← h.len]; exact l
    rw [List.getElem?_append_left l2] at e1
    rw [List.getElem?_append_left l] at e2
    rw [List.take_append_of_le_length (Nat.le_of_lt l)]
    exact h.at_ t r' m' e1 e2
  · have tl := (List.getElem?_eq_some_iff.mp e2).1
    rw [List.length_append] at tl
    have et : t = ms.length := by simp at tl; omega
    subst et
    rw [List.getElem?_append_right (Nat.le_refl _), Nat.sub_self] at e2
    rw [h.len, List.getElem?_append_right (Nat.le_refl _), Nat.sub_self] at e1
    cases e1
    cases e2
    rw [List.take_append_of_le_length (Nat.le_refl _), List.take_length]
    exact b
theorem WS.one {hs : List HR} {bs : List BR} {rows ms ms' : List (List Int)} {rk : Nat → Int} (hr : ∀ p ∈ looseOf bs, rk p.1 < rk p.2) (a : WS hs bs rows ms) (b : WS hs bs rows ms') : ms = ms' := by
  have key : ∀ t, ms.take t = ms'.take t := by
    intro t
    induction t with
    | zero => rfl
    | succ t ih =>
      rw [List.take_add_one, List.take_add_one, ih]
      by_cases l : t < rows.length
      · have l1 : t < ms.length := by have := a.len; omega
        have l2 : t < ms'.length := by have := b.len; omega
        have e1 : ms[t]? = some ms[t] := List.getElem?_eq_getElem l1
        have e2 : ms'[t]? = some ms'[t] := List.getElem?_eq_getElem l2
        have e3 : rows[t]? = some rows[t] := List.getElem?_eq_getElem l
        have q1 := a.at_ t _ _ e3 e1
        have q2 := b.at_ t _ _ e3 e2
        rw [ih] at q1
        have := bell_one (rk := rk) (by rw [loose_stand]; exact hr) q1 q2
        rw [e1, e2, this]
      · rw [List.getElem?_eq_none (by have := a.len; omega), List.getElem?_eq_none (by have := b.len; omega)]
  have h1 := key rows.length
  rw [List.take_of_length_le (by rw [a.len]; exact Nat.le_refl _), List.take_of_length_le (by rw [b.len]; exact Nat.le_refl _)] at h1
  exact h1
theorem WS.row {hs : List HR} {bs : List BR} {rows ms : List (List Int)} (h : WS hs bs rows ms) : ∀ m ∈ ms, m.length = hs.length := fun m hm => by
  obtain ⟨t, e⟩ := List.getElem?_of_mem hm
  have tl := (List.getElem?_eq_some_iff.mp e).1
  have e3 : rows[t]? = some (rows[t]'(by rw [← h.len]; exact tl)) := List.getElem?_eq_getElem _
  exact (h.at_ t _ _ e3 e).len
/-- the belts that come to a hand -/
def comingN (bs : List BR) (k : Nat) : List Nat := (List.range bs.length).filter fun i => decide (bs[i]?.map BR.to = some k)
def outsOf (hs : List HR) (m : List Int) : List Int := (doorsOf "out" hs).map (gD m)
/-! ### max, min of a list with a default -/
def rMaxDf (K : PySem.W.Frag) : List V → List V → Hp → VK → Prop := fun xs zs H Q => ∃ (a : Addr) (ns : List Int) (d : V), xs = [.ref a] ∧ zs = [d] ∧ SqL K H a (ns.map V.int) ∧ (ns = [] → Q d H) ∧ ∀ m, m ∈ ns → (∀ y ∈ ns, y ≤ m) → Q (.int m) H
def rMinDf (K : PySem.W.Frag) : List V → List V → Hp → VK → Prop := fun xs zs H Q => ∃ (a : Addr) (ns : List Int) (d : V), xs = [.ref a] ∧ zs = [d] ∧ SqL K H a (ns.map V.int) ∧ (ns = [] → Q d H) ∧ ∀ m, m ∈ ns → (∀ y ∈ ns, m ≤ y) → Q (.int m) H
theorem ints_val {ns : List Int} {its : List Value} (rv : Vals (ns.map V.int) its) : ∀ i v, its.toArray[i]? = some v → ∃ t, v = Value.int (ns.getD i 0) t := fun i v e => by
  rw [List.getElem?_toArray] at e
  have il : i < ns.length := by
    have h1 := (List.getElem?_eq_some_iff.mp e).1
    have h2 := rv.length
    rw [List.length_map] at h2
    omega
  obtain ⟨u, eu, t, ru⟩ := rv.get (i := i) (x := .int ns[i]) (by rw [List.getElem?_map, List.getElem?_eq_getElem il]; rfl)
  rw [e] at eu
  cases eu
  exact ⟨t, by rw [ru, List.getD_eq_getElem?_getD, List.getElem?_eq_getElem il]; rfl⟩
section
variable {X : Cx}
theorem cr_maxDf (K : PySem.W.Frag) (hk : X.K = K) (hc : X.calm = true) : CallRK X (.builtin "max") ["default"] (rMaxDf K) := by
  subst hk
  intro pins s σ H xs zs us ws Q I r r2 h
  obtain ⟨a, ns, d, rfl, rfl, hs, q0, q1⟩ := h
  obtain ⟨its, rv, hl, _⟩ := I.list hs
  rw [Vals.ref1 r]
  obtain ⟨dv, rfl, rd⟩ := vals1 r2
  have hh := I.ok.hd hc
  have ln : its.length = ns.length := by rw [← rv.length, List.length_map]
  show wpAny _ _ (call (.builtin "max") [.ref a] [(Str.ofString "default", dv)]) _ _ s
  refine PySem.call_max_walkD (PySem.W.iter_listW (A := X.A.in1) hh hl.isList fun s₂ e W st hfp hw hk => ?_)
  refine ⟨_, _, _, _, _, _, _, s.heap, (fun i j => decide (ns.getD i 0 > ns.getD j 0)), rfl, W, st, hfp, hw, hk, fun hz s' m => ?_, fun hp => ⟨fun i j vi vj s3 Q3 E3 _ p1 p2 q3 => ?_, fun v s' hP m => ?_⟩⟩
  · obtain ⟨h', tk, rfl, hk'⟩ := PySem.W.moved_old e rfl m
    refine ⟨d, H, I.kept hk', rd, q0 ?_⟩
    exact List.eq_nil_of_length_eq_zero (by have : its.toArray.size = 0 := hz; rw [List.size_toArray] at this; omega)
  · exact (CmpOf.ints_gt (fun i => ns.getD i 0) (ints_val rv)) i j vi vj s3 Q3 E3 p1 p2 q3
  · obtain ⟨h', tk, rfl, hk'⟩ := PySem.W.moved_old e rfl m
    have hp : 0 < its.length := by have : 0 < its.toArray.size := hp; rw [List.size_toArray] at this; exact this
    have hsz : its.toArray.size = its.length := List.size_toArray
    obtain ⟨t, rfl⟩ := ints_val rv _ v hP
    obtain ⟨h1, h2⟩ := argBest_gt (fun i => ns.getD i 0) (its.toArray.size - 1)
    refine ⟨.int _, H, I.kept hk', ⟨_, rfl⟩, q1 _ ?_ fun y hy => ?_⟩
    · have il : argBest (fun i j => decide (ns.getD i 0 > ns.getD j 0)) (its.toArray.size - 1) < ns.length := by omega
      rw [List.getD_eq_getElem?_getD, List.getElem?_eq_getElem il]
      exact List.getElem_mem _
    · obtain ⟨j, hj⟩ := List.getElem?_of_mem hy
      have jl := (List.getElem?_eq_some_iff.mp hj).1
      have := h2 j (by omega)
      rw [show ns.getD j 0 = y by rw [List.getD_eq_getElem?_getD, hj]; rfl] at this
      exact this
theorem cr_minDf (K : PySem.W.Frag) (hk : X.K = K) (hc : X.calm = true) : CallRK X (.builtin "min") ["default"] (rMinDf K) := by
  subst hk
  intro pins s σ H xs zs us ws Q I r r2 h
  obtain ⟨a, ns, d, rfl, rfl, hs, q0, q1⟩ := h
  obtain ⟨its, rv, hl, _⟩ := I.list hs
  rw [Vals.ref1 r]
  obtain ⟨dv, rfl, rd⟩ := vals1 r2
  have hh := I.ok.hd hc
  have ln : its.length = ns.length := by rw [← rv.length, List.length_map]
  show wpAny _ _ (call (.builtin "min") [.ref a] [(Str.ofString "default", dv)]) _ _ s
  refine PySem.call_min_walkD (PySem.W.iter_listW (A := X.A.in1) hh hl.isList fun s₂ e W st hfp hw hk => ?_)
  refine ⟨_, _, _, _, _, _, _, s.heap, (fun i j => decide (ns.getD i 0 < ns.getD j 0)), rfl, W, st, hfp, hw, hk, fun hz s' m => ?_, fun hp => ⟨fun i j vi vj s3 Q3 E3 _ p1 p2 q3 => ?_, fun v s' hP m => ?_⟩⟩
  · obtain ⟨h', tk, rfl, hk'⟩ := PySem.W.moved_old e rfl m
    refine ⟨d, H, I.kept hk', rd, q0 ?_⟩
    exact List.eq_nil_of_length_eq_zero (by have : its.toArray.size = 0 := hz; rw [List.size_toArray] at this; omega)
  · exact (CmpOf.ints_lt (fun i => ns.getD i 0) (ints_val rv)) i j vi vj s3 Q3 E3 p1 p2 q3
  · obtain ⟨h', tk, rfl, hk'⟩ := PySem.W.moved_old e rfl m
    have hp : 0 < its.length := by have : 0 < its.toArray.size := hp; rw [List.size_toArray] at this; exact this
    have hsz : its.toArray.size = its.length := List.size_toArray
    obtain ⟨t, rfl⟩ := ints_val rv _ v hP
    obtain ⟨h1, h2⟩ := argBest_lt (fun i => ns.getD i 0) (its.toArray.size - 1)
    refine ⟨.int _, H, I.kept hk', ⟨_, rfl⟩, q1 _ ?_ fun y hy => ?_⟩
    · have il : argBest (fun i j => decide (ns.getD i 0 < ns.getD j 0)) (its.toArray.size - 1) < ns.length := by omega
      rw [List.getD_eq_getElem?_getD, List.getElem?_eq_getElem il]
      exact List.getElem_mem _
    · obtain ⟨j, hj⟩ := List.getElem?_of_mem hy
      have jl := (List.getElem?_eq_some_iff.mp hj).1
      have := h2 j (by omega)
      rw [show ns.getD j 0 = y by rw [List.getD_eq_getElem?_getD, hj]; rfl] at this
      exact this
end
section
variable {P : Program} {w : World} {K : PySem.W.Frag} {mg : Str → Option Value} {base : Heap}
theorem filt_succ {p : Nat → Bool} (i : Nat) : (List.range (i + 1)).filter p = (List.range i).filter p ++ (if p i = true then [i] else []) := by
  rw [List.range_succ, List.filter_append]
  cases h : p i <;> simp [h]
theorem filt_len {p : Nat → Bool} (i : Nat) : ((List.range i).filter p).length ≤ i := by
  refine Nat.le_trans (List.length_filter_le ..) ?_
  rw [List.length_range]
  exact Nat.le_refl _
def sp_comings (K : PySem.W.Frag) : Sp := fun vs H Q _ => ∃ (r : Addr) (hs : List HR) (bs : List BR) (k : Nat), vs = [.ref r, nV k] ∧ RoomAt H r hs bs ∧ bs.length ≤ 400 ∧ ∀ (p : Addr) (H' : Hp), H p = none → H' p = some (.lst ((comingN bs k).map nV)) → Same H H' → Q (.ref p) H'
theorem ok_comings {f : Addr} {fd : FuncData} (F : Fun K "comings" "comings" s_comings f fd) (T : Top K mg) : FnOk P w K mg base CX0 1 f fd ["room", "hand"] (sp_comings K) := by
  refine F.ok sc_comings (fun vs H Q E h => ?_) (fun cdv A outer s H vs Q E hr h => ?_)
  · obtain ⟨r, hs, bs, k, rfl, _⟩ := h
    rfl
  obtain ⟨r, hs, bs, k, rfl, hR, lb, q⟩ := h
  obtain ⟨ha, ba, hv, bv, er, eh, eb, alh, alb⟩ := hR.ex
  have lbv := alb.length
  refine ⟨_, (pss_one (ps_ret (pe_lc (own := [("number", 2), ("belt", 3)]) (g := gTup K 2 (gCons (gName 2) (gCons (gName 3) gNil))) (by rfl) sc_comings.nd (pi_enumT K rfl (by rfl) T.m_enumerate (pa_cons (pe_ix (ix_tupK K rfl) (pv 0) pe_int (fun _ _ => rfl)) pa_nil)) (blkOk_by (own := [("number", 2), ("belt", 3)]) (N := N_comings) (sc := defScope s_comings) (by decide +kernel)) (fun _ _ _ _ _ => (pg_tupK K rfl rfl (pgs_cons (pg_name (i := 2) sc_comings.nd rfl (Or.inl rfl)) (pgs_cons (pg_name (i := 3) sc_comings.nd rfl (Or.inl rfl)) pgs_nil)))) (fun _ _ _ _ _ => pts_one (pt_cmpR op_eq (pe_ix (ix_tupK K rfl) (pv 3) pe_int (fun _ _ => rfl)) (pv 1) (nomark _))) (fun _ _ _ _ _ => (pv 2))))), ?_⟩
  refine ⟨_, rfl, r, _, _, _, rfl, rfl, SqT.of er, atI_nat (j := 1) rfl, ba, bv, rfl, SqT.of eb, fun D nD => lc_it (J := IteT K ba bv) (n := bv.length) (fun i H5 => H5 D = some (.lst (((List.range i).filter fun j => decide (bs[j]?.map BR.to = some k)).map nV)) ∧ Same H H5) ⟨upd_same, same_new nD⟩ ?_ ?_ ?_ ?_⟩
  · rintro i H5 hi ⟨hD, s5⟩
    exact ⟨SqT.of (s5 _ _ eb), hi⟩
  · rintro H5 ⟨hD, s5⟩
    exact ⟨SqT.of (s5 _ _ eb), rfl⟩
  · rintro i x H5 H6 hi ⟨hD, s5⟩ ⟨t, y, rfl, nt, rfl, ey⟩
    obtain ⟨b, eb2, ⟨t2, g, rfl, e1, e2⟩⟩ := alb.getL ey
    have s6 := s5.trans (same_new (o := .tup [V.int ((i : Nat) : Int), V.ref t2]) nt)
    have hD6 := same_new (o := .tup [V.int ((i : Nat) : Int), V.ref t2]) nt _ _ hD
    have few := filt_len (p := fun j => decide (bs[j]?.map BR.to = some k)) i
    refine ⟨t, _, rfl, SqT.of upd_same, rfl, _, _, rfl, _, _, rfl, rfl, rfl, _, rfl, t2, _, _, _, rfl, rfl, SqT.of (s6 _ _ e1), atI_nat (j := 1) rfl, _, rfl, rfl, _, rfl, if_bl (fun c => ?_) (fun c => ?_)⟩
    · have c : b.to = k := by have := V.int.inj (of_decide_eq_true c); omega
      refine ⟨_, rfl, _, hD6, by rw [List.length_map]; exact small1000 (by omega), ?_, Same.own s6 nD⟩
      rw [upd_same, filt_succ, if_pos (decide_eq_true (by rw [eb2, ← c]; rfl)), List.map_append]
      rfl
    · have c : ¬ b.to = k := fun z => of_decide_eq_false c (by rw [z])
      refine ⟨?_, s6⟩
      rw [filt_succ, if_neg fun z => c (by have := of_decide_eq_true z; rw [eb2] at this; exact Option.some.inj this), List.append_nil]
      exact hD6
  · rintro H5 ⟨hD, s5⟩
    refine q D H5 nD ?_ s5
    rw [hD, lbv]
    rfl
end
theorem soon_one {ls : List (Nat × Nat)} : ∀ {left o1 o2 : List Nat}, Soon ls left o1 → Soon ls left o2 → o1 = o2 := by
  intro left o1 o2 h
  induction h generalizing o2 with
  | nil =>
    intro h2
    cases h2 with
    | nil => rfl
    | cons a => cases a
  | cons a b c d ih =>
    intro h2
    cases h2 with
    | nil => cases a
    | @cons _ ord k2 a2 b2 c2 d2 =>
      have e := Nat.le_antisymm (c _ a2 b2) (c2 _ a b)
      subst e
      rw [ih d2]
theorem soon_len {ls : List (Nat × Nat)} {left ord : List Nat} (h : Soon ls left ord) : ord.length = left.length := by
  induction h with
  | nil => rfl
  | cons a b c d ih =>
    rw [List.length_cons, ih, List.length_erase_of_mem a]
    have := List.length_pos_of_mem a
    omega
theorem soon_mem {ls : List (Nat × Nat)} {left ord : List Nat} (h : Soon ls left ord) : ∀ x ∈ ord, x ∈ left := by
  induction h with
  | nil => exact fun _ z => nomatch z
  | cons a b c d ih =>
    intro x hx
    rcases List.mem_cons.mp hx with e | e
    · rw [e]; exact a
    · exact List.mem_of_mem_erase (ih x e)
/-! ### when works begin: the moments, by their number -/
def momN (hs : List HR) (k : Nat) : Int := match hs[k]? with | some h => h.mom | none => 0
def dueL (hs : List HR) (bs : List BR) (e : Nat → Nat → Int) (k t : Nat) : List Int :=
  [0] ++ (if t = 0 then [] else [e k (t - 1) + momN hs k]) ++ (bs.filter fun b => decide (b.to = k) && decide (b.th.length ≤ t)).map fun b => e b.one (t - b.th.length) + momN hs b.one
def gtst (l : List Int) : Int := l.foldl max 0
theorem gtst_aux : ∀ (l : List Int) (a : Int), a ≤ l.foldl max a ∧ (∀ x ∈ l, x ≤ l.foldl max a) ∧ (l.foldl max a = a ∨ l.foldl max a ∈ l)
  | [], a => ⟨Int.le_refl _, (fun _ z => nomatch z), .inl rfl⟩
  | y :: l, a => by
    obtain ⟨h1, h2, h3⟩ := gtst_aux l (max a y)
    refine ⟨?_, fun x hx => ?_, ?_⟩
    · show a ≤ l.foldl max (max a y)
      omega
    · show x ≤ l.foldl max (max a y)
      rcases List.mem_cons.mp hx with rfl | hx
      · omega
      · exact h2 x hx
    · show l.foldl max (max a y) = a ∨ l.foldl max (max a y) ∈ y :: l
      rcases h3 with h3 | h3
      · by_cases z : a ≤ y
        · right
          rw [h3, Int.max_eq_right z]
          exact List.mem_cons_self ..
        · left
          rw [h3]
          omega
      · exact .inr (List.mem_cons_of_mem _ h3)
theorem gtst_le {l : List Int} {x : Int} (h : x ∈ l) : x ≤ gtst l := (gtst_aux l 0).2.1 x h
theorem gtst_mem {l : List Int} (h : 0 ∈ l) : gtst l ∈ l := by
  rcases (gtst_aux l 0).2.2 with e | e
  · unfold gtst
    rw [e]
    exact h
  · exact e
theorem gtst_one {l : List Int} {m : Int} (h0 : 0 ∈ l) (hm : m ∈ l) (hg : ∀ y ∈ l, y ≤ m) : m = gtst l := Int.le_antisymm (gtst_le hm) (hg _ (gtst_mem h0))
def eF (hs : List HR) (bs : List BR) : Nat → Nat → Nat → Int
  | 0, _, _ => 0
  | n + 1, k, t => gtst (dueL hs bs (eF hs bs n) k t)
theorem due_ext {hs : List HR} {bs : List BR} {e e' : Nat → Nat → Int} {k t : Nat} (h1 : t ≠ 0 → e k (t - 1) = e' k (t - 1)) (h2 : ∀ b ∈ bs, b.to = k → b.th.length ≤ t → e b.one (t - b.th.length) = e' b.one (t - b.th.length)) : dueL hs bs e k t = dueL hs bs e' k t := by
  unfold dueL
  have a : (if t = 0 then [] else [e k (t - 1) + momN hs k]) = if t = 0 then [] else [e' k (t - 1) + momN hs k] := by
    by_cases z : t = 0
    · rw [if_pos z, if_pos z]
    · rw [if_neg z, if_neg z, h1 z]
  rw [a]
  refine congrArg (_ ++ ·) (List.map_congr_left fun b hb => ?_)
  obtain ⟨hb, z⟩ := List.mem_filter.mp hb
  obtain ⟨z1, z2⟩ := Bool.and_eq_true_iff.mp z
  rw [h2 b hb (of_decide_eq_true z1) (of_decide_eq_true z2)]
theorem filt_lt {α : Type} {p q : α → Bool} : ∀ {l : List α}, (∀ x ∈ l, p x = true → q x = true) → (∃ x ∈ l, q x = true ∧ p x = false) → (l.filter p).length < (l.filter q).length
  | [], _, ⟨_, h, _⟩ => nomatch h
  | a :: l, h, ⟨x, hx, qx, px⟩ => by
    have le : (l.filter p).length ≤ (l.filter q).length := by
      have : ∀ {l : List α}, (∀ x ∈ l, p x = true → q x = true) → (l.filter p).length ≤ (l.filter q).length := by
        intro l
        induction l with
        | nil => intro _; exact Nat.le_refl _
        | cons b l ih =>
          intro h
          have ih := ih fun x hx => h x (List.mem_cons_of_mem _ hx)
          by_cases pb : p b = true
          · rw [List.filter_cons_of_pos pb, List.filter_cons_of_pos (h b (List.mem_cons_self ..) pb)]
            exact Nat.succ_le_succ ih
          · rw [List.filter_cons_of_neg pb]
            by_cases qb : q b = true
            · rw [List.filter_cons_of_pos qb]; exact Nat.le_succ_of_le ih
            · rw [List.filter_cons_of_neg qb]; exact ih
      exact this fun x hx => h x (List.mem_cons_of_mem _ hx)
    rcases List.mem_cons.mp hx with rfl | hx
    · rw [List.filter_cons_of_neg (by rw [px]; exact Bool.false_ne_true), List.filter_cons_of_pos qx]
      exact Nat.lt_succ_of_le le
    · have ih := filt_lt (fun x hx => h x (List.mem_cons_of_mem _ hx)) ⟨x, hx, qx, px⟩
      by_cases pb : p a = true
      · rw [List.filter_cons_of_pos pb, List.filter_cons_of_pos (h a (List.mem_cons_self ..) pb)]
        exact Nat.succ_lt_succ ih
      · rw [List.filter_cons_of_neg pb]
        by_cases qb : q a = true
        · rw [List.filter_cons_of_pos qb]; exact Nat.lt_succ_of_lt ih
        · rw [List.filter_cons_of_neg qb]; exact ih
def dep (rk : Nat → Int) (n k : Nat) : Nat := ((List.range n).filter fun j => decide (rk j < rk k)).length
theorem dep_le {rk : Nat → Int} {n k : Nat} : dep rk n k ≤ n := by
  unfold dep
  refine Nat.le_trans (List.length_filter_le ..) ?_
  rw [List.length_range]
  exact Nat.le_refl _
theorem dep_lt {rk : Nat → Int} {n a b : Nat} (ha : a < n) (h : rk a < rk b) : dep rk n a < dep rk n b := by
  refine filt_lt (fun x _ z => decide_eq_true (Int.lt_trans (of_decide_eq_true z) h)) ⟨a, List.mem_range.mpr ha, decide_eq_true h, decide_eq_false (Int.lt_irrefl _)⟩
def mu (rk : Nat → Int) (n k t : Nat) : Nat := t * (n + 1) + dep rk n k
theorem mu_own {rk : Nat → Int} {n k t : Nat} (h : t ≠ 0) : mu rk n k (t - 1) < mu rk n k t := by
  obtain ⟨s, rfl⟩ := Nat.exists_eq_succ_of_ne_zero h
  unfold mu
  rw [Nat.succ_sub_one, Nat.succ_mul]
  omega
theorem mu_belt {rk : Nat → Int} {n : Nat} {b : BR} (hr : b.th = [] → rk b.one < rk b.to) (ho : b.one < n) {t : Nat} (ht : b.th.length ≤ t) : mu rk n b.one (t - b.th.length) < mu rk n b.to t := by
  unfold mu
  by_cases z : b.th = []
  · rw [z, List.length_nil, Nat.sub_zero]
    have := dep_lt (n := n) ho (hr z)
    omega
  · have l : 0 < b.th.length := List.length_pos_iff.mpr z
    have d := dep_le (rk := rk) (n := n) (k := b.one)
    have : (t - b.th.length + 1) * (n + 1) ≤ t * (n + 1) := Nat.mul_le_mul_right _ (by omega)
    rw [Nat.add_mul, Nat.one_mul] at this
    omega
theorem eF_stay {hs : List HR} {bs : List BR} {rk : Nat → Int} (hr : ∀ b ∈ bs, b.th = [] → rk b.one < rk b.to) (he : ∀ b ∈ bs, b.one < hs.length ∧ b.to < hs.length) :
    ∀ n m k t, k < hs.length → mu rk hs.length k t < n → mu rk hs.length k t < m → eF hs bs n k t = eF hs bs m k t
  | 0, _, _, _, _, h, _ => absurd h (Nat.not_lt_zero _)
  | _ + 1, 0, _, _, _, _, h => absurd h (Nat.not_lt_zero _)
  | n + 1, m + 1, k, t, hk, h1, h2 => by
    show gtst _ = gtst _
    rw [due_ext (e := eF hs bs n) (e' := eF hs bs m)]
    · intro z
      have := mu_own (rk := rk) (n := hs.length) (k := k) z
      exact eF_stay hr he n m k (t - 1) hk (by omega) (by omega)
    · intro b hb ht hl
      have := mu_belt (rk := rk) (n := hs.length) (hr b hb) (he b hb).1 hl
      rw [ht] at this
      exact eF_stay hr he n m b.one _ (he b hb).1 (by omega) (by omega)
/-- the moment at which the work of number t of hand k begins -/
def erl (hs : List HR) (bs : List BR) (k t : Nat) : Int := eF hs bs ((t + 1) * (hs.length + 1)) k t
theorem erl_is {hs : List HR} {bs : List BR} {rk : Nat → Int} (hr : ∀ b ∈ bs, b.th = [] → rk b.one < rk b.to) (he : ∀ b ∈ bs, b.one < hs.length ∧ b.to < hs.length) {k t : Nat} (hk : k < hs.length) : erl hs bs k t = gtst (dueL hs bs (erl hs bs) k t) := by
  have mul : ∀ k t, mu rk hs.length k t < (t + 1) * (hs.length + 1) := fun k t => by
    unfold mu
    have := dep_le (rk := rk) (n := hs.length) (k := k)
    rw [Nat.add_mul, Nat.one_mul]
    omega
  have m0 := mul k t
  unfold erl
  obtain ⟨n, en⟩ : ∃ n, (t + 1) * (hs.length + 1) = n + 1 := Nat.exists_eq_succ_of_ne_zero (by omega)
  rw [en] at m0 ⊢
  show gtst _ = gtst _
  rw [due_ext (e := eF hs bs n) (e' := fun k t => eF hs bs ((t + 1) * (hs.length + 1)) k t)]
  · intro z
    have := mu_own (rk := rk) (n := hs.length) (k := k) z
    exact eF_stay hr he _ _ k (t - 1) hk (by omega) (mul _ _)
  · intro b hb ht hl
    have := mu_belt (rk := rk) (n := hs.length) (hr b hb) (he b hb).1 hl
    rw [ht] at this
    exact eF_stay hr he _ _ b.one _ (he b hb).1 (by omega) (mul _ _)
theorem due_zero {hs : List HR} {bs : List BR} {e : Nat → Nat → Int} {k t : Nat} : 0 ∈ dueL hs bs e k t := by
  unfold dueL
  exact List.mem_append_left _ (List.mem_append_left _ (List.mem_singleton.mpr rfl))
theorem due_mem {hs : List HR} {bs : List BR} {e : Nat → Nat → Int} {k t : Nat} {x : Int} : x ∈ dueL hs bs e k t ↔ x = 0 ∨ (t ≠ 0 ∧ x = e k (t - 1) + momN hs k) ∨ ∃ b ∈ bs, b.to = k ∧ b.th.length ≤ t ∧ x = e b.one (t - b.th.length) + momN hs b.one := by
  unfold dueL
  rw [List.mem_append, List.mem_append, List.mem_singleton, List.mem_map]
  constructor
  · rintro ((h | h) | ⟨b, hb, rfl⟩)
    · exact .inl h
    · by_cases z : t = 0
      · rw [if_pos z] at h; cases h
      · rw [if_neg z] at h
        exact .inr (.inl ⟨z, List.mem_singleton.mp h⟩)
    · obtain ⟨hb', z⟩ := List.mem_filter.mp hb
      obtain ⟨z1, z2⟩ := Bool.and_eq_true_iff.mp z
      exact .inr (.inr ⟨b, hb', of_decide_eq_true z1, of_decide_eq_true z2, rfl⟩)
  · rintro (h | ⟨z, h⟩ | ⟨b, hb, h1, h2, rfl⟩)
    · exact .inl (.inl h)
    · exact .inl (.inr (by rw [if_neg z]; exact List.mem_singleton.mpr h))
    · exact .inr ⟨b, List.mem_filter.mpr ⟨hb, by rw [decide_eq_true h1, decide_eq_true h2]; rfl⟩, rfl⟩
theorem due_le {hs : List HR} {bs : List BR} {e e' : Nat → Nat → Int} {k t : Nat} (h1 : t ≠ 0 → e k (t - 1) ≤ e' k (t - 1)) (h2 : ∀ b ∈ bs, b.to = k → b.th.length ≤ t → e b.one (t - b.th.length) ≤ e' b.one (t - b.th.length)) : gtst (dueL hs bs e k t) ≤ gtst (dueL hs bs e' k t) := by
  rcases due_mem.mp (gtst_mem (due_zero (hs := hs) (bs := bs) (e := e) (k := k) (t := t))) with m | ⟨z, m⟩ | ⟨b, hb, z1, z2, m⟩
  · rw [m]
    exact gtst_le due_zero
  · rw [m]
    exact Int.le_trans (Int.add_le_add_right (h1 z) _) (gtst_le (due_mem.mpr (.inr (.inl ⟨z, rfl⟩))))
  · rw [m]
    exact Int.le_trans (Int.add_le_add_right (h2 b hb z1 z2) _) (gtst_le (due_mem.mpr (.inr (.inr ⟨b, hb, z1, z2, rfl⟩))))
/-- what meets all that is asked is nowhere less -/
theorem erl_least {hs : List HR} {bs : List BR} {rk : Nat → Int} (hr : ∀ b ∈ bs, b.th = [] → rk b.one < rk b.to) (he : ∀ b ∈ bs, b.one < hs.length ∧ b.to < hs.length) {e : Nat → Nat → Int} {N : Nat} (h : ∀ k t, k < hs.length → t < N → gtst (dueL hs bs e k t) ≤ e k t) :
    ∀ n k t, k < hs.length → t < N → mu rk hs.length k t < n → erl hs bs k t ≤ e k t
  | 0, _, _, _, _, h => absurd h (Nat.not_lt_zero _)
  | n + 1, k, t, hk, ht, hn => by
    rw [erl_is hr he hk]
    refine Int.le_trans (due_le (fun z => ?_) (fun b hb hto hl => ?_)) (h k t hk ht)
    · have := mu_own (rk := rk) (n := hs.length) (k := k) z
      exact erl_least hr he h n k (t - 1) hk (by omega) (by omega)
    · have := mu_belt (rk := rk) (n := hs.length) (hr b hb) (he b hb).1 hl
      rw [hto] at this
      exact erl_least hr he h n b.one _ (he b hb).1 (by omega) (by omega)
theorem nd_at {α : Type} {l : List α} (nd : l.Nodup) {i j : Nat} {a : α} (h1 : l[i]? = some a) (h2 : l[j]? = some a) : i = j := by
  have i1 := (List.getElem?_eq_some_iff.mp h1)
  have i2 := (List.getElem?_eq_some_iff.mp h2)
  obtain ⟨l1, e1⟩ := i1
  obtain ⟨l2, e2⟩ := i2
  exact (List.getElem_inj nd).mp (e1.trans e2.symm)
theorem soon_all {ls : List (Nat × Nat)} {left ord : List Nat} (h : Soon ls left ord) : ∀ x ∈ left, x ∈ ord := by
  induction h with
  | nil => exact fun _ z => z
  | @cons left ord k a b c d ih =>
    intro x hx
    by_cases z : x = k
    · rw [z]; exact List.mem_cons_self ..
    · exact List.mem_cons_of_mem _ (ih x ((List.mem_erase_of_ne z).mpr hx))
theorem soon_nd {ls : List (Nat × Nat)} {left ord : List Nat} (h : Soon ls left ord) (nd : left.Nodup) : ord.Nodup := by
  induction h with
  | nil => exact List.nodup_nil
  | cons a b c d ih => exact List.nodup_cons.mpr ⟨fun z => ((nd.mem_erase_iff).mp (soon_mem d _ z)).1 rfl, ih (nd.erase _)⟩
theorem soon_pre {ls : List (Nat × Nat)} {left ord : List Nat} (h : Soon ls left ord) : ∀ {i : Nat} {k a : Nat}, ord[i]? = some k → (a, k) ∈ ls → a ∈ left → a ∈ ord.take i := by
  induction h with
  | nil => intro i k a z; cases z
  | @cons left ord k0 x y z d ih =>
    intro i k a hk hp ha
    cases i with
    | zero =>
      cases hk
      exact absurd ha (y _ hp rfl)
    | succ i =>
      rw [List.take_succ_cons]
      by_cases e : a = k0
      · rw [e]; exact List.mem_cons_self ..
      · exact List.mem_cons_of_mem _ (ih hk hp ((List.mem_erase_of_ne e).mpr ha))
theorem mem_coming {bs : List BR} {k j : Nat} {b : BR} (e : bs[j]? = some b) : j ∈ comingN bs k ↔ b.to = k := by
  unfold comingN
  rw [List.mem_filter]
  constructor
  · intro h
    have := of_decide_eq_true h.2
    rw [e] at this
    exact Option.some.inj this
  · intro h
    exact ⟨List.mem_range.mpr (List.getElem?_eq_some_iff.mp e).1, decide_eq_true (by rw [e, ← h]; rfl)⟩
theorem coming_at {bs : List BR} {k j : Nat} (h : j ∈ comingN bs k) : ∃ b, bs[j]? = some b ∧ b.to = k := by
  have := of_decide_eq_true (List.mem_filter.mp h).2
  cases e : bs[j]? with
  | none => rw [e] at this; cases this
  | some b => rw [e] at this; exact ⟨b, rfl, Option.some.inj this⟩
theorem mom_at {hs : List HR} {k : Nat} {h : HR} (e : hs[k]? = some h) : momN hs k = h.mom := by unfold momN; rw [e]
/-! ### max(xs, key=lambda x: ..), the lambda over a name of the def around it -/
/-- one answer of the lambda: in its own frame, the caller's things as they are -/
def KeyBody (X : Cx) (scope : Scope) (body : Expr) (x : Str) (KA : L2.St → Hp → Int → Int → Prop) : Prop :=
  ∀ (pins : List (Addr × Obj)) (σ : L2.St) (H : Hp) (A' : Around) (env' : Env) (E' : Value → Shared → Prop) (z : Shared) (n k : Int) (t : Tok), Inv X pins σ H z → A'.units + 1 < cLine → env'.scope = scope → env'.cells = cloFrom X.env.cells scope.names [] →
    z.heap.Ns env'.locals (fun y => ([(x, Value.int n t)] : List (Str × Value)).lookup y) → KA σ H n k → wpAny (model X.prog X.w) A' (eval body env') (fun y z' => (∃ t', y = .int k t') ∧ ∃ tk, z' = { z with toks := tk }) E' z
/-- a state that keeps all that stood -/
def Grown (s z : Shared) : Prop := ∃ (h' : Heap) (tk : Nat), z = { s with heap := h', toks := tk } ∧ ∀ b o, s.heap.get? b = some o → h'.get? b = some o
theorem Grown.refl (s : Shared) : Grown s s := ⟨s.heap, s.toks, rfl, fun _ _ e => e⟩
theorem Grown.kp {s z : Shared} (g : Grown s z) : ∀ b o, s.heap.get? b = some o → z.heap.get? b = some o := by
  obtain ⟨h', tk, rfl, k⟩ := g
  exact k
structure LamShape (params : Arguments) (body : Expr) (scope : Scope) (x : Str) : Prop where
  bnd : ∀ (q : Str) (cl : List (Str × Addr)) (pm cdv ct v : Value), bindArgs (PySem.W.kla_fn "<lambda>" q params body scope cl pm cdv ct) ⟨[v], []⟩ = pure [(x, v)]
  loc : scope.names.lookup x = some .local
  co : scope.isCoroutine = false
  gen : scope.isGenerator = false
  kind : scope.kind = .function
  cell : ∀ y ∈ scope.names, y.2 ≠ .cell
theorem lam_call {X : Cx} {pins : List (Addr × Obj)} {σ : L2.St} {H : Hp} {s z : Shared} {A' : Around} {E' : Value → Shared → Prop} {params : Arguments} {body : Expr} {scope : Scope} {x : Str} {KA : L2.St → Hp → Int → Int → Prop} {f c' : Addr} {q : Str} {pm ctv : Value} {n k : Int} {t : Tok}
    (L : LamShape params body scope x) (B : KeyBody X scope body x KA) (I : Inv X pins σ H s) (g : Grown s z) (hf : s.heap.get? f = some (PySem.W.kla_obj "<lambda>" q params body scope (cloFrom X.env.cells scope.names []) pm c' ctv)) (hc : s.heap.CodeRec (.ref c') q)
    (dep : A'.depth < recursionLimit) (un : ∀ e : Env, (A'.deeper e).units + 1 < cLine) (ka : KA σ H n k) :
    wpAny (model X.prog X.w) A' (call (.ref f) [.int n t]) (fun y z' => (∃ t', y = .int k t') ∧ Grown z z') E' z := by
  obtain ⟨h', tk, rfl, kp⟩ := g
  have hc2 : Heap.CodeRec h' (.ref c') q := by
    obtain ⟨c0, oc, vs, tq, e0, e1, e2, e3⟩ := hc
    exact ⟨c0, oc, vs, tq, e0, kp _ _ e1, e2, e3⟩
  refine wpAny_call (PySem.W.kla_callFunE dep (kp _ _ hf) rfl L.co L.gen rfl hc2 ?_)
  rw [L.bnd]
  refine wpAny_pure (wpAny_newFunctionEnv L.cell (fun y hy => ?_) (fun h1 hns hsb => ?_) L.kind)
  · rw [List.mem_singleton.mp hy]
    exact L.loc
  have grew : ∀ b o, h'.get? b = some o → h1.get? b = some o := fun b o e => hsb.extBut b o (Nat.ne_of_lt (Heap.lt_size e)) (Heap.get?_push_of_some _ e)
  have J : Inv X pins σ H { s with heap := h1, toks := tk + 1 } := I.kept fun b o e => grew b o (kp b o e)
  refine ⟨J.nolimit, PySem.W.kla_codeExpr ?_⟩
  refine wpAny_mono (B pins σ H _ _ _ { s with heap := h1, toks := tk + 1 } n k t J (un _) rfl rfl hns ka) (fun y z' r => ?_) fun _ _ e => e
  obtain ⟨e1, tk2, rfl⟩ := r
  exact ⟨e1, h1, tk2, rfl, grew⟩
def tMaxKey (K : PySem.W.Frag) (T : List (Addr × Str)) (KA : L2.St → Hp → Int → Int → Prop) (te : TE) : TE := fun σ H Q => te σ H fun v H1 => ∃ (a : Addr) (ns : List Int) (kf : Int → Int), v = .ref a ∧ SqL K H1 a (ns.map V.int) ∧ 0 < ns.length ∧ LamX.Tabs T H1 ∧
  ∀ H2, LamX.ExtN H1 H2 → LamX.Tabs T H2 → SqL K H2 a (ns.map V.int) ∧ (∀ n ∈ ns, KA σ H2 n (kf n)) ∧ ∀ m, m ∈ ns → (∀ y ∈ ns, kf y ≤ kf m) → Q (.int m) H2
theorem ints_val2 {ns : List Int} {its : List Value} (rv : Vals (ns.map V.int) its) : ∀ i v, its.toArray[i]? = some v → i < ns.length ∧ ∃ t, v = Value.int (ns.getD i 0) t := fun i v e => by
  rw [List.getElem?_toArray] at e
  have il : i < ns.length := by
    have h1 := (List.getElem?_eq_some_iff.mp e).1
    have h2 := rv.length
    rw [List.length_map] at h2
    omega
  obtain ⟨u, eu, t, ru⟩ := rv.get (i := i) (x := .int ns[i]) (by rw [List.getElem?_map, List.getElem?_eq_getElem il]; rfl)
  rw [e] at eu
  cases eu
  exact ⟨il, t, by rw [ru, List.getD_eq_getElem?_getD, List.getElem?_eq_getElem il]; rfl⟩
theorem pe_maxLam {X : Cx} (K : PySem.W.Frag) (hK : X.K = K) {T : List (Addr × Str)} {c P : Addr} {e : Expr} {te : TE} {params : Arguments} {body : Expr} {scope : Scope} {lpos kpos p pos : Pos} {x : Str} {KA : L2.St → Hp → Int → Int → Prop} {k : Nat}
    (hc : X.calm = true) (hr : Room k X.A) (hk : 2 ≤ k) (hg : Gl X "max") (hm : X.mg "max" = none) (TB : LamX.TabB X.base X.mg c P) (hcode : X.env.code = .ref c) (hT1 : (P, X.env.qual ++ "<lambda>") ∈ T) (hT2 : ∀ q ∈ T, q.1 = P → q.2 = X.env.qual ++ "<lambda>")
    (hdef : defaultsOf params X.env = ([], [])) (hfree : ∀ y ∈ scope.names, y.2 = .free → ∃ d, X.env.cells.lookup y.1 = some d) (L : LamShape params body scope x) (B : KeyBody X scope body x KA) (he : PE X e te)
    (hbt : backTo pos (starEach [e] X.env) = (false, eval e X.env) :: backTo pos (starEach [] X.env) := by rfl) (hpl : (backTo pos (starEach [e] X.env)).any (·.1) = false := by rfl) :
    PE X (.Call (.Name "max" p) [e] [⟨some "key", .Lambda params body scope lpos, kpos⟩] pos) (tMaxKey K T KA te) := by
  subst hK
  refine ⟨fun pins s σ H Q I h => ?_⟩
  have hbm : bootBuiltins ("max" : Str) = some (.builtin "max") := by decide +kernel
  refine wpAny_Call_Name_kw (ld_blt I hg hm hbm ?_)
  refine PyProof.Rows.callWith_kw ?_ hbt hpl rfl rfl
  rw [hbt]
  refine Calls.spliced_cons (thn (he.run pins s σ H _ I h) fun u s1 ⟨v, H1, I1, rv, now⟩ => Calls.spliced_nil ?_)
  obtain ⟨a, ns, kf, ev, hq, pos0, tabs, fin⟩ := now
  subst ev
  obtain rfl : u = Value.ref a := rv
  show wpAny _ _ (evalAll [(do let v ← eval (.Lambda params body scope lpos) X.env; standAt pos; pure v)]) _ _ s1
  refine wpAny_evalAll_cons (wpAny_bind (LamX.lam_make2 I1 TB hcode hT1 hT2 tabs hdef hfree fun f c' pm ctv H2 s2 I2 ext tabs2 hf nf nst hco => wpAny_bind (wpAny_standAt (wpAny_pure (wpAny_evalAll_nil ?_)))))
  obtain ⟨hq2, keys, fin⟩ := fin H2 ext tabs2
  obtain ⟨its, rvs, hl, _⟩ := I2.list hq2
  have ln : its.length = ns.length := by rw [← rvs.length, List.length_map]
  have hh := I2.ok.hd hc
  have codeR : s2.heap.CodeRec (.ref c') (X.env.qual ++ "<lambda>") := by
    obtain ⟨⟨oc, vs, tq, g1, g2, g3⟩, _⟩ := I2.hok c' _ hco
    exact ⟨c', oc, vs, tq, rfl, g1, g2, g3⟩
  have dep := hr.dp
  show wpAny _ _ (call (.builtin "max") [.ref a] [(Str.ofString "key", .ref f)]) _ _ s2
  refine PySem.call_max_walkK (PySem.W.iter_listW (A := X.A.in1) hh hl.isList fun s₂ es W st hfp hw hkp => ?_)
  refine ⟨_, _, _, _, _, _, _, Grown s2, (fun i kv _ => ∃ t, kv = Value.int (kf (ns.getD i 0)) t), (fun i j => decide (kf (ns.getD i 0) > kf (ns.getD j 0))), rfl, W, st, hfp, ?_, ⟨fun z z' g m => ?_, fun i kv z z' r _ => r, fun i vi z o Qt Et hi hP g hst hS now => ?_, fun i j ki kj z Qc Ec g ri rj now => ?_⟩, ?_, fun v z hP g => ?_⟩
  · rw [List.size_toArray, ln]; exact pos0
  · obtain ⟨h', tk, rfl, kp⟩ := g
    refine ⟨z'.heap, z'.toks, ?_, fun b o eb => m.heap b o (fun hb => ?_) (kp b o eb)⟩
    · obtain ⟨hp, gs, dr, tk2, os⟩ := z'
      obtain rfl : gs = s2.gens := m.gens
      obtain rfl : dr = s2.drawn := m.drawn
      obtain rfl : os = s2.os := m.os
      rfl
    · have lt := Heap.lt_size eb
      have sz : s₂.heap.objs.size = s2.heap.objs.size + 1 := by rw [es]; exact Heap.size_push ..
      have either : b = s₂.heap.objs.size ∨ b = s2.heap.objs.size := by simpa using hb
      rcases either with w | w
      · rw [w, sz] at lt
        exact Nat.lt_irrefl _ (Nat.lt_trans (Nat.lt_succ_self _) lt)
      · rw [w] at lt
        exact Nat.lt_irrefl _ lt
  · obtain ⟨il, t, rfl⟩ := ints_val2 rvs i vi hP
    have mem : ns.getD i 0 ∈ ns := by
      rw [List.getD_eq_getElem?_getD, List.getElem?_eq_getElem il]
      exact List.getElem_mem _
    refine wpAny_mono (lam_call L B I2 g hf codeR (show X.A.in1.depth < recursionLimit from by show X.A.depth < _; omega) (fun e => by have := hr.un; show X.A.units + 1 + 3 + 1 < cLine; omega) (keys _ mem)) (fun y z' r => ?_) fun _ _ e => e
    obtain ⟨e1, gr⟩ := r
    have kp := gr.kp
    obtain ⟨h', tk, ez, kp0⟩ := g
    obtain ⟨h2, tk2, ez2, _⟩ := gr
    have gz : Grown s2 z' := by
      subst ez
      subst ez2
      exact ⟨h2, tk2, rfl, fun b o q => kp b o (kp0 b o q)⟩
    refine now y z' gz ⟨?_, ?_⟩ (kp _ _ hS) e1 fun j k' q => q
    · obtain ⟨o1, ho1, r1⟩ := hst.1
      exact ⟨o1, kp _ _ ho1, r1⟩
    · obtain ⟨o1, ho1, r1⟩ := hst.2
      exact ⟨o1, kp _ _ ho1, r1⟩
  · exact (CmpOf.ints_gt (P := fun i kv => ∃ t, kv = Value.int (kf (ns.getD i 0)) t) (fun i => kf (ns.getD i 0)) (fun _ _ q => q)) i j ki kj z Qc Ec ri rj now
  · exact ⟨s₂.heap, s2.toks, by rw [es], hkp⟩
  · obtain ⟨h', tk, rfl, kp⟩ := g
    obtain ⟨il, t, rfl⟩ := ints_val2 rvs _ v hP
    obtain ⟨b1, b2⟩ := argBest_gt (fun i => kf (ns.getD i 0)) (its.toArray.size - 1)
    have hsz : its.toArray.size = its.length := List.size_toArray
    refine ⟨.int _, H2, I2.kept kp, ⟨_, rfl⟩, fin _ ?_ fun y hy => ?_⟩
    · rw [List.getD_eq_getElem?_getD, List.getElem?_eq_getElem il]
      exact List.getElem_mem _
    · obtain ⟨j, hj⟩ := List.getElem?_of_mem hy
      have jl := (List.getElem?_eq_some_iff.mp hj).1
      have := b2 j (by omega)
      rw [show ns.getD j 0 = y by rw [List.getD_eq_getElem?_getD, hj]; rfl] at this
      exact this
/-! ### what such lambdas say -/
/-- a name of the def around, as the lambda sees it -/
structure Sees (X : Cx) (scope : Scope) (x y : Str) (i : Nat) : Prop where
  at_ : X.N[i]? = some y
  vis : Vis X.env.scope y
  out : X.env.kindOf y ≠ some .local
  kind : scope.kind = .function
  kx : scope.names.lookup x = some .local
  ky : scope.names.lookup y = some .free
  clo : ∀ cells : List (Str × Addr), (cloFrom cells scope.names []).lookup y = some ((cells.lookup y).getD 0)
  dx : (x == ("__debug__" : Str)) = false
  dy : (y == ("__debug__" : Str)) = false
  cy : (y == ("__classdict__" : Str)) = false
theorem Sees.load {X : Cx} {scope : Scope} {x y : Str} {i : Nat} (S : Sees X scope x y i) {pins : List (Addr × Obj)} {σ : L2.St} {H : Hp} {A' : Around} {env' : Env} {E' : Value → Shared → Prop} {z : Shared} {v : V} {p : Pos} {Q : Value → Shared → Prop} (I : Inv X pins σ H z) (es : env'.scope = scope) (ec : env'.cells = cloFrom X.env.cells scope.names []) (hv : σ[i]? = some (some v))
    (h : ∀ u, RelV v u → Q u z) : wpAny (model X.prog X.w) A' (eval (.Name y p) env') Q E' z := by
  obtain ⟨m, _, look⟩ := I.loc
  obtain ⟨u, ru, l⟩ := look i y v S.at_ hv S.vis
  rcases l with ⟨l, _⟩ | ⟨_, d, hd, hc⟩
  · exact absurd l S.out
  · refine wpAny_Name (wpAny_loadName_free (c := d) (by rw [es]; exact S.kind) (show env'.scope.names.lookup y = _ by rw [es]; exact S.ky) ?_ hc (h u ru) S.cy) S.dy
    rw [ec, S.clo, hd]
    rfl
theorem Sees.arg {X : Cx} {scope : Scope} {x y : Str} {i : Nat} (S : Sees X scope x y i) {A' : Around} {env' : Env} {E' : Value → Shared → Prop} {z : Shared} {n : Int} {t : Tok} {p : Pos} {Q : Value → Shared → Prop} (es : env'.scope = scope) (ns : z.heap.Ns env'.locals (fun y => ([(x, Value.int n t)] : List (Str × Value)).lookup y))
    (h : Q (.int n t) z) : wpAny (model X.prog X.w) A' (eval (.Name x p) env') Q E' z := by
  refine wpAny_Name (wpAny_loadName_local (by rw [es]; exact S.kind) (show env'.scope.names.lookup x = _ by rw [es]; exact S.kx) ns ?_ h) S.dx
  show (match x == x with | true => some (Value.int n t) | false => none) = some (Value.int n t)
  rw [beq_self_eq_true]
/-- lambda x: y[x], y a dict -/
def kaDict (i : Nat) : L2.St → Hp → Int → Int → Prop := fun σ H n k => ∃ (d : Addr) (kvs : List (Key × V)), σ[i]? = some (some (.ref d)) ∧ H d = some (.dK kvs) ∧ valV kvs (.inl n) = some (.int k)
theorem body_dict {X : Cx} {scope : Scope} {x y : Str} {i : Nat} {p1 p2 p3 : Pos} (S : Sees X scope x y i) (ns : NoSl (.Name x p2)) : KeyBody X scope (.Subscript (.Name y p1) (.Name x p2) p3) x (kaDict i) := by
  intro pins σ H A' env' E' z n k t I un es ec nz ka
  obtain ⟨d, kvs, hd, hH, hv⟩ := ka
  refine subD_of PySem.F.slot_dict_getitem.lookup ns (S.load I es ec hd fun u ru => S.arg es nz ?_)
  obtain rfl : u = Value.ref d := ru
  obtain ⟨_, _, vals, kv, dict⟩ := dk_of I.hok hH
  obtain ⟨w', hw, rw'⟩ := RelO.some_of (v := .int k) (o := valueAt vals (.inl n)) (by rw [← hv]; exact kv.val _)
  refine ⟨dict.typeIs, wpAny_getItem_of (kV_is (k := .inl n) ⟨t, rfl⟩) dict.mapOf hw ⟨rw', _, rfl⟩⟩
/-- lambda x: y[x][1], y a tuple of tuples -/
def kaTup (K : PySem.W.Frag) (i : Nat) : L2.St → Hp → Int → Int → Prop := fun σ H n k => ∃ (a b : Addr) (xs ys : List V), σ[i]? = some (some (.ref a)) ∧ SqT K H a xs ∧ atI xs n = some (.ref b) ∧ SqT K H b ys ∧ atI ys 1 = some (.int k)
theorem tup_item {X : Cx} {pins : List (Addr × Obj)} {σ : L2.St} {H : Hp} {A' : Around} {E' : Value → Shared → Prop} {z : Shared} {a : Addr} {xs : List V} {n : Int} {t : Tok} {v : V} {Q : Value → Shared → Prop} (I : Inv X pins σ H z) (hs : SqT X.K H a xs) (hv : atI xs n = some v)
    (h : ∀ u, RelV v u → Q u z) : z.TypeIs (.ref a) "tuple" ∧ wpAny (model X.prog X.w) A' (getItem (.ref a) (.int n t)) Q E' z := by
  obtain ⟨items, rel, tup, small⟩ := I.tuple hs
  obtain ⟨j, i1, i2, i3, i4, i5⟩ := atI_get hv
  obtain ⟨u, hu, ru⟩ := rel.get i2
  have len := rel.length
  have big := line63
  exact ⟨tup.typeIs, PyProof.Rows.getItem_tuple (j := j) tup (by omega) (by omega) (by rw [List.size_toArray, ← len]; exact i1) (by simpa using hu) (h u ru)⟩
theorem body_tup {X : Cx} {scope : Scope} {x y : Str} {i j : Nat} {p1 p2 p3 p4 p5 : Pos} (S : Sees X scope x y i) (n1 : NoSl (.Name x p2)) (n2 : NoSl (.Constant (.int 1) j p4)) : KeyBody X scope (.Subscript (.Subscript (.Name y p1) (.Name x p2) p3) (.Constant (.int 1) j p4) p5) x (kaTup X.K i) := by
  intro pins σ H A' env' E' z n k t I un es ec nz ka
  obtain ⟨a, b, xs, ys, ha, hx, hb, hy, hk⟩ := ka
  refine subD_of slot_tuple_getitem.lookup n2 (subD_of slot_tuple_getitem.lookup n1 (S.load I es ec ha fun u ru => S.arg es nz ?_))
  obtain rfl : u = Value.ref a := ru
  refine tup_item I hx hb fun u2 ru2 => wpAny_Constant_int ?_
  obtain rfl : u2 = Value.ref b := ru2
  exact tup_item (I.tok _) hy hk fun u3 ru3 => ⟨ru3, _, rfl⟩
theorem free_one {names : List (Str × NameKind)} {cells : List (Str × Addr)} {y : Str} {d : Addr} (h : (names.filter fun p => p.2 == NameKind.free) = [(y, NameKind.free)]) (hd : cells.lookup y = some d) : ∀ p ∈ names, p.2 = .free → ∃ d, cells.lookup p.1 = some d := fun p hp e => by
  have : p ∈ names.filter fun p => p.2 == NameKind.free := List.mem_filter.mpr ⟨hp, by rw [e]; rfl⟩
  rw [h] at this
  rw [List.mem_singleton.mp this]
  exact ⟨d, hd⟩
theorem ExtN.tk {H H' : Hp} (e : LamX.ExtN H H') : TK H H' := fun b xs h => e b _ h (fun _ z => nomatch z)
theorem ExtN.lst {H H' : Hp} {a : Addr} {xs : List V} (e : LamX.ExtN H H') (h : H a = some (.lst xs)) : H' a = some (.lst xs) := e a _ h (fun _ z => nomatch z)
theorem ExtN.dic {H H' : Hp} {a : Addr} {kvs : List (Key × V)} (e : LamX.ExtN H H') (h : H a = some (.dK kvs)) : H' a = some (.dK kvs) := e a _ h (fun _ z => nomatch z)
theorem ExtN.flow {H H' : Hp} {f c : Addr} (e : LamX.ExtN H H') (h : Flow H f c) : Flow H' f c := by
  obtain ⟨ns, i, p, q, r, e1, e2, rest⟩ := h
  exact ⟨ns, i, p, q, r, ExtN.lst e e1, ExtN.lst e e2, rest⟩
theorem ExtN.same {H H' : Hp} (s : Same H H') : LamX.ExtN H H' := LamX.ExtN.of s
theorem tabs_same {T : List (Addr × Str)} {H H' : Hp} (t : LamX.Tabs T H) (s : Same H H') : LamX.Tabs T H' := t.ext s
theorem tabs_lst {T : List (Addr × Str)} {H : Hp} {l : Addr} {xs ys : List V} (t : LamX.Tabs T H) (h : H l = some (.lst xs)) : LamX.Tabs T (upd H l (.lst ys)) := fun p hp => by
  obtain ⟨ps, h1, h2, h3⟩ := t p hp
  have ne : ∀ b o, H b = some o → (∀ zs, o ≠ .lst zs) → upd H l (.lst ys) b = some o := fun b o e n => by
    rw [upd_ne (fun z => by rw [z, h] at e; cases e; exact n _ rfl)]
    exact e
  refine ⟨ps, ne _ _ h1 (fun _ z => nomatch z), h2, fun pos cv hc => ?_⟩
  obtain ⟨c, e1, e2⟩ := h3 pos cv hc
  exact ⟨c, e1, ne _ _ e2 (fun zs z => by unfold LamX.CodeO at z; cases z)⟩
theorem tabs_but {T : List (Addr × Str)} {H H' : Hp} {f c : Addr} (t : LamX.Tabs T H) (F : Flow H f c) (b : But f H H') : LamX.Tabs T H' := fun p hp => by
  obtain ⟨ps, h1, h2, h3⟩ := t p hp
  obtain ⟨ns, i, a, q, r, e1, _⟩ := F
  have ne : ∀ d o, H d = some o → (∀ zs, o ≠ .lst zs) → H' d = some o := fun d o e n => b d o e (fun z => by rw [z, e1] at e; cases e; exact n _ rfl)
  refine ⟨ps, ne _ _ h1 (fun _ z => nomatch z), h2, fun pos cv hc => ?_⟩
  obtain ⟨c, g1, g2⟩ := h3 pos cv hc
  exact ⟨c, g1, ne _ _ g2 (fun zs z => by unfold LamX.CodeO at z; cases z)⟩
/-- a def of which the code object is known -/
theorem ok_code {P : Program} {w : World} {K : PySem.W.Frag} {mg : Str → Option Value} {base : Heap} {x qual : Str} {st : Stmt} {f c : Addr} {fd : FuncData} {N ps : List Str} {k : Nat} {sp : Sp} (F : Fun K x qual st f fd) (hc : fd.code = .ref c) (S : FnScope N ps (defScope st)) (len : ∀ vs H Q E, sp vs H Q E → vs.length = ps.length)
    (hbody : ∀ (A : Around) (outer : List Env) (s : Shared) (H : Hp) (vs : List V) (Q : VK) (E : XK), Room k (A.deeper (envOfC qual (defScope st) s.heap.objs.size f (.ref c))) → sp vs H Q E →
      ∃ t, PSs (cxOf CX0 P w K mg base N qual (defScope st) f (.ref c) A outer s H E).nox (defBody st) t ∧ t { nx := fun _ H' => Q .non H', rt := Q } (start N vs) H) : FnOk P w K mg base CX0 (k + 1) f fd ps sp := by
  obtain ⟨kl, kd, kV, dc, pm, an, cv, ct, ks, rfl, look, cin⟩ := F.ex
  obtain rfl : cv = .ref c := hc
  refine fn_of look cin S len fun A outer s H vs Q E hr now => ?_
  obtain ⟨t, h, q⟩ := hbody A outer s H vs Q E hr now
  exact ⟨t, h.nox, q⟩
/-! ### ways -/
def WayAt (H : Hp) (t : Addr) (k : Nat) (ns : List Nat) : Prop := ∃ g : Addr, H t = some (.tup [nV k, .ref g]) ∧ H g = some (.tup (ns.map nV))
theorem WayAt.keep {H H' : Hp} {t : Addr} {k : Nat} {ns : List Nat} (h : WayAt H t k ns) (s : TK H H') : WayAt H' t k ns := by
  obtain ⟨g, e1, e2⟩ := h
  exact ⟨g, s _ _ e1, s _ _ e2⟩
def momH (hs : List HR) (k : Nat) : Int := match hs[k]? with | some h => h.mom | none => 0
def trB (bs : List BR) (n : Nat) : Int := match bs[n]? with | some b => (b.th.length : Int) | none => 0
def toB (bs : List BR) (n : Nat) : Nat := match bs[n]? with | some b => b.to | none => 0
def wayEnd (bs : List BR) : Nat → List Nat → Option Nat
  | k, [] => some k
  | k, n :: ns => match bs[n]? with | some b => if b.one = k then wayEnd bs b.to ns else none | none => none
theorem wayEnd_cons {bs : List BR} {n k : Nat} {b : BR} {ns : List Nat} (e : bs[n]? = some b) : wayEnd bs k (n :: ns) = if b.one = k then wayEnd bs b.to ns else none := by
  show (match bs[n]? with | some b => if b.one = k then wayEnd bs b.to ns else none | none => none) = _
  rw [e]
theorem drop_at {α : Type} {ns : List α} {i : Nat} {n : α} (e : ns[i]? = some n) : ns.drop i = n :: ns.drop (i + 1) := by
  obtain ⟨h, z⟩ := List.getElem?_eq_some_iff.mp e
  rw [List.drop_eq_getElem_cons h, z]
def onV : Option Nat → V
  | none => .non
  | some k => nV k
theorem nats_at {ns : List Nat} {i : Nat} {x : V} (h : (ns.map nV)[i]? = some x) : ∃ n : Nat, ns[i]? = some n ∧ x = nV n := by
  rw [List.getElem?_map] at h
  cases e : ns[i]? with
  | none => rw [e] at h; cases h
  | some n => rw [e] at h; exact ⟨n, rfl, (Option.some.inj h).symm⟩
section
variable {P : Program} {w : World} {K : PySem.W.Frag} {mg : Str → Option Value} {base : Heap}
def momW (hs : List HR) (bs : List BR) (k : Nat) (ns : List Nat) : Int := momH hs k + (ns.map fun n => momH hs (toB bs n)).sum
def sp_moments_on (K : PySem.W.Frag) : Sp := fun vs H Q _ => ∃ (r t : Addr) (hs : List HR) (bs : List BR) (k : Nat) (ns : List Nat), vs = [.ref r, .ref t] ∧ RoomAt H r hs bs ∧ (∀ b ∈ bs, b.to < hs.length) ∧ WayAt H t k ns ∧ k < hs.length ∧ (∀ n ∈ ns, n < bs.length) ∧ ns.length ≤ 400 ∧ ∀ H', Same H H' → Q (.int (momW hs bs k ns)) H'
theorem ok_moments_on {f : Addr} {fd : FuncData} (F : Fun K "moments_on" "moments_on" s_moments_on f fd) (T : Top K mg) : FnOk P w K mg base CX0 1 f fd ["room", "way"] (sp_moments_on K) := by
  refine F.ok sc_moments_on (fun vs H Q E h => ?_) (fun cdv A outer s H vs Q E hr h => ?_)
  · obtain ⟨r, t, hs, bs, k, ns, rfl, _⟩ := h
    rfl
  obtain ⟨r, t, hs, bs, k, ns, rfl, hR, hto, ⟨g, et, eg⟩, hk, hn, ln, q⟩ := h
  obtain ⟨ha, ba, hv, bv, er, eh, eb, alh, alb⟩ := hR.ex
  refine ⟨_, (pss_cons (ps_asg (pv 0) (pg_tupK K rfl rfl (pgs_cons (pg_name (i := 2) sc_moments_on.nd rfl (Or.inr rfl)) (pgs_cons (pg_name (i := 3) sc_moments_on.nd rfl (Or.inr rfl)) pgs_nil))))
      (pss_cons (ps_asg (pv 1) (pg_tupK K rfl rfl (pgs_cons (pg_name (i := 4) sc_moments_on.nd rfl (Or.inl rfl)) (pgs_cons (pg_name (i := 5) sc_moments_on.nd rfl (Or.inl rfl)) pgs_nil))))
      (pss_one (ps_ret (pe_op op_add (pe_ix (ix_tupK K rfl) (pe_ix (ix_tupK K rfl) (pv 2) (pv 4) (fun _ _ => rfl)) pe_int (fun _ _ => rfl)) (pe_callB (cr_sumK K rfl rfl) (by rfl) T.m_sum (by decide +kernel) (pa_cons (pe_lc (own := [("number", 6)]) (g := gName 6) (tt := tYes) (by rfl) sc_moments_on.nd (pi_tupK K rfl (pv 5)) (blkOk_by (own := [("number", 6)]) (N := N_moments_on) (sc := defScope s_moments_on) (by decide +kernel)) (fun _ _ _ _ _ => (pg_name (i := 6) sc_moments_on.nd rfl (Or.inl rfl))) (fun _ _ _ _ _ => pts_nil) (fun _ _ _ _ _ => (pe_ix (ix_tupK K rfl) (pe_ix (ix_tupK K rfl) (pv 2) (pe_ix (ix_tupK K rfl) (pe_ix (ix_tupK K rfl) (pv 3) (pv 6) (fun _ _ => rfl)) pe_int (fun _ _ => rfl)) (fun _ _ => rfl)) pe_int (fun _ _ => rfl)))) pa_nil))))))), ?_⟩
  refine ⟨_, rfl, r, _, rfl, SqT.of er, rfl, _, _, rfl, _, _, rfl, rfl, ?_⟩
  refine ⟨_, rfl, t, _, rfl, SqT.of et, rfl, _, _, rfl, _, _, rfl, rfl, ?_⟩
  have ehk : hs[k]? = some hs[k] := List.getElem?_eq_getElem hk
  obtain ⟨x0, ex0, ⟨t0, r0, rfl, e01, e02⟩⟩ := alh.get ehk
  refine ⟨_, rfl, _, rfl, ha, _, _, _, rfl, rfl, SqT.of eh, atI_nat ex0, t0, _, _, _, rfl, rfl, SqT.of e01, atI_nat (j := 1) rfl, ?_⟩
  refine ⟨_, rfl, g, rfl, ⟨_, SqT.of eg⟩, fun D nD => lc_tup (K := K) (a := g) (xs := ns.map nV) (fun i H5 => H5 D = some (.lst (((ns.take i).map fun n => momH hs (toB bs n)).map V.int)) ∧ Same H H5) ⟨upd_same, same_new nD⟩ (fun i H5 _ ⟨_, s5⟩ => SqT.of (s5 _ _ eg)) ?_ ?_⟩
  · rintro i x H5 hx ⟨hD, s5⟩
    obtain ⟨n, en, rfl⟩ := nats_at hx
    have il := (List.getElem?_eq_some_iff.mp en).1
    have nb := hn n (List.mem_of_getElem? en)
    have ebn : bs[n]? = some bs[n] := List.getElem?_eq_getElem nb
    obtain ⟨x, ex, ⟨t2, g2, rfl, e1, e2⟩⟩ := alb.get ebn
    have tb := hto _ (List.getElem_mem nb)
    have eht : hs[bs[n].to]? = some hs[bs[n].to] := List.getElem?_eq_getElem tb
    obtain ⟨y, ey, ⟨t3, r3, rfl, e31, e32⟩⟩ := alh.get eht
    refine ⟨rfl, yes_in ⟨_, rfl, _, rfl, _, rfl, ba, _, _, _, rfl, rfl, SqT.of (s5 _ _ eb), atI_nat ex, t2, _, _, _, rfl, rfl, SqT.of (s5 _ _ e1), atI_nat (j := 1) rfl, ha, _, _, _, rfl, rfl, SqT.of (s5 _ _ eh), atI_nat ey, t3, _, _, _, rfl, rfl, SqT.of (s5 _ _ e31), atI_nat (j := 1) rfl, _, hD, ?_, ?_, Same.own s5 nD⟩⟩
    · rw [List.length_map, List.length_map, List.length_take]; exact small1000 (by omega)
    · rw [upd_same, List.take_add_one, en, List.map_append, List.map_append]
      show _ = some (HO.lst (_ ++ [V.int (momH hs (toB bs n))]))
      unfold momH toB
      rw [ebn]
      dsimp only
      rw [eht]
  · rintro H5 ⟨hD, s5⟩
    rw [List.length_map, List.take_length] at hD
    refine ⟨D, _, rfl, SqL.of hD, _, _, rfl, rfl, ?_⟩
    have := q _ s5
    unfold momW at this
    rw [show momH hs k = hs[k].mom by unfold momH; rw [ehk]] at this
    exact this
end

/-! ### the greatest moments of ways without trays -/
def lng (hs : List HR) (bs : List BR) (k : Nat) : Int := erl hs bs k 0 + momN hs k
section
variable {hs : List HR} {bs : List BR} {rk : Nat → Int}
theorem lng_mom (hr : ∀ b ∈ bs, b.th = [] → rk b.one < rk b.to) (he : ∀ b ∈ bs, b.one < hs.length ∧ b.to < hs.length) {k : Nat} (hk : k < hs.length) : momN hs k ≤ lng hs bs k := by
  unfold lng
  have : 0 ≤ erl hs bs k 0 := by
    rw [erl_is hr he hk]
    exact gtst_le due_zero
  omega
theorem lng_belt (hr : ∀ b ∈ bs, b.th = [] → rk b.one < rk b.to) (he : ∀ b ∈ bs, b.one < hs.length ∧ b.to < hs.length) {b : BR} (hb : b ∈ bs) (e : b.th = []) : lng hs bs b.one + momN hs b.to ≤ lng hs bs b.to := by
  unfold lng
  have : erl hs bs b.one 0 + momN hs b.one ≤ erl hs bs b.to 0 := by
    rw [erl_is hr he (he b hb).2]
    refine gtst_le (due_mem.mpr (.inr (.inr ⟨b, hb, rfl, by rw [e]; exact Nat.le_refl _, ?_⟩)))
    rw [Nat.zero_sub]
  omega
theorem lng_is (hr : ∀ b ∈ bs, b.th = [] → rk b.one < rk b.to) (he : ∀ b ∈ bs, b.one < hs.length ∧ b.to < hs.length) {k : Nat} (hk : k < hs.length) : lng hs bs k = momN hs k ∨ ∃ b ∈ bs, b.to = k ∧ b.th = [] ∧ lng hs bs k = lng hs bs b.one + momN hs k := by
  have m := gtst_mem (due_zero (hs := hs) (bs := bs) (e := erl hs bs) (k := k) (t := 0))
  rw [← erl_is hr he hk] at m
  unfold lng
  rcases due_mem.mp m with z | ⟨z, _⟩ | ⟨b, hb, e1, e2, z⟩
  · left; omega
  · exact absurd rfl z
  · right
    refine ⟨b, hb, e1, List.eq_nil_of_length_eq_zero (Nat.le_zero.mp e2), ?_⟩
    rw [Nat.zero_sub] at z
    omega
end
/-- how a hand's greatest moments come about: its own alone, or over a belt -/
def LaK (hs : List HR) (bs : List BR) (v : Int) (k : Nat) : Option Nat → Prop
  | none => v = momN hs k
  | some n => ∃ b, bs[n]? = some b ∧ b.to = k ∧ b.th = [] ∧ v = lng hs bs b.one + momN hs k
theorem keys_any {kvs : List (Key × V)} {k : Key} : (kvs.any fun kv => decide (kv.1 = k)) = true ↔ k ∈ kvs.map (·.1) := by
  rw [List.any_eq_true, List.mem_map]
  constructor
  · rintro ⟨p, hp, h⟩
    exact ⟨p, hp, of_decide_eq_true h⟩
  · rintro ⟨p, hp, h⟩
    exact ⟨p, hp, decide_eq_true h⟩
theorem keys_old {kvs : List (Key × V)} {k : Key} {v : V} (z : k ∈ kvs.map (·.1)) : (putK kvs k v).map (·.1) = kvs.map (·.1) := by
  unfold putK
  rw [if_pos (keys_any.mpr z), List.map_map]
  refine List.map_congr_left fun p _ => ?_
  show (if p.1 = k then (p.1, v) else p).1 = p.1
  split <;> rfl
theorem keys_new {kvs : List (Key × V)} {k : Key} {v : V} (z : k ∉ kvs.map (·.1)) : (putK kvs k v).map (·.1) = kvs.map (·.1) ++ [k] := by
  unfold putK
  rw [if_neg (fun y => z (keys_any.mp y)), List.map_append]
  rfl
theorem putK_le (kvs : List (Key × V)) (k : Key) (v : V) : (putK kvs k v).length ≤ kvs.length + 1 := by
  unfold putK
  split
  · rw [List.length_map]; exact Nat.le_succ _
  · rw [List.length_append]; exact Nat.le_refl _
theorem TK.dic {H : Hp} {p : Addr} {kvs lvs : List (Key × V)} (h : H p = some (.dK kvs)) : TK H (upd H p (.dK lvs)) := fun x zs e => by
  rw [upd_ne (ne_of e h (fun z => nomatch z))]
  exact e
theorem dget_of {H : Hp} {a : Addr} {kvs : List (Key × V)} {k : Nat} {o : Option V} (e : H a = some (.dK kvs)) (h : valV kvs (kN k) = o) : DGet H a (nV k) o := h ▸ DGet.k (k := kN k) e
def DLa (lvs : List (Key × V)) (la : Nat → Option Nat) : Prop := ∀ k, valV lvs (kN k) = (la k).map nV
theorem DLa.put {lvs : List (Key × V)} {la : Nat → Option Nat} (d : DLa lvs la) (k j : Nat) : DLa (putK lvs (kN k) (nV j)) (fun i => if i = k then some j else la i) := fun i => by
  rw [valV_put]
  by_cases e : i = k
  · subst e
    rw [if_pos rfl]
    show _ = (if i = i then some j else la i).map nV
    rw [if_pos rfl]
    rfl
  · rw [if_neg fun z => e (kN_inj z)]
    show _ = (if i = k then some j else la i).map nV
    rw [if_neg e]
    exact d i
/-- the tables of long_way's and is_shifts' code objects -/
abbrev TL (PT : Addr × Addr) : List (Addr × Str) := [(PT.1, (("long_way" : Str) ++ ".<locals>.") ++ "<lambda>"), (PT.2, (("is_shifts" : Str) ++ ".<locals>.") ++ "<genexpr>")]
theorem tl_one1 {PT : Addr × Addr} (ne : PT.1 ≠ PT.2) {q : Addr × Str} (hq : q ∈ TL PT) (e : q.1 = PT.1) : q.2 = (("long_way" : Str) ++ ".<locals>.") ++ "<lambda>" := by
  rcases List.mem_cons.mp hq with rfl | hq
  · rfl
  · rw [List.mem_singleton.mp hq] at e
    exact absurd e.symm ne
theorem tl_one2 {PT : Addr × Addr} (ne : PT.1 ≠ PT.2) {q : Addr × Str} (hq : q ∈ TL PT) (e : q.1 = PT.2) : q.2 = (("is_shifts" : Str) ++ ".<locals>.") ++ "<genexpr>" := by
  rcases List.mem_cons.mp hq with rfl | hq
  · exact absurd e ne
  · rw [List.mem_singleton.mp hq]
class TabL (K : PySem.W.Frag) (mg : Str → Option Value) (base : Heap) (cT : outParam Addr) (PT : outParam (Addr × Addr)) : Prop where
  tb : LamX.TabB base mg cT PT.1
  cd : ∀ (f : Addr) (fd : FuncData), Fun K "long_way" "long_way" s_long_way f fd → mg "long_way" = some (.ref f) → fd.code = .ref cT
  ne : PT.1 ≠ PT.2
class TabI (K : PySem.W.Frag) (mg : Str → Option Value) (base : Heap) (cG : outParam Addr) (PT : outParam (Addr × Addr)) : Prop where
  tb : LamX.TabB base mg cG PT.2
  cd : ∀ (f : Addr) (fd : FuncData), Fun K "is_shifts" "is_shifts" s_is_shifts f fd → mg "is_shifts" = some (.ref f) → fd.code = .ref cG
  ne : PT.1 ≠ PT.2
section
variable {P : Program} {w : World} {K : PySem.W.Frag} {mg : Str → Option Value} {base : Heap}
/-- what long_sums tells -/
structure Lsd (hs : List HR) (bs : List BR) (H : Hp) (sd ld : Addr) (svs lvs : List (Key × V)) (ord : List Nat) (la : Nat → Option Nat) : Prop where
  hs_ : H sd = some (.dK svs)
  hl : H ld = some (.dK lvs)
  keys : svs.map (·.1) = ord.map kN
  dm : ∀ k, k ∈ ord → valV svs (kN k) = some (.int (lng hs bs k))
  dl : DLa lvs la
  la : ∀ k, k ∈ ord → LaK hs bs (lng hs bs k) k (la k)
  all : ∀ k, k ∈ ord ↔ k < hs.length
  len : ord.length = hs.length
def sp_long_sums (K : PySem.W.Frag) : Sp := fun vs H Q _ => ∃ (r : Addr) (hs : List HR) (bs : List BR), vs = [.ref r] ∧ RoomAt H r hs bs ∧ RoomOk hs bs ∧
  ∀ (p sd ld : Addr) (svs lvs : List (Key × V)) (ord : List Nat) (la : Nat → Option Nat) (H' : Hp), H' p = some (.tup [.ref sd, .ref ld]) → Lsd hs bs H' sd ld svs lvs ord la → Same H H' → Q (.ref p) H'
theorem ok_long_sums {f : Addr} {fd : FuncData} (F : Fun K "long_sums" "long_sums" s_long_sums f fd) (T : Top K mg) : FnOk P w K mg base CX0 2 f fd ["room"] (sp_long_sums K) := by
  obtain ⟨f_work_order, fd_work_order, F_work_order, b_work_order, m_work_order⟩ := T.d_work_order
  have G_work_order := ok_work_order (P := P) (w := w) (base := base) F_work_order T
  obtain ⟨f_comings, fd_comings, F_comings, b_comings, m_comings⟩ := T.d_comings
  have G_comings := ok_comings (P := P) (w := w) (base := base) F_comings T
  refine F.ok sc_long_sums (fun vs H Q E h => ?_) (fun cdv A outer s H vs Q E hr h => ?_)
  · obtain ⟨r, hs, bs, rfl, _⟩ := h
    rfl
  obtain ⟨r, hs, bs, rfl, hR, ok, q⟩ := h
  obtain ⟨ha, ba, hv, bv, er, eh, eb, alh, alb⟩ := hR.ex
  have lh := ok.hands
  have lb := ok.many
  obtain ⟨rk, hrk⟩ := ok.rank
  have he := ok.ends
  have loose : ∀ p ∈ looseOf bs, rk p.1 < rk p.2 := fun p hp => by
    obtain ⟨b, hb, rfl⟩ := List.mem_map.mp hp
    exact hrk b (List.mem_filter.mp hb).1 (List.isEmpty_iff.mp (List.mem_filter.mp hb).2)
  refine ⟨_, (pss_cons (ps_asg (pv 0) (pg_tupK K rfl rfl (pgs_cons (pg_name (i := 1) sc_long_sums.nd rfl (Or.inl rfl)) (pgs_cons (pg_name (i := 2) sc_long_sums.nd rfl (Or.inl rfl)) pgs_nil))))
      (pss_cons (ps_set (i := 3) sc_long_sums.nd rfl (Or.inl rfl) pe_dnewK)
      (pss_cons (ps_set (i := 4) sc_long_sums.nd rfl (Or.inl rfl) pe_dnewK)
      (pss_cons (ps_for PassesOwn.never rfl (pi_listK K rfl (pe_call G_work_order (hr.mono (by decide)) (by rfl) m_work_order F_work_order.kp b_work_order .nil pass0 (pa_cons (pv 0) pa_nil))) (pg_name (i := 5) sc_long_sums.nd rfl (Or.inl rfl))
        (pss_cons (ps_dput (hu_of hr) (pv 3) (pv 5) (pe_ix (ix_tupK K rfl) (pe_ix (ix_tupK K rfl) (pv 1) (pv 5) (fun _ _ => rfl)) pe_int (fun _ _ => rfl)) (by rfl))
      (pss_one (ps_for PassesOwn.never rfl (pi_listK K rfl (pe_call G_comings (hr.mono (by decide)) (by rfl) m_comings F_comings.kp b_comings .nil pass0 (pa_cons (pv 0) (pa_cons (pv 5) pa_nil)))) (pg_name (i := 6) sc_long_sums.nd rfl (Or.inl rfl))
        (pss_cons (ps_asg (pe_ix (ix_tupK K rfl) (pv 2) (pv 6) (fun _ _ => rfl)) (pg_tupK K rfl rfl (pgs_cons (pg_name (i := 7) sc_long_sums.nd rfl (Or.inl rfl)) (pgs_cons (pg_name (i := 8) sc_long_sums.nd rfl (Or.inl rfl)) (pgs_cons (pg_name (i := 9) sc_long_sums.nd rfl (Or.inl rfl)) pgs_nil)))))
      (pss_one (ps_if (PW.pt (pw_and (pt_not (pt_truthK K rfl (pv 9) (by intro _; rfl))) (pw_and1 (pt_cmpR op_gt (pe_op op_add (pe_dget (hu_of hr) (pv 3) (pv 7) (fun _ _ => rfl)) (pe_ix (ix_tupK K rfl) (pe_ix (ix_tupK K rfl) (pv 1) (pv 5) (fun _ _ => rfl)) pe_int (fun _ _ => rfl))) (pe_dget (hu_of hr) (pv 3) (pv 5) (fun _ _ => rfl)) (nomark _))))) (pss_cons (ps_dput (hu_of hr) (pv 3) (pv 5) (pe_op op_add (pe_dget (hu_of hr) (pv 3) (pv 7) (fun _ _ => rfl)) (pe_ix (ix_tupK K rfl) (pe_ix (ix_tupK K rfl) (pv 1) (pv 5) (fun _ _ => rfl)) pe_int (fun _ _ => rfl))) (by rfl))
      (pss_one (ps_dput (hu_of hr) (pv 4) (pv 5) (pv 6) (by rfl)))) pss_nil)))))))
      (pss_one (ps_ret (pe_tup (pa_cons (pv 3) (pa_cons (pv 4) pa_nil))))))))), ?_⟩
  refine ⟨_, rfl, r, _, rfl, SqT.of er, rfl, _, _, rfl, _, _, rfl, rfl, ?_⟩
  refine fun sd nsd => fun ld nld => ?_
  have sdld : sd ≠ ld := fun z => by rw [← z, upd_same] at nld; cases nld
  have s1 : Same H (upd (upd H sd (.dK [])) ld (.dK [])) := (same_new nsd).trans (same_new nld)
  have nld0 : H ld = none := same_none (same_new nsd) nld
  refine ⟨_, rfl, r, hs, bs, rk, rfl, hR.keep (TK.same s1), by omega, by omega, ok.ends, loose, fun od ord H1 nod hod s2 soon => ?_⟩
  have lo := soon_len soon
  rw [List.length_range] at lo
  have all : ∀ k, k ∈ ord ↔ k < hs.length := fun k => ⟨fun h => List.mem_range.mp (soon_mem soon k h), fun h => soon_all soon k (List.mem_range.mpr h)⟩
  have s02 := s1.trans s2
  have odsd : od ≠ sd := fun z => by rw [z, upd_ne sdld, upd_same] at nod; cases nod
  have odld : od ≠ ld := fun z => by rw [z, upd_same] at nod; cases nod
  refine ⟨od, rfl, ⟨_, SqL.of hod⟩, for_list (K := K) (a := od) (xs := ord.map nV) (fun i σ H5 => (∃ v5 v6 v7 v8 v9 : Option V, σ = [some (.ref r), some (.ref ha), some (.ref ba), some (.ref sd), some (.ref ld), v5, v6, v7, v8, v9]) ∧ ∃ (svs lvs : List (Key × V)) (la : Nat → Option Nat), H5 sd = some (.dK svs) ∧ H5 ld = some (.dK lvs) ∧ H5 od = some (.lst (ord.map nV)) ∧ svs.map (·.1) = (ord.take i).map kN ∧ (∀ k, k ∈ ord.take i → valV svs (kN k) = some (.int (lng hs bs k))) ∧ DLa lvs la ∧ lvs.length ≤ 20 * i ∧ (∀ k, k ∈ ord.take i → LaK hs bs (lng hs bs k) k (la k)) ∧ (∀ k, k ∉ ord.take i → la k = none) ∧ Same H H5)
    ⟨⟨_, _, _, _, _, rfl⟩, [], [], fun _ => none, s2 _ _ (by rw [upd_ne sdld]; exact upd_same), s2 _ _ upd_same, hod, rfl, (fun _ z => nomatch z), (fun _ => rfl), Nat.le_refl _, (fun _ z => nomatch z), (fun _ _ => rfl), s02⟩ (fun i σ H5 _ ⟨_, _, _, _, _, _, h, _⟩ => SqL.of h) ?_ ?_⟩
  · rintro i x σ H5 hx ⟨⟨v5, v6, v7, v8, v9, rfl⟩, svs, lvs, la, hsd, hld, hod5, keys, dm, dl, ll, lak, lan, s5⟩
    rw [List.getElem?_map] at hx
    obtain ⟨k, ek⟩ : ∃ k, ord[i]? = some k := by
      cases z : ord[i]? with
      | none => rw [z] at hx; cases hx
      | some k => exact ⟨k, rfl⟩
    rw [ek] at hx
    obtain rfl : nV k = x := Option.some.inj hx
    have il := (List.getElem?_eq_some_iff.mp ek).1
    have hk : k < hs.length := (all k).mp (List.mem_of_getElem? ek)
    have knot : k ∉ ord.take i := fun z => by
      obtain ⟨m, hm⟩ := List.mem_iff_getElem?.mp z
      have ml := (List.getElem?_eq_some_iff.mp hm).1
      rw [List.length_take] at ml
      rw [List.getElem?_take_of_lt (by omega)] at hm
      have := nd_at (soon_nd soon List.nodup_range) hm ek
      omega
    have lsv : svs.length ≤ 12 := by
      have := congrArg List.length keys
      rw [List.length_map, List.length_map, List.length_take] at this
      omega
    obtain ⟨h, ehk⟩ : ∃ h, hs[k]? = some h := ⟨_, List.getElem?_eq_getElem hk⟩
    obtain ⟨y, ey, t1, t2, rfl, e1, e2⟩ := alh.get ehk
    have em := mom_at ehk
    have keyn : kN k ∉ svs.map (·.1) := by
      rw [keys]
      intro z
      obtain ⟨m, hm, e⟩ := List.mem_map.mp z
      exact knot (kN_inj e ▸ hm)
    refine ⟨_, rfl, _, rfl, ha, _, _, _, rfl, rfl, SqT.of (s5 _ _ eh), atI_nat ey, t1, _, _, _, rfl, rfl, SqT.of (s5 _ _ e1), atI_nat (j := 1) rfl, _, rfl, _, rfl, sd, _, rfl, DPut.k (k := kN k) hsd (small1000 (by omega)), ?_⟩
    have s6 : Same H (upd H5 sd (.dK (putK svs (kN k) (.int h.mom)))) := Same.own s5 nsd
    refine ⟨_, rfl, _, rfl, r, hs, bs, k, rfl, hR.keep (TK.same s6), by omega, fun cl H7 ncl hcl s7 => ?_⟩
    have s07 := s6.trans s7
    have lcm : (comingN bs k).length ≤ 20 := Nat.le_trans (filt_len _) lb
    have ncl0 : H cl = none := same_none s6 ncl
    have clsd : cl ≠ sd := fun z => by rw [z, upd_same] at ncl; cases ncl
    have clld : cl ≠ ld := fun z => by rw [z, upd_ne sdld.symm, hld] at ncl; cases ncl
    have clod : cl ≠ od := fun z => by rw [z, upd_ne odsd, hod5] at ncl; cases ncl
    refine ⟨cl, rfl, ⟨_, SqL.of hcl⟩, for_list (K := K) (a := cl) (xs := (comingN bs k).map nV) (fun j σ H8 => (∃ v6 v7 v8 v9 : Option V, σ = [some (.ref r), some (.ref ha), some (.ref ba), some (.ref sd), some (.ref ld), some (nV k), v6, v7, v8, v9]) ∧ ∃ (svs' lvs' : List (Key × V)) (cur : Int) (o : Option Nat), H8 sd = some (.dK svs') ∧ H8 ld = some (.dK lvs') ∧ H8 od = some (.lst (ord.map nV)) ∧ H8 cl = some (.lst ((comingN bs k).map nV)) ∧ svs'.map (·.1) = svs.map (·.1) ++ [kN k] ∧ (∀ m, m ∈ ord.take i → valV svs' (kN m) = some (.int (lng hs bs m))) ∧ valV svs' (kN k) = some (.int cur) ∧ DLa lvs' (fun m => if m = k then o else la m) ∧ lvs'.length ≤ 20 * i + j ∧ LaK hs bs cur k o ∧ momN hs k ≤ cur ∧ cur ≤ lng hs bs k ∧ (∀ m ∈ (comingN bs k).take j, ∀ b, bs[m]? = some b → b.th = [] → lng hs bs b.one + momN hs k ≤ cur) ∧ Same H H8)
      ⟨⟨_, _, _, _, rfl⟩, putK svs (kN k) (.int h.mom), lvs, h.mom, none, s7 _ _ upd_same, s7 _ _ (by rw [upd_ne sdld.symm]; exact hld), s7 _ _ (by rw [upd_ne odsd]; exact hod5), hcl, keys_new keyn, fun m hm => by rw [valV_put, if_neg (fun z => knot (by rw [← kN_inj z]; exact hm))]; exact dm m hm, by rw [valV_put, if_pos rfl], fun m => ?_, by omega, em.symm, by rw [em]; exact Int.le_refl _, by rw [← em]; exact lng_mom hrk he hk, (fun _ z => nomatch z), s07⟩ (fun j σ H8 _ ⟨_, _, _, _, _, _, _, _, h, _⟩ => SqL.of h) ?_ ?_⟩
    · show _ = (if m = k then none else la m).map nV
      by_cases z : m = k
      · rw [if_pos z, dl m, z, lan k knot]
      · rw [if_neg z]; exact dl m
    · rintro j x σ H8 hx ⟨⟨v6, v7, v8, v9, rfl⟩, svs', lvs', cur, o, hsd8, hld8, hod8, hcl8, keys8, dm8, dk8, dl8, ll8, lak8, c1, c2, c3, s8⟩
      rw [List.getElem?_map] at hx
      obtain ⟨n, en⟩ : ∃ n, (comingN bs k)[j]? = some n := by
        cases z : (comingN bs k)[j]? with
        | none => rw [z] at hx; cases hx
        | some n => exact ⟨n, rfl⟩
      rw [en] at hx
      obtain rfl : nV n = x := Option.some.inj hx
      have jl := (List.getElem?_eq_some_iff.mp en).1
      obtain ⟨b, eb2, hto⟩ := coming_at (List.mem_of_getElem? en)
      have hb := List.mem_of_getElem? eb2
      obtain ⟨y3, ey3, t3, g3, rfl, e3, e4⟩ := alb.get eb2
      have lsv8 : svs'.length ≤ 13 := by
        have := congrArg List.length keys8
        rw [List.length_map, List.length_append, List.length_map] at this
        simp at this
        omega
      refine ⟨_, rfl, _, rfl, ba, _, _, _, rfl, rfl, SqT.of (s8 _ _ eb), atI_nat ey3, t3, _, rfl, SqT.of (s8 _ _ e3), rfl, _, _, rfl, _, _, rfl, _, _, rfl, rfl, ?_⟩
      have step : ∀ {cur' : Int}, (b.th = [] → lng hs bs b.one + momN hs k ≤ cur') → cur ≤ cur' → ∀ m ∈ (comingN bs k).take (j + 1), ∀ b, bs[m]? = some b → b.th = [] → lng hs bs b.one + momN hs k ≤ cur' := fun h1 h2 m hm b' hb' e' => by
        rw [List.take_add_one, en] at hm
        rcases List.mem_append.mp hm with hm | hm
        · exact Int.le_trans (c3 m hm b' hb' e') h2
        · obtain rfl : m = n := by simpa using hm
          rw [eb2] at hb'
          cases hb'
          exact h1 e'
      by_cases eth : b.th = []
      · have giver : b.one ∈ ord.take i := soon_pre soon ek (hto ▸ mem_loose hb eth) (List.mem_range.mpr (he b hb).1)
        have dg := dm8 _ giver
        have nek : b.one ≠ k := fun z => knot (z ▸ giver)
        refine ⟨_, rfl, _, .inr (.inl ⟨_, SqT.of (s8 _ _ e4), rfl⟩), if_bl (fun _ => ?_) (fun z => ?_)⟩
        case refine_2 => rw [eth] at z; exact nomatch z
        refine ⟨_, rfl, _, rfl, sd, _, rfl, dget_of hsd8 dg, _, rfl, _, rfl, ha, _, _, _, rfl, rfl, SqT.of (s8 _ _ eh), atI_nat ey, t1, _, _, _, rfl, rfl, SqT.of (s8 _ _ e1), atI_nat (j := 1) rfl, _, _, rfl, rfl, _, rfl, _, rfl, sd, _, rfl, dget_of hsd8 dk8, _, _, rfl, rfl, _, rfl, if_bl (fun z => ?_) (fun z => ?_)⟩
        · have z : lng hs bs b.one + h.mom > cur := of_decide_eq_true z
          refine ⟨_, rfl, _, rfl, sd, _, rfl, dget_of hsd8 dg, _, rfl, _, rfl, ha, _, _, _, rfl, rfl, SqT.of (s8 _ _ eh), atI_nat ey, t1, _, _, _, rfl, rfl, SqT.of (s8 _ _ e1), atI_nat (j := 1) rfl, _, _, rfl, rfl, _, rfl, _, rfl, sd, _, rfl, DPut.k (k := kN k) hsd8 (small1000 (by omega)), ?_⟩
          have hld9 : upd H8 sd (.dK (putK svs' (kN k) (.int (lng hs bs b.one + h.mom)))) ld = some (.dK lvs') := by rw [upd_ne sdld.symm]; exact hld8
          refine ⟨_, rfl, _, rfl, _, rfl, ld, _, rfl, DPut.k (k := kN k) hld9 (small1000 (by omega)), ?_⟩
          have pl := putK_le lvs' (kN k) (nV n)
          have kin : kN k ∈ svs'.map (·.1) := by rw [keys8]; exact List.mem_append_right _ (List.mem_singleton.mpr rfl)
          refine ⟨⟨_, _, _, _, rfl⟩, putK svs' (kN k) (.int (lng hs bs b.one + h.mom)), putK lvs' (kN k) (nV n), lng hs bs b.one + h.mom, some n, by rw [upd_ne sdld]; exact upd_same, upd_same, by rw [upd_ne odld, upd_ne odsd]; exact hod8, by rw [upd_ne clld, upd_ne clsd]; exact hcl8, by rw [keys_old kin]; exact keys8, fun m hm => by rw [valV_put, if_neg (fun z => knot (by rw [← kN_inj z]; exact hm))]; exact dm8 m hm, by rw [valV_put, if_pos rfl], fun m => ?_, by omega, ⟨b, eb2, hto, eth, by rw [em]⟩, by omega, ?_, step (fun _ => by rw [em]; exact Int.le_refl _) (by omega), Same.own (Same.own s8 nsd) nld0⟩
          · have := dl8.put k n m
            rw [this]
            show (if m = k then some n else if m = k then o else la m).map nV = (if m = k then some n else la m).map nV
            by_cases y : m = k
            · rw [if_pos y, if_pos y]
            · rw [if_neg y, if_neg y, if_neg y]
          · have := lng_belt hrk he hb eth
            rw [hto, em] at this
            exact this
        · have z : ¬ lng hs bs b.one + h.mom > cur := of_decide_eq_false z
          exact ⟨⟨_, _, _, _, rfl⟩, svs', lvs', cur, o, hsd8, hld8, hod8, hcl8, keys8, dm8, dk8, dl8, by omega, lak8, c1, c2, step (fun _ => by rw [em]; omega) (Int.le_refl _), s8⟩
      · refine ⟨_, rfl, _, .inr (.inl ⟨_, SqT.of (s8 _ _ e4), rfl⟩), if_bl (fun z => ?_) (fun _ => ?_)⟩
        · cases th : b.th with
          | nil => exact absurd th eth
          | cons y l => rw [th] at z; exact nomatch z
        · exact ⟨⟨_, _, _, _, rfl⟩, svs', lvs', cur, o, hsd8, hld8, hod8, hcl8, keys8, dm8, dk8, dl8, by omega, lak8, c1, c2, step (fun z => absurd z eth) (Int.le_refl _), s8⟩
    · rintro σ H8 ⟨⟨v6, v7, v8, v9, rfl⟩, svs', lvs', cur, o, hsd8, hld8, hod8, hcl8, keys8, dm8, dk8, dl8, ll8, lak8, c1, c2, c3, s8⟩
      rw [List.length_map, List.take_length] at c3
      rw [List.length_map] at ll8
      have ec : cur = lng hs bs k := by
        refine Int.le_antisymm c2 ?_
        rcases lng_is hrk he hk with z | ⟨b, hb, z1, z2, z3⟩
        · rw [z]; exact c1
        · obtain ⟨m, hm⟩ := List.mem_iff_getElem?.mp hb
          rw [z3]
          exact c3 m ((mem_coming hm).mpr z1) b hm z2
      subst ec
      have tk : ord.take (i + 1) = ord.take i ++ [k] := by rw [List.take_add_one, ek]; rfl
      refine ⟨⟨_, _, _, _, _, rfl⟩, svs', lvs', fun m => if m = k then o else la m, hsd8, hld8, hod8, by rw [keys8, keys, tk, List.map_append]; rfl, fun m hm => ?_, dl8, by omega, fun m hm => ?_, fun m hm => ?_, s8⟩
      · rw [tk] at hm
        rcases List.mem_append.mp hm with hm | hm
        · exact dm8 m hm
        · rw [List.mem_singleton.mp hm]; exact dk8
      · rw [tk] at hm
        show LaK hs bs (lng hs bs m) m (if m = k then o else la m)
        rcases List.mem_append.mp hm with hm | hm
        · rw [if_neg (fun z : m = k => knot (by rw [← z]; exact hm))]
          exact lak m hm
        · rw [List.mem_singleton.mp hm, if_pos rfl]
          exact lak8
      · rw [tk] at hm
        show (if m = k then o else la m) = none
        rw [if_neg (fun z : m = k => hm (List.mem_append_right _ (List.mem_singleton.mpr z)))]
        exact lan m (fun z => hm (List.mem_append_left _ z))
  · rintro σ H5 ⟨⟨v5, v6, v7, v8, v9, rfl⟩, svs, lvs, la, hsd, hld, hod5, keys, dm, dl, ll, lak, lan, s5⟩
    rw [List.length_map, List.take_length] at keys dm lak
    refine ⟨_, rfl, _, rfl, (by show 2 ≤ sizeLine; decide), fun p np => ?_⟩
    exact q p sd ld svs lvs ord la _ upd_same ⟨same_new np _ _ hsd, same_new np _ _ hld, keys, dm, dl, lak, all, lo⟩ (s5.trans (same_new np))
/-- the way back over the belts of last -/
def sp_way_back (K : PySem.W.Frag) : Sp := fun vs H Q _ => ∃ (r ld : Addr) (hs : List HR) (bs : List BR) (e : Nat) (lvs : List (Key × V)) (la : Nat → Option Nat), vs = [.ref r, nV e, .ref ld] ∧ RoomAt H r hs bs ∧ RoomOk hs bs ∧ e < hs.length ∧ H ld = some (.dK lvs) ∧ DLa lvs la ∧ (∀ k, k < hs.length → LaK hs bs (lng hs bs k) k (la k)) ∧
  ∀ (p : Addr) (k : Nat) (ns : List Nat) (H' : Hp), WayAt H' p k ns → k < hs.length → (∀ n ∈ ns, n < bs.length) → wayEnd bs k ns = some e → (∀ n ∈ ns, trB bs n = 0) → momW hs bs k ns = lng hs bs e → ns.length ≤ hs.length → Same H H' → Q (.ref p) H'
theorem ok_way_back {f : Addr} {fd : FuncData} (F : Fun K "way_back" "way_back" s_way_back f fd) (T : Top K mg) : FnOk P w K mg base CX0 1 f fd ["room", "end", "last"] (sp_way_back K) := by
  refine F.ok sc_way_back (fun vs H Q E h => ?_) (fun cdv A outer s H vs Q E hr h => ?_)
  · obtain ⟨r, ld, hs, bs, e, lvs, la, rfl, _⟩ := h
    rfl
  obtain ⟨r, ld, hs, bs, e, lvs, la, rfl, hR, ok, hE, hld, dl, lak, q⟩ := h
  obtain ⟨ha, ba, hv, bv, er, eh, eb, alh, alb⟩ := hR.ex
  have lh := ok.hands
  obtain ⟨rk, hrk⟩ := ok.rank
  refine ⟨_, (pss_cons (ps_set (i := 3) sc_way_back.nd rfl (Or.inl rfl) (pe_lst pa_nil))
      (pss_cons (ps_set (i := 4) sc_way_back.nd rfl (Or.inl rfl) (pv 1))
      (pss_cons (ps_while PassesOwn.never (pt_cmp (pc_din (hu_of hr) (pv 4) (pv 2)) (by with_unfolding_all rfl))
        (pss_cons (ps_expr (pe_bmK K rfl PySem.F.plainAttrs_list PySem.F.slot_list_append PySem.F.type_list_append mt_append (pv 3) (pa_cons (pe_dget (hu_of hr) (pv 2) (pv 4) (fun _ _ => rfl)) pa_nil)))
      (pss_one (ps_set (i := 4) sc_way_back.nd rfl (Or.inl rfl) (pe_ix (ix_tupK K rfl) (pe_ix (ix_tupK K rfl) (pe_ix (ix_tupK K rfl) (pv 0) pe_int (fun _ _ => rfl)) (pe_dget (hu_of hr) (pv 2) (pv 4) (fun _ _ => rfl)) (fun _ _ => rfl)) pe_int (fun _ _ => rfl))))))
      (pss_one (ps_ret (pe_tup (pa_cons (pv 4) (pa_cons (pe_callTy (call_tuple_ofK K rfl) (by rfl) T.m_tuple (by decide +kernel) (pa_cons (pe_revLK K rfl (pv 3)) pa_nil)) pa_nil)))))))), ?_⟩
  refine ⟨(by show 0 ≤ sizeLine; decide), fun nl nnl => ?_⟩
  refine ⟨_, rfl, ?_⟩
  refine ⟨fun m σ H2 => ∃ (k : Nat) (ns : List Nat), σ = [some (.ref r), some (nV e), some (.ref ld), some (.ref nl), some (nV k)] ∧ H2 nl = some (.lst (ns.reverse.map nV)) ∧ k < hs.length ∧ (∀ n ∈ ns, n < bs.length) ∧ wayEnd bs k ns = some e ∧ (∀ n ∈ ns, trB bs n = 0) ∧ lng hs bs k + (ns.map fun n => momH hs (toB bs n)).sum = lng hs bs e ∧ m = dep rk hs.length k ∧ ns.length + m ≤ hs.length ∧ Same H H2,
    ⟨_, e, [], rfl, upd_same, hE, (fun _ z => nomatch z), rfl, (fun _ z => nomatch z), by show lng hs bs e + 0 = _; omega, rfl, by show 0 + _ ≤ _; have := dep_le (rk := rk) (n := hs.length) (k := e); omega, same_new nnl⟩, ?_⟩
  rintro m σ H2 ⟨k, ns, rfl, hnl, hk, hn, we, tr, mm, rfl, ln, s2⟩
  refine ⟨_, rfl, _, rfl, ld, _, rfl, dget_of (s2 _ _ hld) (dl k), _, rfl, ?_⟩
  have lk := lak k hk
  cases elk : la k with
  | none =>
    rw [elk] at lk
    refine if_bl (fun z => nomatch z) (fun _ => ?_)
    have lk : lng hs bs k = momN hs k := lk
    refine ⟨_, rfl, _, rfl, nl, _, rfl, SqL.of hnl, fun rv nrv => ⟨rv, _, rfl, .inl ⟨SqL.of upd_same, fun tp ntp => ⟨(by show 2 ≤ sizeLine; decide), fun p np => ?_⟩⟩⟩⟩
    have s5 := ((same_new (o := .lst (ns.reverse.map nV).reverse) nrv).trans (same_new (o := .tup (ns.reverse.map nV).reverse) ntp)).trans (same_new (o := .tup [nV k, .ref tp]) np)
    refine q p k ns _ ⟨tp, upd_same, ?_⟩ hk hn we tr ?_ (by omega) (s2.trans s5)
    · rw [same_new np _ _ upd_same, ← List.map_reverse, List.reverse_reverse]
    · rw [← mm, lk]
      rfl
  | some n =>
    rw [elk] at lk
    refine if_bl (fun _ => ?_) (fun z => nomatch z)
    obtain ⟨b, ebn, hto, eth, lv⟩ := lk
    have hb := List.mem_of_getElem? ebn
    have nb := (List.getElem?_eq_some_iff.mp ebn).1
    obtain ⟨y, ey, t1, g1, rfl, e1, e2⟩ := alb.get ebn
    have dv : valV lvs (kN k) = some (nV n) := by rw [dl k, elk]; rfl
    have one := (ok.ends b hb).1
    have dlt := dep_lt (n := hs.length) one (hto ▸ hrk b hb eth)
    refine ⟨fun σ' H' => ∃ m', m' < dep rk hs.length k ∧ ∃ (k' : Nat) (ns' : List Nat), σ' = [some (.ref r), some (nV e), some (.ref ld), some (.ref nl), some (nV k')] ∧ H' nl = some (.lst (ns'.reverse.map nV)) ∧ k' < hs.length ∧ (∀ n ∈ ns', n < bs.length) ∧ wayEnd bs k' ns' = some e ∧ (∀ n ∈ ns', trB bs n = 0) ∧ lng hs bs k' + (ns'.map fun n => momH hs (toB bs n)).sum = lng hs bs e ∧ m' = dep rk hs.length k' ∧ ns'.length + m' ≤ hs.length ∧ Same H H', fun σ' H' h => h, ?_⟩
    have lnr : (ns.reverse.map nV).length ≤ 12 := by rw [List.length_map, List.length_reverse]; omega
    refine ⟨_, rfl, .inl ⟨rfl, _, SqL.of hnl⟩, _, rfl, _, rfl, ld, _, rfl, dget_of (s2 _ _ hld) dv, nl, _, _, rfl, rfl, hnl, small1000 (by omega), ?_⟩
    have s3 : Same H (upd H2 nl (.lst (ns.reverse.map nV ++ [nV n]))) := Same.own s2 nnl
    refine ⟨_, rfl, r, _, _, _, rfl, rfl, SqT.of (s3 _ _ er), atI_nat (j := 1) rfl, _, rfl, _, rfl, ld, _, rfl, dget_of (s3 _ _ hld) dv, ba, _, _, _, rfl, rfl, SqT.of (s3 _ _ eb), atI_nat ey, t1, _, _, _, rfl, rfl, SqT.of (s3 _ _ e1), atI_nat (j := 0) rfl, ?_⟩
    have et : toB bs n = k := by unfold toB; rw [ebn]; exact hto
    refine ⟨_, dlt, b.one, n :: ns, rfl, ?_, one, ?_, ?_, ?_, ?_, rfl, by rw [List.length_cons]; omega, s3⟩
    · rw [upd_same, List.reverse_cons, List.map_append]; rfl
    · intro x hx
      rcases List.mem_cons.mp hx with rfl | hx
      · exact nb
      · exact hn x hx
    · rw [wayEnd_cons ebn, if_pos rfl, hto]; exact we
    · intro x hx
      rcases List.mem_cons.mp hx with rfl | hx
      · have : trB bs x = (b.th.length : Int) := by unfold trB; rw [ebn]
        rw [this, eth]; rfl
      · exact tr x hx
    · rw [List.map_cons, List.sum_cons, et]
      have : momH hs k = momN hs k := rfl
      omega
def NoWay (hs : List HR) (bs : List BR) (H : Hp) (v : V) : Prop := (hs = [] ∧ v = .non) ∨ ∃ (p : Addr) (k e : Nat) (ns : List Nat), v = .ref p ∧ WayAt H p k ns ∧ k < hs.length ∧ e < hs.length ∧ (∀ n ∈ ns, n < bs.length) ∧ wayEnd bs k ns = some e ∧ (∀ n ∈ ns, trB bs n = 0) ∧ momW hs bs k ns = lng hs bs e ∧ ns.length ≤ hs.length ∧ ∀ j, j < hs.length → lng hs bs j ≤ lng hs bs e
def sp_long_way (K : PySem.W.Frag) (PT : Addr × Addr) : Sp := fun vs H Q _ => ∃ (r : Addr) (hs : List HR) (bs : List BR), vs = [.ref r] ∧ RoomAt H r hs bs ∧ RoomOk hs bs ∧ LamX.Tabs (TL PT) H ∧
  ∀ (v : V) (H' : Hp), NoWay hs bs H' v → LamX.ExtN H H' → LamX.Tabs (TL PT) H' → Q v H'
variable {cT : Addr} {PT : Addr × Addr} [TLI : TabL K mg base cT PT]
include TLI
theorem ok_long_way {f : Addr} {fd : FuncData} (F : Fun K "long_way" "long_way" s_long_way f fd) (hcd : fd.code = .ref cT) (T : Top K mg) : FnOk P w K mg base CX0 3 f fd ["room"] (sp_long_way K PT) := by
  obtain ⟨f_long_sums, fd_long_sums, F_long_sums, b_long_sums, m_long_sums⟩ := T.d_long_sums
  have G_long_sums := ok_long_sums (P := P) (w := w) (base := base) F_long_sums T
  obtain ⟨f_way_back, fd_way_back, F_way_back, b_way_back, m_way_back⟩ := T.d_way_back
  have G_way_back := ok_way_back (P := P) (w := w) (base := base) F_way_back T
  refine ok_code F hcd sc_long_way (fun vs H Q E h => ?_) (fun A outer s H vs Q E hr h => ?_)
  · obtain ⟨r, hs, bs, rfl, _⟩ := h
    rfl
  obtain ⟨r, hs, bs, rfl, hR, ok, tabs, q⟩ := h
  obtain ⟨ha, ba, hv, bv, er, eh, eb, alh, alb⟩ := hR.ex
  have lhv := alh.length
  have lh := ok.hands
  refine ⟨_, (pss_cons (ps_if (pt_not (pt_truthK K rfl (pe_ix (ix_tupK K rfl) (pv 0) pe_int (fun _ _ => rfl)) (by intro _; rfl))) (pss_one (ps_ret pe_non)) pss_nil)
      (pss_cons (ps_asg (pe_call G_long_sums (hr.mono (by decide)) (by rfl) m_long_sums F_long_sums.kp b_long_sums .nil pass0 (pa_cons (pv 0) pa_nil)) (pg_tupK K rfl rfl (pgs_cons (pg_name (i := 1) sc_long_way.nd rfl (Or.inr rfl)) (pgs_cons (pg_name (i := 2) sc_long_way.nd rfl (Or.inl rfl)) pgs_nil))))
      (pss_cons (ps_set (i := 3) sc_long_way.nd rfl (Or.inl rfl) (pe_maxLam (T := TL PT) K rfl rfl hr (by decide) (by rfl) T.m_max TLI.tb rfl (List.mem_cons_self ..) (fun q hq e => tl_one1 TLI.ne hq e) rfl (free_one rfl rfl) ⟨fun _ _ _ _ _ _ => rfl, rfl, rfl, rfl, rfl, by decide⟩ (body_dict (i := 1) ⟨rfl, .inr (.inl rfl), (fun z => nomatch (show (some NameKind.cell : Option NameKind) = some NameKind.local from z)), rfl, rfl, rfl, fun _ => rfl, by decide, by decide, by decide⟩ (fun _ _ => rfl)) (pe_callTy (call_list_dK rfl) (by rfl) T.m_list (by decide +kernel) (pa_cons (pv 1) pa_nil))))
      (pss_one (ps_ret (pe_call G_way_back (hr.mono (by decide)) (by rfl) m_way_back F_way_back.kp b_way_back .nil pass0 (pa_cons (pv 0) (pa_cons (pv 3) (pa_cons (pv 2) pa_nil))))))))), ?_⟩
  refine ⟨_, rfl, r, _, _, _, rfl, rfl, SqT.of er, atI_nat (j := 0) rfl, _, .inr (.inl ⟨_, SqT.of eh, rfl⟩), if_bl (fun z => ?_) (fun z => ?_)⟩
  · have e0 : hs = [] := by
      cases hv with
      | nil => exact List.eq_nil_of_length_eq_zero lhv.symm
      | cons x l => exact nomatch z
    exact q _ _ (.inl ⟨e0, rfl⟩) (LamX.ExtN.refl H) tabs
  have h0 : 0 < hs.length := by
    cases hv with
    | nil => exact nomatch z
    | cons x l => rw [← lhv]; exact Nat.succ_pos _
  refine ⟨_, rfl, r, hs, bs, rfl, hR, ok, fun p sd ld svs lvs ord la H1 hp D s1 => ?_⟩
  refine ⟨p, _, rfl, SqT.of hp, rfl, _, _, rfl, _, _, rfl, rfl, ?_⟩
  refine ⟨_, rfl, sd, svs, rfl, D.hs_, fun ql nql => ?_⟩
  have s2 := same_new (H := H1) (o := .lst (svs.map fun kv => kV kv.1)) nql
  have eks : (svs.map fun kv => kV kv.1) = (ord.map fun n => ((n : Nat) : Int)).map V.int := by
    have := congrArg (List.map kV) D.keys
    rw [List.map_map, List.map_map] at this
    rw [List.map_map]
    exact this
  have hql : upd H1 ql (.lst (svs.map fun kv => kV kv.1)) ql = some (.lst ((ord.map fun n => ((n : Nat) : Int)).map V.int)) := by rw [upd_same, eks]
  refine ⟨ql, ord.map fun n => ((n : Nat) : Int), fun z => lng hs bs z.toNat, rfl, SqL.of hql, by rw [List.length_map, D.len]; exact h0, tabs_same tabs (s1.trans s2), fun H3 ext tabs3 => ⟨SqL.of (ExtN.lst ext hql), fun n hn => ?_, fun m hm hg => ?_⟩⟩
  · obtain ⟨j, hj, rfl⟩ := List.mem_map.mp hn
    refine ⟨sd, svs, rfl, ExtN.dic ext (s2 _ _ D.hs_), ?_⟩
    show valV svs (kN j) = some (.int (lng hs bs ((j : Nat) : Int).toNat))
    rw [Int.toNat_natCast]
    exact D.dm j hj
  · obtain ⟨e, he, rfl⟩ := List.mem_map.mp hm
    have el := (D.all e).mp he
    have ex2 : LamX.ExtN H H3 := (ExtN.same (s1.trans s2)).trans ext
    refine ⟨_, rfl, _, rfl, _, rfl, r, ld, hs, bs, e, lvs, la, rfl, hR.keep (ExtN.tk ex2), ok, el, ExtN.dic ext (s2 _ _ D.hl), D.dl, fun k hk => D.la k ((D.all k).mpr hk), fun p4 k ns H4 hp4 hk hn we tr mm ln s4 => ?_⟩
    refine q _ _ (.inr ⟨p4, k, e, ns, rfl, hp4, hk, el, hn, we, tr, mm, ln, fun j hj => ?_⟩) (ex2.trans (ExtN.same s4)) (tabs_same tabs3 s4)
    have := hg ((j : Nat) : Int) (List.mem_map.mpr ⟨j, (D.all j).mpr hj, rfl⟩)
    simpa using this
/-- the time of a room, with a way that has it -/
def timeW (hs : List HR) (bs : List BR) (v : Int) : Prop := (hs = [] ∧ v = 0) ∨ ∃ (k e : Nat) (ns : List Nat), k < hs.length ∧ e < hs.length ∧ wayEnd bs k ns = some e ∧ (∀ n ∈ ns, n < bs.length) ∧ (∀ n ∈ ns, trB bs n = 0) ∧ momW hs bs k ns = v ∧ ns.length ≤ hs.length ∧ ∀ j, j < hs.length → lng hs bs j ≤ v
def sp_time_of (K : PySem.W.Frag) (PT : Addr × Addr) : Sp := fun vs H Q _ => ∃ (r : Addr) (hs : List HR) (bs : List BR), vs = [.ref r] ∧ RoomAt H r hs bs ∧ RoomOk hs bs ∧ LamX.Tabs (TL PT) H ∧
  ∀ (v : Int) (H' : Hp), timeW hs bs v → LamX.ExtN H H' → LamX.Tabs (TL PT) H' → Q (.int v) H'
theorem ok_time_of {f : Addr} {fd : FuncData} (F : Fun K "time_of" "time_of" s_time_of f fd) (T : Top K mg) : FnOk P w K mg base CX0 4 f fd ["room"] (sp_time_of K PT) := by
  obtain ⟨f_long_way, fd_long_way, F_long_way, b_long_way, m_long_way⟩ := T.d_long_way
  have G_long_way := ok_long_way (P := P) (w := w) (base := base) F_long_way (TLI.cd _ _ F_long_way m_long_way) T
  obtain ⟨f_moments_on, fd_moments_on, F_moments_on, b_moments_on, m_moments_on⟩ := T.d_moments_on
  have G_moments_on := ok_moments_on (P := P) (w := w) (base := base) F_moments_on T
  refine F.ok sc_time_of (fun vs H Q E h => ?_) (fun cdv A outer s H vs Q E hr h => ?_)
  · obtain ⟨r, hs, bs, rfl, _⟩ := h
    rfl
  obtain ⟨r, hs, bs, rfl, hR, ok, tabs, q⟩ := h
  refine ⟨_, (pss_cons (ps_set (i := 1) sc_time_of.nd rfl (Or.inl rfl) (pe_call G_long_way (hr.mono (by decide)) (by rfl) m_long_way F_long_way.kp b_long_way .nil pass0 (pa_cons (pv 0) pa_nil)))
      (pss_one (ps_ret (pe_ifExp (pt_cmpR op_isN (pv 1) pe_non (nomark _)) pe_int (pe_call G_moments_on (hr.mono (by decide)) (by rfl) m_moments_on F_moments_on.kp b_moments_on .nil pass0 (pa_cons (pv 0) (pa_cons (pv 1) pa_nil))))))), ?_⟩
  refine ⟨_, rfl, r, hs, bs, rfl, hR, ok, tabs, fun v H1 nw ext tabs1 => ?_⟩
  rcases nw with ⟨e0, rfl⟩ | ⟨p, k, e, ns, rfl, hp, hk, he, hn, we, tr, mm, ln, ge⟩
  · refine ⟨_, rfl, rfl, _, rfl, if_bl (fun _ => ?_) (fun z => absurd rfl (of_decide_eq_false z))⟩
    exact q _ _ (.inl ⟨e0, rfl⟩) ext tabs1
  · refine ⟨_, rfl, rfl, _, rfl, if_bl (fun z => absurd (of_decide_eq_true z) (fun y => nomatch y)) (fun _ => ?_)⟩
    have lh := ok.hands
    refine ⟨_, rfl, _, rfl, r, p, hs, bs, k, ns, rfl, hR.keep (ExtN.tk ext), fun b hb => (ok.ends b hb).2, hp, hk, hn, by omega, fun H2 s2 => ?_⟩
    exact q _ _ (.inr ⟨k, e, ns, hk, he, we, hn, tr, rfl, ln, by rw [mm]; exact ge⟩) (ext.trans (ExtN.same s2)) (tabs_same tabs1 s2)
end
section
variable {P : Program} {w : World} {K : PySem.W.Frag} {mg : Str → Option Value} {base : Heap}
def sp_NsInit (K : PySem.W.Frag) (C : Addr) : Sp := fun vs H Q _ => ∃ (a : Addr) (x y : V), vs = [.ref a, x, y] ∧ H a = some (exo a C none) ∧
  ∀ d, H d = none → d ≠ a → Q .non (upd (upd (upd H d (exd d [("word", x)])) a (exo a C (some d))) d (exd d [("at", y), ("word", x)]))
theorem ok_NsInit {C CB fI : Addr} {fd : FuncData} (N : NsC K mg C CB fI fd) : FnOk P w K mg base CX0 1 fI fd ["self", "word", "at"] (sp_NsInit K C) := by
  refine N.F.ok sc_NoShift_init (fun vs H Q E h => ?_) (fun cdv A outer s H vs Q E hr h => ?_)
  · obtain ⟨a, x, y, rfl, _⟩ := h
    rfl
  obtain ⟨a, x, y, rfl, ha, q⟩ := h
  refine ⟨_, pss_cons (ps_ost (pv 0) (pv 1)) (pss_one (ps_ost (pv 0) (pv 2))), ?_⟩
  refine ⟨_, rfl, _, rfl, a, C, rfl, N.T, N.nw, .inl ⟨ha, fun d nd da => ?_⟩⟩
  refine ⟨_, rfl, _, rfl, a, C, rfl, N.T, N.na, .inr ⟨d, _, upd_same, by rw [upd_ne da, upd_same], by show 1 ≤ 900; decide, q d nd da⟩⟩
end
section
variable {P : Program} {w : World} {K : PySem.W.Frag} {mg : Str → Option Value} {base : Heap}
abbrev nsA (K : PySem.W.Frag) : Addr := He.ga K "NoShift"
/-- refused: word and what it is about -/
def sp_refuse_shifts (K : PySem.W.Frag) : Sp := fun vs H Q E => ∃ x y : V, vs = [x, y] ∧ (y = .non → Q .non H) ∧ ((∃ k : Nat, y = nV k) ∨ y = .non) ∧
  ∀ (d t : Addr) (H' : Hp), y ≠ .non → H' d = some (.xd [("at", .ref t), ("word", x)]) → H' t = some (.tup [y]) → Same H H' → E (.ref (nsA K)) (some d) H'
theorem ok_refuse_shifts {f : Addr} {fd : FuncData} (F : Fun K "refuse_shifts" "refuse_shifts" s_refuse_shifts f fd) (T : Top K mg) : FnOk P w K mg base (L2.CX P w) 3 f fd ["word", "at"] (sp_refuse_shifts K) := by
  obtain ⟨fdI, N⟩ := T.x_ns
  have GI := ok_NsInit (P := P) (w := w) (base := base) N
  refine F.okX sc_refuse_shifts (fun vs H Q E h => ?_) (fun cdv A outer s H vs Q E hr h => ?_)
  · obtain ⟨x, y, rfl, _⟩ := h
    rfl
  obtain ⟨x, y, rfl, q1, sort, q2⟩ := h
  refine ⟨_, (pss_one (ps_if (pt_cmpR op_notN (pv 1) pe_non (nomark _)) (pss_one (ps_raise rfl (takes_of rfl rfl rfl rfl) (pmk_oex N.T N.iC N.tI GI (hr.mono (by decide)) N.b .nil pass0 rfl N.gC (pa_cons (pv 0) (pa_cons (pe_tup (pa_cons (pv 1) pa_nil)) pa_nil))))) pss_nil)), ?_⟩
  rcases sort with ⟨k, rfl⟩ | rfl
  · refine ⟨_, rfl, rfl, _, rfl, if_bl (fun _ => ?_) (fun z => nomatch z)⟩
    refine ⟨_, rfl, _, rfl, (by show 1 ≤ sizeLine; decide), fun t nt => ⟨by show 2 ≤ 1000; decide, fun a na => ?_⟩⟩
    have s1 := same_new (o := .tup [nV k]) nt
    have ht : (upd H t (.tup [nV k])) t = some (.tup [nV k]) := upd_same
    generalize upd H t (.tup [nV k]) = H1 at s1 ht na ⊢
    refine ⟨a, x, .ref t, rfl, upd_same, fun d nd da => ⟨rfl, d, _, by rw [upd_ne da.symm, upd_same], upd_same, ?_, ?_⟩⟩
    · rw [upd_ne da] at nd; exact nd
    · have nd1 : H1 d = none := by rw [upd_ne da] at nd; exact nd
      have keep : Same H1 (upd (del (upd (upd (upd (upd H1 a (exo a (nsA K) none)) d (exd d [("word", x)])) a (exo a (nsA K) (some d))) d (exd d [("at", V.ref t), ("word", x)])) a) d (.xd [("at", V.ref t), ("word", x)])) := fun b o e => by
        have b1 : b ≠ a := ne_of_none e na
        have b2 : b ≠ d := ne_of_none e nd1
        rw [upd_ne b2, del_ne b1, upd_ne b2, upd_ne b1, upd_ne b2, upd_ne b1]
        exact e
      exact q2 d t _ (fun z => nomatch z) upd_same (keep _ _ ht) (s1.trans keep)
  · exact ⟨_, rfl, rfl, _, rfl, if_bl (fun z => nomatch z) (fun _ => q1 rfl)⟩
end
/-! ### slices and sums of tuples, whatever they are -/
theorem slA_of {K : PySem.W.Frag} {H : Hp} {a : Addr} {xs : List V} {lo hi : Option Int} {Q : VK} (h : H a = some (.tup xs)) (k : ∀ (p : Addr) (H' : Hp), H' p = some (.tup (cutV xs lo hi)) → Same H H' → Q (.ref p) H') : rSlA K (.ref a) lo hi H Q := by
  refine ⟨a, xs, rfl, SqT.of h, fun z => k a H ?_ (Same.refl _), fun _ p np => k p _ upd_same (same_new np)⟩
  unfold cutV
  rw [z.1, z.2, List.drop_zero, Nat.sub_zero, List.take_length]
  exact h
theorem catA_of {K : PySem.W.Frag} {H : Hp} {a b : Addr} {xs ys : List V} {Q : VK} (h : H a = some (.tup xs)) (g : H b = some (.tup ys)) (l : xs.length + ys.length ≤ 1000) (k : ∀ (p : Addr) (H' : Hp), H' p = some (.tup (xs ++ ys)) → Same H H' → Q (.ref p) H') : rCatA K (.ref a) (.ref b) H Q := by
  refine ⟨a, b, xs, ys, rfl, rfl, SqT.of h, SqT.of g, little l, fun e => k b H ?_ (Same.refl _), fun _ e => k a H ?_ (Same.refl _), fun _ _ p np => k p _ upd_same (same_new np)⟩
  · rw [e]; exact g
  · rw [e, List.append_nil]; exact h
theorem cut_take (xs : List V) (k : Nat) : cutV xs none (some ((k : Nat) : Int)) = xs.take k := by
  unfold cutV
  rw [HT.sIx_nat, HT.sIx_none, List.drop_zero, Nat.sub_zero]
  by_cases h : k ≤ xs.length
  · rw [Nat.min_eq_left h]
  · rw [Nat.min_eq_right (by omega), List.take_length, List.take_of_length_le (by omega)]
theorem cut_part {xs : List V} {lo hi : Option Int} : ∀ x ∈ cutV xs lo hi, x ∈ xs := fun x hx => List.mem_of_mem_drop (List.mem_of_mem_take hx)
theorem cut_nats {ns : List Nat} {lo hi : Option Int} : ∃ ms : List Nat, cutV (ns.map nV) lo hi = ms.map nV ∧ ms.length ≤ ns.length ∧ ∀ x ∈ ms, x ∈ ns := by
  refine ⟨(ns.drop (HT.sIx (ns.map nV).length 0 lo)).take (HT.sIx (ns.map nV).length (ns.map nV).length hi - HT.sIx (ns.map nV).length 0 lo), ?_, ?_, fun x hx => List.mem_of_mem_drop (List.mem_of_mem_take hx)⟩
  · unfold cutV
    rw [List.map_take, List.map_drop]
  · rw [List.length_take, List.length_drop]
    omega
section
variable {P : Program} {w : World} {K : PySem.W.Frag} {mg : Str → Option Value} {base : Heap}
def sp_doors (z : Str) : Sp := fun vs H Q _ => ∃ (r : Addr) (hs : List HR) (bs : List BR), vs = [.ref r] ∧ RoomAt H r hs bs ∧ hs.length ≤ 400 ∧ (∀ h ∈ hs, GoodHand h) ∧ ∀ (p : Addr) (H' : Hp), H p = none → H' p = some (.lst ((doorsOf z hs).map nV)) → Same H H' → Q (.ref p) H'
abbrev sp_doors_in (K : PySem.W.Frag) : Sp := sp_doors "in"
abbrev sp_doors_out (K : PySem.W.Frag) : Sp := sp_doors "out"
theorem ok_doors_in {f : Addr} {fd : FuncData} (F : Fun K "doors_in" "doors_in" s_doors_in f fd) (T : Top K mg) : FnOk P w K mg base CX0 1 f fd ["room"] (sp_doors_in K) := by
  refine F.ok sc_doors_in (fun vs H Q E h => ?_) (fun cdv A outer s H vs Q E hr h => ?_)
  · obtain ⟨r, hs, bs, rfl, _⟩ := h
    rfl
  obtain ⟨aI, mI, hI⟩ := T.x_in
  obtain ⟨r, hs, bs, rfl, hR, lb, good, q⟩ := h
  obtain ⟨ha, ba, hv, bv, er, eh, eb, alh, alb⟩ := hR.ex
  have lhv := alh.length
  refine ⟨_, (pss_one (ps_ret (pe_lc (own := [("number", 1), ("hand", 2)]) (g := gTup K 2 (gCons (gName 1) (gCons (gName 2) gNil))) (by rfl) sc_doors_in.nd (pi_enumT K rfl (by rfl) T.m_enumerate (pa_cons (pe_ix (ix_tupK K rfl) (pv 0) pe_int (fun _ _ => rfl)) pa_nil)) (blkOk_by (own := [("number", 1), ("hand", 2)]) (N := N_doors_in) (sc := defScope s_doors_in) (by decide +kernel)) (fun _ _ _ _ _ => (pg_tupK K rfl rfl (pgs_cons (pg_name (i := 1) sc_doors_in.nd rfl (Or.inl rfl)) (pgs_cons (pg_name (i := 2) sc_doors_in.nd rfl (Or.inl rfl)) pgs_nil)))) (fun _ _ _ _ _ => pts_one (pt_cmpR (op_eqDK K rfl hr.units) (pe_ix (ix_tupK K rfl) (pv 2) pe_int (fun _ _ => rfl)) (pe_glob (v := .ref aI) (by rfl) mI rfl) (nomark _))) (fun _ _ _ _ _ => (pv 1))))), ?_⟩
  refine ⟨_, rfl, r, _, _, _, rfl, rfl, SqT.of er, atI_nat (j := 0) rfl, ha, hv, rfl, SqT.of eh, fun D nD => lc_it (J := IteT K ha hv) (n := hv.length) (fun i H5 => H5 D = some (.lst (((List.range i).filter fun j => decide (hs[j]?.map HR.wd = some ("in" : Str))).map nV)) ∧ Same H H5) ⟨upd_same, same_new nD⟩ ?_ ?_ ?_ ?_⟩
  · rintro i H5 hi ⟨hD, s5⟩
    exact ⟨SqT.of (s5 _ _ eh), hi⟩
  · rintro H5 ⟨hD, s5⟩
    exact ⟨SqT.of (s5 _ _ eh), rfl⟩
  · rintro i x H5 H6 hi ⟨hD, s5⟩ ⟨t, y, rfl, nt, rfl, ey⟩
    obtain ⟨hh, eb2, ⟨t2, g, rfl, e1, e2⟩⟩ := alh.getL ey
    have gh := good _ (List.mem_of_getElem? eb2)
    have s6 := s5.trans (same_new (o := .tup [V.int ((i : Nat) : Int), V.ref t2]) nt)
    have hD6 := same_new (o := .tup [V.int ((i : Nat) : Int), V.ref t2]) nt _ _ hD
    have few := filt_len (p := fun j => decide (hs[j]?.map HR.wd = some ("in" : Str))) i
    refine ⟨t, _, rfl, SqT.of upd_same, rfl, _, _, rfl, _, _, rfl, rfl, rfl, _, rfl, t2, _, _, _, rfl, rfl, SqT.of (s6 _ _ e1), atI_nat (j := 0) rfl, ?_⟩
    refine ⟨_, _, rule_dp (s6 _ _ e2), .tup (hI _) (.cons (.str _) .nil), rule_shaped gh.lay, one_shaped (by decide +kernel), _, rfl, ?_⟩
    rw [rule_eqv, gh.door "in" (.inl rfl)]
    by_cases c : hh.wd = "in"
    · rw [decide_eq_true c]
      refine if_bl (fun _ => ⟨_, rfl, _, hD6, by rw [List.length_map]; exact small1000 (by omega), ?_, Same.own s6 nD⟩) (fun z => nomatch z)
      rw [upd_same, filt_succ, if_pos (decide_eq_true (by rw [eb2, ← c]; rfl)), List.map_append]
      rfl
    · rw [decide_eq_false c]
      refine if_bl (fun z => nomatch z) (fun _ => ⟨?_, s6⟩)
      rw [filt_succ, if_neg fun z => c (by have := of_decide_eq_true z; rw [eb2] at this; exact Option.some.inj this), List.append_nil]
      exact hD6
  · rintro H5 ⟨hD, s5⟩
    refine q D H5 nD ?_ s5
    rw [hD, lhv]
    rfl
end
section
variable {P : Program} {w : World} {K : PySem.W.Frag} {mg : Str → Option Value} {base : Heap}
theorem ok_doors_out {f : Addr} {fd : FuncData} (F : Fun K "doors_out" "doors_out" s_doors_out f fd) (T : Top K mg) : FnOk P w K mg base CX0 1 f fd ["room"] (sp_doors_out K) := by
  refine F.ok sc_doors_out (fun vs H Q E h => ?_) (fun cdv A outer s H vs Q E hr h => ?_)
  · obtain ⟨r, hs, bs, rfl, _⟩ := h
    rfl
  obtain ⟨aO, mO, hI⟩ := T.x_out
  obtain ⟨r, hs, bs, rfl, hR, lb, good, q⟩ := h
  obtain ⟨ha, ba, hv, bv, er, eh, eb, alh, alb⟩ := hR.ex
  have lhv := alh.length
  refine ⟨_, (pss_one (ps_ret (pe_lc (own := [("number", 1), ("hand", 2)]) (g := gTup K 2 (gCons (gName 1) (gCons (gName 2) gNil))) (by rfl) sc_doors_out.nd (pi_enumT K rfl (by rfl) T.m_enumerate (pa_cons (pe_ix (ix_tupK K rfl) (pv 0) pe_int (fun _ _ => rfl)) pa_nil)) (blkOk_by (own := [("number", 1), ("hand", 2)]) (N := N_doors_out) (sc := defScope s_doors_out) (by decide +kernel)) (fun _ _ _ _ _ => (pg_tupK K rfl rfl (pgs_cons (pg_name (i := 1) sc_doors_out.nd rfl (Or.inl rfl)) (pgs_cons (pg_name (i := 2) sc_doors_out.nd rfl (Or.inl rfl)) pgs_nil)))) (fun _ _ _ _ _ => pts_one (pt_cmpR (op_eqDK K rfl hr.units) (pe_ix (ix_tupK K rfl) (pv 2) pe_int (fun _ _ => rfl)) (pe_glob (v := .ref aO) (by rfl) mO rfl) (nomark _))) (fun _ _ _ _ _ => (pv 1))))), ?_⟩
  refine ⟨_, rfl, r, _, _, _, rfl, rfl, SqT.of er, atI_nat (j := 0) rfl, ha, hv, rfl, SqT.of eh, fun D nD => lc_it (J := IteT K ha hv) (n := hv.length) (fun i H5 => H5 D = some (.lst (((List.range i).filter fun j => decide (hs[j]?.map HR.wd = some ("out" : Str))).map nV)) ∧ Same H H5) ⟨upd_same, same_new nD⟩ ?_ ?_ ?_ ?_⟩
  · rintro i H5 hi ⟨hD, s5⟩
    exact ⟨SqT.of (s5 _ _ eh), hi⟩
  · rintro H5 ⟨hD, s5⟩
    exact ⟨SqT.of (s5 _ _ eh), rfl⟩
  · rintro i x H5 H6 hi ⟨hD, s5⟩ ⟨t, y, rfl, nt, rfl, ey⟩
    obtain ⟨hh, eb2, ⟨t2, g, rfl, e1, e2⟩⟩ := alh.getL ey
    have gh := good _ (List.mem_of_getElem? eb2)
    have s6 := s5.trans (same_new (o := .tup [V.int ((i : Nat) : Int), V.ref t2]) nt)
    have hD6 := same_new (o := .tup [V.int ((i : Nat) : Int), V.ref t2]) nt _ _ hD
    have few := filt_len (p := fun j => decide (hs[j]?.map HR.wd = some ("out" : Str))) i
    refine ⟨t, _, rfl, SqT.of upd_same, rfl, _, _, rfl, _, _, rfl, rfl, rfl, _, rfl, t2, _, _, _, rfl, rfl, SqT.of (s6 _ _ e1), atI_nat (j := 0) rfl, ?_⟩
    refine ⟨_, _, rule_dp (s6 _ _ e2), .tup (hI _) (.cons (.str _) .nil), rule_shaped gh.lay, one_shaped (by decide +kernel), _, rfl, ?_⟩
    rw [rule_eqv, gh.door "out" (.inr rfl)]
    by_cases c : hh.wd = "out"
    · rw [decide_eq_true c]
      refine if_bl (fun _ => ⟨_, rfl, _, hD6, by rw [List.length_map]; exact small1000 (by omega), ?_, Same.own s6 nD⟩) (fun z => nomatch z)
      rw [upd_same, filt_succ, if_pos (decide_eq_true (by rw [eb2, ← c]; rfl)), List.map_append]
      rfl
    · rw [decide_eq_false c]
      refine if_bl (fun z => nomatch z) (fun _ => ⟨?_, s6⟩)
      rw [filt_succ, if_neg fun z => c (by have := of_decide_eq_true z; rw [eb2] at this; exact Option.some.inj this), List.append_nil]
      exact hD6
  · rintro H5 ⟨hD, s5⟩
    refine q D H5 nD ?_ s5
    rw [hD, lhv]
    rfl
end
/-! ### all(is_whole(x) for x in a tuple) -/
section
open PySem.Spec GxR
/-- isinstance(x, T), x a local name, wherever it stands -/
theorem isi_local {prog : Program} {w : World} {A : Around} {E : Value → Shared → Prop} {Q : Value → Shared → Prop} {env : Env} {K : PySem.W.Frag} {mg mb m : Str → Option Value} {s : Shared} {x T : Str} {Tn : String} {v t : Value} {b : Bool} {Hx : Heap → Prop} {p1 p2 p3 p4 : Pos}
    (kind : env.scope.kind = .function) (ki : env.kindOf "isinstance" = some .globalImplicit) (kT : env.kindOf T = some .globalImplicit) (kx : env.scope.names.lookup x = some .local) (dT : (T == ("__debug__" : Str)) = false) (dx : (x == ("__debug__" : Str)) = false)
    (g : s.heap.Ns env.globals mg) (bl : s.heap.Ns env.builtins mb) (mi : mg "isinstance" = none) (bi : mb "isinstance" = some (.builtin "isinstance")) (mT : mg T = none) (bT : mb T = some (.type Tn)) (ns : s.heap.Ns env.locals m) (mx : m x = some v)
    (kin : K.In s.heap) (Z : PySem.W.KitX K v t Hx) (p : Hx s.heap) (e : PySem.W.kitOne K t (.type Tn) = some b) (no : v ≠ .builtin "__main__.__loader__#opaque") (hQ : ∀ tk, Q (.bool b) { s with toks := tk }) :
    wpAny (model prog w) A (eval (.Call (.Name "isinstance" p1) [.Name x p2, .Name T p3] [] p4) env) Q E s := by
  refine wpAny_Call_Name_kw (Calls.Name_function_global kind ki (Calls.loadGlobal_builtin g mi bl bi ?_))
  refine PyProof.Rows.callWith_builtin1 ?_ (by rfl) (by rfl)
  show wpAny _ _ (spliced ((false, eval (.Name x p2) env) :: backTo p4 (starEach [.Name T p3] env))) _ _ s
  refine Calls.spliced_cons (wpAny_Name (wpAny_loadName_local kind kx ns mx ?_) dx)
  show wpAny _ _ (spliced ((false, eval (.Name T p3) env) :: backTo p4 (starEach [] env))) _ _ s
  refine Calls.spliced_cons (Calls.Name_function_global kind kT (Calls.loadGlobal_builtin g mT bl bT ?_) dT)
  refine Calls.spliced_nil ?_
  exact PySem.W.kia_one Z kin p e no hQ
/-- a def whose body is: return isinstance(x, int) and not isinstance(x, bool) -/
structure IsWholeDef (body : List Stmt) (scope : Scope) (x : Str) : Prop where
  body : ∃ p0 p1 p2 p3 p4 p5 p6 p7 p8 p9 p10 : Pos, body = [.Return (some (.BoolOp .And [.Call (.Name "isinstance" p1) [.Name x p2, .Name "int" p3] [] p4, .UnaryOp .Not (.Call (.Name "isinstance" p5) [.Name x p6, .Name "bool" p7] [] p8) p9] p10)) p0]
  kind : scope.kind = .function
  co : scope.isCoroutine = false
  gen : scope.isGenerator = false
  ki : scope.names.lookup ("isinstance" : Str) = some NameKind.globalImplicit
  kt : scope.names.lookup ("int" : Str) = some NameKind.globalImplicit
  kb : scope.names.lookup ("bool" : Str) = some NameKind.globalImplicit
  kx : scope.names.lookup x = some NameKind.local
  dx : (x == ("__debug__" : Str)) = false
theorem whole_call {prog : Program} {w : World} {A : Around} {E : Value → Shared → Prop} {K : PySem.W.Frag} {mg : Str → Option Value} {base : Heap} {s : Shared} {f : Addr} {fd : FuncData} {x nm : Str} {st : Stmt} {v t : Value} {a b : Bool} {Hx : Heap → Prop}
    (F : Fun K nm nm st f fd) (W : IsWholeDef (defBody st) (defScope st) x) (bnd : BindsTo s fd ⟨[v], []⟩ [(x, v)]) (Z : PySem.W.KitX K v t Hx) (hx : ∀ h', (∀ b o, s.heap.get? b = some o → h'.get? b = some o) → Hx h') (ea : PySem.W.kitOne K t (.type "int") = some a) (eb : PySem.W.kitOne K t (.type "bool") = some b) (no : v ≠ .builtin "__main__.__loader__#opaque") (M : Mod K mg base) (bk : ∀ b o, base.get? b = some o → s.heap.get? b = some o)
    (mi : mg "isinstance" = none) (mt : mg "int" = none) (mb : mg "bool" = none) (depth : A.depth + 2 < recursionLimit) :
    wpAny (model prog w) A (call (.ref f) [v]) (fun y s' => y = .bool (a && !b) ∧ Keeps s s') E s := by
  obtain ⟨kl, kd, kV, dc, pm, an, cv, ct, ks, rfl, look, cin⟩ := F.ex
  have kin : K.In s.heap := M.kin.keeps bk
  have lim : s.heap.NoLimit := M.nolimit.keeps bk
  refine wpAny_call (codeAny_call_function (by omega) (kin _ _ look) rfl W.co W.gen rfl (PySem.W.codeRec_of kin cin) (bnd _ _ _ _ ?_))
  refine wpAny_newFunctionEnv_cells W.kind (fun y hy => ?_) fun env he s1 ic => ?_
  · rw [List.mem_singleton.mp hy]
    exact .inl W.kx
  subst he
  refine ⟨lim.keeps ic.toInCall.keep, codeAny_func ?_⟩
  have nsx := ic.toInCall.ns
  have kp := ic.toInCall.keep
  have dn := ic.done
  generalize eenv : newEnv (PySem.W.fnOf nm nm (defArgs st) (defBody st) (defScope st) Value.none kV dc pm an cv ct).scope s.heap.objs.size _ _ _ _ _ _ _ = env at nsx ⊢
  have sc : env.scope = defScope st := by rw [← eenv]; rfl
  have gl : env.globals = mainGlobals := by rw [← eenv]; rfl
  have bl : env.builtins = builtinsNs := by rw [← eenv]; rfl
  have ko : ∀ y, env.kindOf y = (defScope st).names.lookup y := fun y => by rw [← eenv]; rfl
  have bk1 : ∀ b o, base.get? b = some o → s1.heap.get? b = some o := fun b o e => kp b o (bk b o e)
  obtain ⟨mbs, hb1, hb2⟩ := M.blt
  obtain ⟨p0, p1, p2, p3, p4, p5, p6, p7, p8, p9, p10, hbody⟩ := W.body
  show wpAny _ _ (execs (defBody st) env) _ _ s1
  rw [hbody]
  refine wpAny_execs_cons ?_
  refine wpAny_Return_some ?_
  have kindf : env.scope.kind = .function := by rw [sc]; exact W.kind
  have nsl := nsx
  have g1 : s1.heap.Ns env.globals mg := by rw [gl]; exact M.glob.keeps bk1
  have b1 : s1.heap.Ns env.builtins mbs := by rw [bl]; exact hb1.keeps bk1
  have kx1 : env.scope.names.lookup x = some .local := by rw [sc]; exact W.kx
  have mx : bindL env.kindOf [(x, v)] (fun _ => none) x = some v := by
    show (if env.kindOf x = some .local then fun y => if y = x then some v else none else fun _ => none) x = _
    rw [if_pos ((ko x).trans W.kx)]
    exact if_pos rfl
  refine wpAny_And2 (isi_local (K := K) kindf ((ko _).trans W.ki) ((ko _).trans W.kt) kx1 (by decide) W.dx g1 b1 mi (hb2 _ (by decide) |>.trans boot_isinstance) mt (hb2 _ (by decide) |>.trans boot_int) nsl mx (kin.keeps kp) Z (hx _ kp) ea no fun tk1 => ?_)
  refine wpAny_truthy_bool ?_
  obtain ⟨h', tk', e1, k1⟩ := dn
  cases a with
  | false => exact ⟨rfl, h', tk1, by rw [e1], k1⟩
  | true =>
    refine wpAny_UnaryOp (isi_local (K := K) kindf ((ko _).trans W.ki) ((ko _).trans W.kb) kx1 (by decide) W.dx g1 b1 mi (hb2 _ (by decide) |>.trans boot_isinstance) mb (hb2 _ (by decide) |>.trans boot_bool) nsl mx (kin.keeps kp) Z (hx _ kp) eb no fun tk2 => ?_)
    refine not_value (wpAny_truthy_bool ?_)
    exact ⟨rfl, h', tk2, by rw [e1], k1⟩
/-- one item looked at, in the generator's own surroundings -/
def LooksAt (X : Cx) (scope : Scope) (x : Str) (elt : Expr) (its : List Value) (pb : Nat → Bool) : Prop :=
  ∀ (cenv : Env) (A' : Around) (E' : Value → Shared → Prop) (i : Nat) (v : Value) (z : Shared) (mz : Str → Option Value), A'.depth ≤ X.A.depth + 1 → cenv.scope = scope → cenv.globals = mainGlobals →
    (∀ b o, X.base.get? b = some o → z.heap.get? b = some o) → z.heap.Ns cenv.locals mz → mz x = some v → its[i]? = some v →
    wpAny (model X.prog X.w) A' (eval elt cenv) (fun y z' => y = .bool (pb i) ∧ Keeps z z') E' z
/-- the state when the generator's code object was got: it is in the table at P, or was just put there -/
structure Got (P : Addr) (ps : Array Value) (nm : Str) (z z' : Shared) : Prop where
  same : z' = { z with heap := z'.heap, toks := z'.toks }
  ext : Heap.ExtBut P z.heap z'.heap
  size : z.heap.objs.size ≤ z'.heap.objs.size
  tab : z'.heap.get? P = some { cls := .none, data := .fields ps } ∨ ∃ (pos : Pos) (c' : Addr), z'.heap.get? P = some { cls := .none, data := .fields (ps ++ #[rawInt ↑pos.line, rawInt ↑pos.col, .ref c']) } ∧ TriplesOk (ps ++ #[rawInt ↑pos.line, rawInt ↑pos.col, Value.ref c']).toList ∧ z.heap.objs.size ≤ c' ∧ c' < z'.heap.objs.size ∧ z'.heap.CodeRec (.ref c') nm
theorem code_got {prog : Program} {w : World} {A : Around} {E : Value → Shared → Prop} {env : Env} {gpos : Pos} {nm : Str} {scope : Scope} {c P : Addr} {ps : Array Value} {z : Shared}
    (hcode : env.code = .ref c) (cd : PySem.W.CodeHd z.heap c P) (hP : z.heap.get? P = some { cls := .none, data := .fields ps }) (ht : TriplesOk ps.toList) :
    wpAny (model prog w) A (genexprCode env gpos nm scope) (fun _ z' => Got P ps nm z z') E z := by
  cases among : codeAmong gpos ps.toList with
  | some cv => exact wpAny_genexprCode_hit hcode (cd.code hP ht) among ⟨rfl, .refl _ _, Nat.le_refl _, .inl hP⟩
  | none =>
    refine wpAny_genexprCodeX hcode (cd.code hP ht) (cd.tab hP) among fun c' h' tk ext ge lt co rec tab _ => ?_
    obtain ⟨_, _, _, _, _, _, _, _, _, _, _, _, _, _, _, _, _, _, _, tr, _⟩ := co
    exact ⟨rfl, ext, Nat.le_trans ge (Nat.le_of_lt lt), .inr ⟨gpos, c', tab.2, tr, ge, lt, rec⟩⟩
/-- a generator g of n truths pb, about to be walked; however far it is walked, H1 stands but for tables -/
def Poised (X : Cx) (pins : List (Addr × Obj)) (σ : L2.St) (H1 : Hp) (T : List (Addr × Str)) (n : Nat) (pb : Nat → Bool) (g : Addr) (z : Shared) : Prop :=
  ∃ (foot own : List Addr) (Gn : Array GenState → Array GenState → Prop) (Fn : Nat → Value → Prop) (Sn : Nat → Shared → Prop),
    WalksS X.prog X.w X.A.in1 g foot own Gn n Fn Sn ∧ Sn 0 z ∧ TruthOf X.prog X.w X.A.in1 Fn pb ∧ ∀ z', Moved own Gn z z' → ∃ H2, LamX.ExtN H1 H2 ∧ LamX.Tabs T H2 ∧ Inv X pins σ H2 z'
theorem gen_items {X : Cx} {pins : List (Addr × Obj)} {σ : L2.St} {H : Hp} {s : Shared} {c P : Addr} {elt iter : Expr} {x : Str} {px gpos : Pos} {scope : Scope} {te : TE} {k : Nat} {Qg : Value → Shared → Prop}
    {T : List (Addr × Str)} (hr : Room k X.A) (TB : LamX.TabB X.base X.mg c P) (hT1 : (P, X.env.qual ++ "<genexpr>") ∈ T) (hT2 : ∀ q ∈ T, q.1 = P → q.2 = X.env.qual ++ "<genexpr>") (hcode : X.env.code = .ref c) (S : GenS X.env scope x) (hi : PE X iter te) (hs : ∀ v, genFold iter X.env v = pure v) (I : Inv X pins σ H s)
    {R : VK} (h : te σ H R) (hR : ∀ v H1, R v H1 → ∃ (a : Addr) (xs : List V) (pb : Nat → Bool), v = .ref a ∧ SqT X.K H1 a xs ∧ LamX.Tabs T H1 ∧ (∀ its, Vals xs its → LooksAt X scope x elt its pb) ∧ ∀ g z, Poised X pins σ H1 T xs.length pb g z → Qg (.ref g) z) :
    wpAny (model X.prog X.w) X.A (eval (.GeneratorExp elt [⟨.Name x px, iter, [], 0⟩] scope gpos) X.env) Qg X.xe s := by
  refine wpAny_GeneratorExp_walksQD hr.hd S.co (closure_ok S.free) S.cell S.dot S.loc S.kind (by have := hr.dp; omega) ?_ hs
  refine thn (hi.run pins s σ H _ I h) fun u s1 ⟨v, H1, I1, rel, now⟩ => ?_
  obtain ⟨a, xs, pb, ev, hq, tabs, look, fin⟩ := hR v H1 now
  obtain ⟨ps, hP, tri, codes⟩ := id (tabs _ hT1)
  subst ev
  obtain rfl : u = Value.ref a := rel
  obtain ⟨its, rv, tup, _⟩ := I1.tuple hq
  refine wpAny_pyIter_tuple tup ?_
  have tabP : s1.heap.get? P = some { cls := .none, data := .fields ps } := I1.hok P _ hP
  have pushed : ∀ b o, s1.heap.get? b = some o → (s1.heap.push { cls := .type "tuple_iterator", data := .fields #[.ref a, .int 0 0] }).get? b = some o := fun b o e => Heap.get?_push_of_some _ e
  have born : Heap.IsTupleIter (s1.heap.push { cls := .type "tuple_iterator", data := .fields #[.ref a, .int 0 0] }) s1.heap.objs.size a 0 := ⟨_, Heap.get?_push_size _ rfl, rfl, rfl⟩
  have wider : (s1.heap.push { cls := .type "tuple_iterator", data := .fields #[.ref a, .int 0 0] }).objs.size = s1.heap.objs.size + 1 := Heap.size_push ..
  generalize s1.heap.push { cls := .type "tuple_iterator", data := .fields #[.ref a, .int 0 0] } = h2 at pushed born wider ⊢
  have al : a < s1.heap.objs.size := by obtain ⟨o, ho, _⟩ := tup; exact Heap.lt_size ho
  have pl : P < s1.heap.objs.size := Heap.lt_size tabP
  have cl : cStatics < s1.heap.objs.size := let ⟨_, hn, _⟩ := I1.nolimit; hn.lt
  have cP : cStatics ≠ P := fun e => by
    obtain ⟨_, ⟨o, es, ep, ho, hd, _⟩, _⟩ := I1.nolimit
    rw [e, tabP] at ho
    cases ho
    cases hd
  have aP : a ≠ P := fun e => by
    obtain ⟨o, ho, hc, _⟩ := tup
    rw [e, tabP] at ho
    cases ho
    cases hc
  have lim2 : h2.NoLimit := I1.nolimit.keeps pushed
  refine ⟨lim2, thn (code_got (ps := ps) hcode (TB.code.keeps fun b o e => pushed b o (I1.bk b o e)) (pushed _ _ tabP) tri) fun code s3 got => ?_⟩
  obtain ⟨eq3, ext, wide, tab3⟩ := got
  obtain ⟨h3, g3, d3, t3, o3⟩ := s3
  obtain ⟨rfl, rfl, rfl⟩ : g3 = s1.gens ∧ d3 = s1.drawn ∧ o3 = s1.os := by
    have := eq3
    simp only [Shared.mk.injEq] at this
    exact ⟨this.2.1, this.2.2.1, this.2.2.2.2⟩
  replace ext : Heap.ExtBut P h2 h3 := ext
  replace wide : h2.objs.size ≤ h3.objs.size := wide
  have kept : ∀ b o, b ≠ P → s1.heap.get? b = some o → h3.get? b = some o := fun b o nb e => ext b o nb (pushed b o e)
  obtain ⟨bm, ob, b1, b2, b3, b4, b5, b6, b7, b8⟩ := TB.bm
  refine wpAny_builtinsFor (m := X.mg) (by rw [I1.ok.glob]; exact (I1.mod.glob.keeps fun b o e => pushed b o (I1.bk b o e)).extBut ext TB.gP) b1 b2 (kept _ _ b4 (I1.bk _ _ b5)) b6 b7 b8 ?_
  refine ⟨s1.heap.objs.size, [s1.heap.objs.size, a], [s1.heap.objs.size], its.toArray.size, (fun i v => its.toArray[i]? = some v), _, (fun _ => true), (fun i y => i < its.length ∧ y = .bool (pb i)), rfl, fun A' hA => Walks.tuple hA s1.heap.objs.size a (Nat.ne_of_lt al) its.toArray, ⟨?_, ?_⟩, ?_, lim2.extBut ext cP, ?_, ?_, ?_⟩
  · exact born.at fun o e => ext _ o (Nat.ne_of_gt pl) e
  · exact (show Heap.IsTuple s1.heap a its.toArray from tup).at fun o e => kept a o aP e
  · intro b hb
    have either : b = s1.heap.objs.size ∨ b = a := by simpa using hb
    show b < h3.objs.size
    have past : s1.heap.objs.size < h3.objs.size := by omega
    rcases either with z | z
    · rw [z]; exact past
    · rw [z]; exact Nat.lt_trans al past
  · intro z
    exact Nat.ne_of_lt cl (List.mem_singleton.mp z)
  · intro href above
    refine ⟨fun A' E' i v z mz _ _ _ _ _ _ _ => ?_, fun A' E' i v z mz _ dep _ pv _ nz mx up => ?_⟩
    · rw [List.forIn_nil]
      exact wpAny_pure ⟨rfl, GxR.keeps_refl z⟩
    · have at_ : its[i]? = some v := by
        have pv : its.toArray[i]? = some v := pv
        rwa [List.getElem?_toArray] at pv
      refine wpAny_mono (look its rv _ A' E' i v z mz dep rfl I1.ok.glob (fun b o e => ?_) nz mx at_) (fun y z' r => ⟨⟨(List.getElem?_eq_some_iff.mp at_).1, r.1⟩, r.2⟩) fun _ _ e => e
      have nb : b ≠ P := fun q => by
        have := (I1.bs b o e).2
        rw [q, hP] at this
        cases this
      have e1 := kept b o nb (I1.bk b o e)
      have bl := Heap.lt_size (I1.bk b o e)
      exact up b (List.mem_range.mpr (Heap.lt_size e1)) (fun q => Nat.ne_of_lt bl (List.mem_singleton.mp q)) o (above b o e1)
  · intro g h5 tk5 gs bare gt size5 kept5 W st0
    have many : (passing (fun _ => true) its.toArray.size 0).length = xs.length := by rw [GxR.passing_true, List.length_range, List.size_toArray, rv.length]
    rw [many] at W
    refine fin g _ ⟨_, _, _, _, _, W.in4_1, st0, fun j y z Qj Ej hy now => ?_, fun z' mv => ?_⟩
    · obtain ⟨i, hij, hil, rfl⟩ := hy
      rw [GxR.passing_true] at hij
      obtain ⟨lt, ij⟩ := List.getElem?_eq_some_iff.mp hij
      rw [List.getElem_range] at ij
      subst ij
      exact wpAny_truthy_bool now
    · have un : ∀ b o, s1.heap.get? b = some o → b ∉ h3.objs.size :: [s1.heap.objs.size] := fun b o e q => by
        have bl := Heap.lt_size e
        have past : s1.heap.objs.size < h3.objs.size := by omega
        have either : b = h3.objs.size ∨ b = s1.heap.objs.size := by simpa using q
        rcases either with q | q
        · exact Nat.ne_of_lt (Nat.lt_trans bl past) q
        · exact Nat.ne_of_lt bl q
      rcases tab3 with hP3 | ⟨pos3, c3, hP3, tri3, c3a, c3b, rec3⟩
      · have J := inv_tab (more := #[]) (h' := z'.heap) (g' := z'.gens) (d' := z'.drawn) (t' := z'.toks) I1 hP (fun b o nb e => mv.heap b o (un b o e) (kept5 b o (kept b o nb e))) (mv.heap P _ (un P _ tabP) (kept5 P _ (by simpa using hP3))) (AllBare.movedS (I1.bare.push bare) mv)
        rw [sh_eta s1 z' mv.os] at J
        have same : upd H1 P (HO.tbl (ps ++ #[])) = H1 := by
          funext b
          by_cases e : b = P
          · rw [e, upd_same, hP]; simp
          · exact upd_ne e
        rw [same] at J
        exact ⟨_, LamX.ExtN.refl _, tabs, J⟩
      · have c3s : s1.heap.objs.size ≤ c3 := by
          have : h2.objs.size ≤ c3 := c3a
          omega
        have c3n : H1 c3 = none := HOk.fresh I1.hok c3s
        have c3o : c3 ∉ h3.objs.size :: [s1.heap.objs.size] := fun q => by
          have a1 : h2.objs.size ≤ c3 := c3a
          have a2 : c3 < h3.objs.size := c3b
          have either : c3 = h3.objs.size ∨ c3 = s1.heap.objs.size := by simpa using q
          rcases either with q | q
          · exact Nat.ne_of_lt a2 q
          · rw [q] at a1; omega
        have rec5 : ∃ oc vs t, z'.heap.get? c3 = some oc ∧ oc.data = Data.fields vs ∧ vs[1]? = some (Value.str (X.env.qual ++ "<genexpr>") t) := by
          obtain ⟨c0, oc, vs, tq, e0, e1, e2, e3⟩ := rec3
          cases e0
          exact ⟨oc, vs, tq, mv.heap _ _ c3o (kept5 _ _ e1), e2, e3⟩
        have J := LamX.inv_table (more := #[rawInt ↑pos3.line, rawInt ↑pos3.col, Value.ref c3]) (h' := z'.heap) (t' := z'.toks) I1 hP (fun b o nb e => mv.heap b o (un b o e) (kept5 b o (kept b o nb e))) (mv.heap P _ (un P _ tabP) (kept5 P _ hP3)) c3s rec5
        have bz : AllBare z'.gens := AllBare.movedS (I1.bare.push bare) mv
        have J2 : Inv X pins σ _ { heap := z'.heap, gens := z'.gens, drawn := z'.drawn, toks := z'.toks, os := s1.os } := ⟨J.ok, J.os, bz, J.base, J.loc, J.cell, J.free, J.freeC, J.pin, J.hok, J.len⟩
        rw [sh_eta s1 z' mv.os] at J2
        have cP3 : c3 ≠ P := fun z => by rw [z, hP] at c3n; cases c3n
        have off : ∀ b o, H1 b = some o → b ≠ P → (upd (upd H1 P (HO.tbl (ps ++ #[rawInt ↑pos3.line, rawInt ↑pos3.col, Value.ref c3]))) c3 (LamX.CodeO c3 (X.env.qual ++ "<genexpr>"))) b = some o := fun b o e nb => by
          rw [upd_ne (fun z => by rw [z, c3n] at e; cases e), upd_ne nb]
          exact e
        refine ⟨_, fun b o e nt => off b o e fun z => by rw [z, hP] at e; exact nt ps (Option.some.inj e).symm, fun q hq => ?_, J2⟩
        by_cases eq : q.1 = P
        · rw [hT2 q hq eq, eq]
          refine ⟨_, by rw [upd_ne cP3.symm, upd_same], tri3, fun pos cv among => ?_⟩
          rw [Array.toList_append] at among
          rcases LamX.among_app ps.toList tri among with z | z
          · obtain ⟨c0, e0, e1⟩ := codes pos cv z
            exact ⟨c0, e0, off _ _ e1 fun y => by rw [y, hP] at e1; exact LamX.codeO_ne ps (Option.some.inj e1).symm⟩
          · exact ⟨c3, z, upd_same⟩
        · obtain ⟨ps', h1, h2, h3⟩ := tabs q hq
          refine ⟨ps', off _ _ h1 eq, h2, fun pos cv among => ?_⟩
          obtain ⟨c0, e0, e1⟩ := h3 pos cv among
          exact ⟨c0, e0, off _ _ e1 fun y => by rw [y, hP] at e1; exact LamX.codeO_ne ps (Option.some.inj e1).symm⟩
/-- is_whole's answer for a thing that is no object -/
def wholeV : V → Option Bool
  | .int _ => some true
  | .bl _ => some false
  | .non => some false
  | .str _ => some false
  | _ => none
/-- is_whole(x) for x in ..: the generator's element -/
structure WholeElt (X : Cx) (scope : Scope) (x nm : Str) (f : Addr) (fd : FuncData) (st : Stmt) (y : Str) : Prop where
  fn : Fun X.K nm nm st f fd
  df : IsWholeDef (defBody st) (defScope st) y
  bn : Binds X.K fd [y] []
  mg : X.mg nm = some (.ref f)
  mi : X.mg "isinstance" = none
  mt : X.mg "int" = none
  mb : X.mg "bool" = none
  kind : scope.kind = .function
  kf : scope.names.lookup nm = some NameKind.globalImplicit
  kx : scope.names.lookup x = some NameKind.local
  dx : (x == ("__debug__" : Str)) = false
  df2 : (nm == ("__debug__" : Str)) = false
theorem whole_elt {X : Cx} {scope : Scope} {x nm : Str} {f : Addr} {fd : FuncData} {st : Stmt} {y : Str} {k : Nat} {xs : List V} {p1 p2 p3 : Pos} (W : WholeElt X scope x nm f fd st y) (M : L2.Mod X.K X.mg X.base) (hr : Room k X.A) (hk : 1 ≤ k)
    (hv : ∀ v ∈ xs, ∃ b, wholeV v = some b) :
    ∀ its, Vals xs its → LooksAt X scope x (.Call (.Name nm p1) [.Name x p2] [] p3) its (fun i => (xs[i]?.bind wholeV).getD false) := by
  intro its rv cenv A' E' i v z mz dep sc gl up nz mx at_
  have kc : cenv.scope.kind = .function := by rw [sc]; exact W.kind
  have hd := hr.dp
  refine wpAny_Call_Name_kw (Calls.Name_function_global kc (show cenv.scope.names.lookup nm = _ by rw [sc]; exact W.kf) (Calls.loadGlobal_global (by rw [gl]; exact M.glob.keeps up) W.mg ?_) W.df2)
  have at2 := at_
  obtain ⟨v0, hv0⟩ : ∃ v0, xs[i]? = some v0 := ⟨_, List.getElem?_eq_getElem (by rw [rv.length]; exact (List.getElem?_eq_some_iff.mp at_).1)⟩
  obtain ⟨u, hu, rel⟩ := rv.get hv0
  rw [at_] at hu
  cases hu
  obtain ⟨b, hb⟩ := hv v0 (List.mem_of_getElem? hv0)
  have ans : (fun i => (xs[i]?.bind wholeV).getD false) i = b := by
    show (xs[i]?.bind wholeV).getD false = b
    rw [hv0]
    show (wholeV v0).getD false = b
    rw [hb]
    rfl
  rw [ans]
  have kin : X.K.In z.heap := M.kin.keeps up
  obtain ⟨oc, od, kV, doc, pm, an, cdv, ct, osl, efd, lk, hcd⟩ := W.fn.ex
  refine callWith_meth (h₀ := z.heap) (first := []) rfl (kin _ _ lk) ?_
  show wpAny _ _ (spliced ((false, eval (.Name x p2) cenv) :: backTo p3 (starEach [] cenv))) _ _ z
  refine Calls.spliced_cons (wpAny_Name (wpAny_loadName_local kc (show cenv.scope.names.lookup x = _ by rw [sc]; exact W.kx) nz mx ?_) W.dx)
  refine Calls.spliced_nil ⟨fun _ _ e => e, ?_⟩
  have go : ∀ {t : Value} {a c : Bool}, PySem.W.KitX X.K v t (fun _ => True) → PySem.W.kitOne X.K t (.type "int") = some a → PySem.W.kitOne X.K t (.type "bool") = some c → v ≠ .builtin "__main__.__loader__#opaque" → b = (a && !c) →
      wpAny (model X.prog X.w) A' (call (.ref f) [v]) (fun y z' => y = .bool b ∧ Keeps z z') E' z := fun {t a c} Z ea eb no eq => by
    rw [eq]
    exact whole_call W.fn W.df (W.bn z [v] kin rfl) Z (fun _ _ => trivial) ea eb no M up W.mi W.mt W.mb (by omega)
  cases v0 with
  | int n =>
    obtain ⟨t, rfl⟩ := rel
    cases hb
    exact go PySem.W.kitx_int (kit_ty rfl) (kit_ty rfl) (fun z => nomatch z) rfl
  | bl n =>
    obtain rfl : v = .bool n := rel
    cases hb
    exact go PySem.W.kitx_bool (kit_ty rfl) (kit_ty rfl) (fun z => nomatch z) rfl
  | non =>
    obtain rfl : v = .none := rel
    cases hb
    exact go PySem.W.kitx_none (kit_ty rfl) (kit_ty rfl) (fun z => nomatch z) rfl
  | str n =>
    obtain ⟨t, rfl⟩ := rel
    cases hb
    exact go PySem.W.kitx_str (kit_ty rfl) (kit_ty rfl) (fun z => nomatch z) rfl
  | byt n => cases hb
  | flt n => cases hb
  | ref n => cases hb
  | ty n => cases hb
/-- all(is_whole(x) for x in e), e a tuple -/
def tAllW (K : PySem.W.Frag) (T : List (Addr × Str)) (te : TE) : TE := fun σ H Q => te σ H fun v H1 => ∃ (a : Addr) (xs : List V), v = .ref a ∧ SqT K H1 a xs ∧ LamX.Tabs T H1 ∧ (∀ y ∈ xs, ∃ b, wholeV y = some b) ∧ ∀ H2, LamX.ExtN H1 H2 → LamX.Tabs T H2 → Q (.bl (xs.all fun y => (wholeV y).getD false)) H2
theorem all_at {α : Type} (xs : List α) (g : α → Option Bool) : ((List.range xs.length).all fun i => (xs[i]?.bind g).getD false) = xs.all fun y => (g y).getD false := by
  induction xs with
  | nil => rfl
  | cons y r ih =>
    rw [List.length_cons, List.range_succ_eq_map, List.all_cons, List.all_map, List.all_cons, ← ih]
    rfl
theorem pe_allW {X : Cx} (K : PySem.W.Frag) (hK : X.K = K) {c P : Addr} {iter : Expr} {x nm y : Str} {px p pos gpos p1 p2 p3 : Pos} {scope : Scope} {te : TE} {k : Nat} {f : Addr} {fd : FuncData} {st : Stmt}
    (hr : Room k X.A) (hk : 1 ≤ k) (hg : Gl X "all") (hm : X.mg "all" = none) (hb : bootBuiltins "all" = some (.builtin "all")) {T : List (Addr × Str)} (TB : LamX.TabB X.base X.mg c P) (hcode : X.env.code = .ref c) (hT1 : (P, X.env.qual ++ "<genexpr>") ∈ T) (hT2 : ∀ q ∈ T, q.1 = P → q.2 = X.env.qual ++ "<genexpr>") (S : GenS X.env scope x) (hi : PE X iter te) (W : WholeElt X scope x nm f fd st y)
    (hs : ∀ v, genFold iter X.env v = pure v) :
    PE X (.Call (.Name "all" p) [.GeneratorExp (.Call (.Name nm p1) [.Name x p2] [] p3) [⟨.Name x px, iter, [], 0⟩] scope gpos] [] pos) (tAllW K T te) := by
  subst hK
  refine ⟨fun pins s σ H Q I h => ?_⟩
  refine wpAny_Call_Name_kw (ld_blt I hg hm hb (PyProof.Rows.callWith_builtin1 ?_ rfl rfl))
  show wpAny _ _ (spliced ((false, eval (.GeneratorExp (.Call (.Name nm p1) [.Name x p2] [] p3) [⟨.Name x px, iter, [], 0⟩] scope gpos) X.env) :: backTo pos (starEach [] X.env))) _ _ s
  refine Calls.spliced_cons (gen_items hr TB hT1 hT2 hcode S hi hs I h fun v H1 now => ?_)
  obtain ⟨a, xs, rfl, hq, tab, scal, fin⟩ := now
  refine ⟨a, xs, _, rfl, hq, tab, whole_elt W I.mod hr hk scal, fun g z poised => Calls.spliced_nil ?_⟩
  obtain ⟨fp, wr, G, F, St, walks, st0, truth, after⟩ := poised
  refine call_all_walkS (walks.self 0 _ _ _ st0 ⟨g, fp, wr, G, _, F, St, _, rfl, walks, st0, truth, fun z' mv => ?_⟩)
  obtain ⟨H2, ext, tb, J⟩ := after z' mv
  refine ⟨.bl _, H2, J, rfl, ?_⟩
  rw [all_at xs wholeV]
  exact fin H2 ext tb
/-- a statement that is never come to -/
theorem ps_dead {X : Cx} {st : Stmt} : PS X st (fun _ _ _ => False) := ⟨fun _ _ _ _ _ _ h => h.elim⟩
end
/-! ### min of a tuple of numbers -/
def rMinT (K : PySem.W.Frag) : List V → Hp → VK → Prop := fun xs H Q => ∃ (a : Addr) (ns : List Int), xs = [.ref a] ∧ SqT K H a (ns.map V.int) ∧ ns ≠ [] ∧ ∀ m, m ∈ ns → (∀ y ∈ ns, m ≤ y) → Q (.int m) H
theorem cr_minT {X : Cx} (K : PySem.W.Frag) (hk : X.K = K) (hc : X.calm = true) : CallR X (.builtin "min") (rMinT K) := by
  subst hk
  intro pins s σ H xs us Q I r h
  obtain ⟨a, ns, rfl, hs, ne, q⟩ := h
  obtain ⟨its, rv, hl, _⟩ := I.tuple hs
  rw [Vals.ref1 r]
  have ln : its.length = ns.length := by rw [← rv.length, List.length_map]
  have pos : 0 < ns.length := List.length_pos_iff.mpr ne
  have size : its.toArray.size = ns.length := by rw [List.size_toArray, ln]
  refine PySem.call_min_walkH (PySem.W.iter_tupleW (A := X.A.in1) (I.ok.hd hc) hl fun z e W st low out up => ?_)
  refine ⟨_, _, _, _, _, _, _, s.heap, (fun i j => decide (ns.getD i 0 < ns.getD j 0)), rfl, W, st, low, by rw [size]; exact pos, out, up, fun i j vi vj s3 Q3 E3 _ p1 p2 q3 => ?_, fun v s' hP m => ?_⟩
  · exact (CmpOf.ints_lt (fun i => ns.getD i 0) (ints_val rv)) i j vi vj s3 Q3 E3 p1 p2 q3
  · obtain ⟨h', tk, rfl, old⟩ := PySem.W.moved_old e rfl m
    obtain ⟨t, rfl⟩ := ints_val rv _ v hP
    obtain ⟨h1, h2⟩ := argBest_lt (fun i => ns.getD i 0) (its.toArray.size - 1)
    have get : ∀ j, j < ns.length → ns.getD j 0 ∈ ns := fun j jl => by
      rw [List.getD_eq_getElem?_getD, List.getElem?_eq_getElem jl]
      exact List.getElem_mem _
    refine ⟨.int _, H, I.kept old, ⟨_, rfl⟩, q _ (get _ (by omega)) fun y hy => ?_⟩
    obtain ⟨j, hj⟩ := List.getElem?_of_mem hy
    have jl := (List.getElem?_eq_some_iff.mp hj).1
    have := h2 j (by omega)
    rwa [show ns.getD j 0 = y by rw [List.getD_eq_getElem?_getD, hj]; rfl] at this
abbrev levL (n : Nat) (lv : Nat → Int) : List V := (List.range n).map fun p => V.int (lv p)
theorem rg_at {n p : Nat} {f : Nat → V} (h : p < n) : ((List.range n).map f)[p]? = some (f p) := by
  rw [List.getElem?_map, List.getElem?_range h]; rfl
/-- a belt's trays, shifts gone -/
def trS (sh : Nat → Int) (b : BR) : Int := (b.th.length : Int) + sh b.to - sh b.one
/-- shifts that are let by -/
structure Good33 (hs : List HR) (bs : List BR) (late : Int) (sh : Nat → Int) : Prop where
  ins : ∀ k ∈ doorsOf "in" hs, sh k = 0
  outs : ∀ k ∈ doorsOf "out" hs, sh k = late
  tr : ∀ b ∈ bs, 0 ≤ trS sh b
section
variable {P : Program} {w : World} {K : PySem.W.Frag} {mg : Str → Option Value} {base : Heap}
def sp_is_whole (K : PySem.W.Frag) : Sp := fun vs H Q _ => ∃ n : Int, vs = [.int n] ∧ Q (.bl true) H
theorem ok_is_whole {f : Addr} {fd : FuncData} (F : Fun K "is_whole" "is_whole" s_is_whole f fd) (T : Top K mg) : FnOk P w K mg base CX0 1 f fd ["thing"] (sp_is_whole K) := by
  refine F.ok sc_is_whole (fun vs H Q E h => ?_) (fun cdv A outer s H vs Q E hr h => ?_)
  · obtain ⟨n, rfl, _⟩ := h
    rfl
  obtain ⟨n, rfl, q⟩ := h
  refine ⟨_, (pss_one (ps_ret (pe_and (pe_callB (call_isiKK K rfl) (by rfl) T.m_isinstance (by decide +kernel) (pa_cons (pv 0) (pa_cons (pe_bltn (v := .ty "int") (by rfl) T.m_int (by decide +kernel) rfl) pa_nil))) (pe_one (pe_not (pe_callB (call_isiKK K rfl) (by rfl) T.m_isinstance (by decide +kernel) (pa_cons (pv 0) (pa_cons (pe_bltn (v := .ty "bool") (by rfl) T.m_bool (by decide +kernel) rfl) pa_nil)))))))), ?_⟩
  refine ⟨_, rfl, _, _, _, _, true, rfl, .ty "int", .base (.int _), kit_ty (by decide +kernel), _, rfl, if_bl (fun _ => ?_) (fun z => nomatch z)⟩
  exact ⟨_, rfl, _, _, _, _, false, rfl, .ty "bool", .base (.int _), kit_ty (by decide +kernel), _, rfl, q⟩
theorem genS_of {env : Env} {scope : Scope} {x : Str} (h1 : scope.kind = .function) (h2 : scope.isCoroutine = false) (h3 : ∀ y ∈ scope.names, y.2 ≠ .cell) (h4 : scope.names.lookup (".0" : Str) = some NameKind.local) (h5 : scope.names.lookup x = some .local) (h6 : ∀ y ∈ scope.names, y.2 ≠ .free) : GxR.GenS env scope x :=
  ⟨h1, h2, h3, h4, h5, fun y hy z => absurd z (h6 y hy)⟩
theorem iw_def : IsWholeDef (defBody s_is_whole) (defScope s_is_whole) "thing" := ⟨⟨_, _, _, _, _, _, _, _, _, _, _, rfl⟩, rfl, rfl, rfl, rfl, rfl, rfl, rfl, by decide⟩
section
variable {cG : Addr} {PT : Addr × Addr} [TI : TabI K mg base cG PT]
include TI
def sp_is_shifts (K : PySem.W.Frag) (PT : Addr × Addr) : Sp := fun vs H Q _ => ∃ (r sl : Addr) (hs : List HR) (bs : List BR) (m : Nat) (sh : Nat → Int), vs = [.ref r, .ref sl] ∧ RoomAt H r hs bs ∧ RoomOk hs bs ∧ H sl = some (.tup (levL m sh)) ∧ LamX.Tabs (TL PT) H ∧ ∀ H', LamX.ExtN H H' → LamX.Tabs (TL PT) H' → Q (.bl (decide (m = hs.length))) H'
theorem ok_is_shifts {f : Addr} {fd : FuncData} (F : Fun K "is_shifts" "is_shifts" s_is_shifts f fd) (hcd : fd.code = .ref cG) (T : Top K mg) : FnOk P w K mg base CX0 2 f fd ["room", "thing"] (sp_is_shifts K PT) := by
  obtain ⟨f_is_whole, fd_is_whole, F_is_whole, b_is_whole, m_is_whole⟩ := T.d_is_whole
  have G_is_whole := ok_is_whole (P := P) (w := w) (base := base) F_is_whole T
  refine ok_code F hcd sc_is_shifts (fun vs H Q E h => ?_) (fun A outer s H vs Q E hr h => ?_)
  · obtain ⟨r, sl, hs, bs, m, sh, rfl, _⟩ := h
    rfl
  obtain ⟨r, sl, hs, bs, m, sh, rfl, hR, ok, hsl, tg, q⟩ := h
  obtain ⟨ha, ba, hv, bv, er, eh, eb, alh, alb⟩ := hR.ex
  have lhv := alh.length
  have lh := ok.hands
  have lsl : (levL m sh).length = m := by rw [List.length_map, List.length_range]
  refine ⟨_, (pss_cons (ps_if (PW.pt (pw_or (pt_not (pt_val (pe_callB (call_isiKK K rfl) (by rfl) T.m_isinstance (by decide +kernel) (pa_cons (pv 1) (pa_cons (pe_bltn (v := .ty "tuple") (by rfl) T.m_tuple (by decide +kernel) rfl) pa_nil))))) (pw_or1 (pt_cmpR op_ne (pe_callB (call_len_seqK K rfl) (by rfl) T.m_len (by decide +kernel) (pa_cons (pv 1) pa_nil)) (pe_callB (call_len_seqK K rfl) (by rfl) T.m_len (by decide +kernel) (pa_cons (pe_ix (ix_tupK K rfl) (pv 0) pe_int (fun _ _ => rfl)) pa_nil)) (nomark _))))) (pss_one (ps_ret pe_bl)) pss_nil)
      (pss_one (ps_ret (pe_allW K rfl hr (by decide) (by rfl) T.m_all (by decide +kernel) TI.tb rfl (List.mem_cons_of_mem _ (List.mem_cons_self ..)) (fun q hq e => tl_one2 TI.ne hq e) (genS_of rfl rfl (by decide +kernel) rfl rfl (by decide +kernel)) (pv 1) ⟨F_is_whole, iw_def, b_is_whole, m_is_whole, T.m_isinstance, T.m_int, T.m_bool, rfl, rfl, rfl, by decide, by decide⟩ (fun _ => rfl))))), ?_⟩
  refine ⟨_, rfl, _, _, _, _, true, rfl, .ty "tuple", .base (.tup hsl), kit_ty (by decide +kernel), _, rfl, if_bl (fun z => nomatch z) (fun _ => ?_)⟩
  refine ⟨_, rfl, sl, _, rfl, .inr (SqT.of hsl), _, rfl, r, _, _, _, rfl, rfl, SqT.of er, atI_nat (j := 0) rfl, ha, _, rfl, .inr (SqT.of eh), rfl, _, rfl, ?_⟩
  refine if_bl (fun z => ?_) (fun z => ?_)
  · have z : (!decide (V.int (((levL m sh).length : Nat) : Int) = V.int ((hv.length : Nat) : Int))) = true := z
    have ne : m ≠ hs.length := fun e => by
      rw [decide_eq_true (by rw [lsl, lhv, e])] at z
      cases z
    have := q H (LamX.ExtN.refl H) tg
    rw [decide_eq_false ne] at this
    exact this
  have em : m = hs.length := by
    refine Classical.byContradiction fun ne => ?_
    have z : (!decide (V.int (((levL m sh).length : Nat) : Int) = V.int ((hv.length : Nat) : Int))) = false := z
    rw [decide_eq_false fun e => ne (by have := V.int.inj e; rw [lsl, lhv] at this; omega)] at z
    cases z
  refine ⟨_, rfl, sl, _, rfl, SqT.of hsl, tg, fun y hy => ?_, fun H2 ext tb => ?_⟩
  · obtain ⟨p, _, rfl⟩ := List.mem_map.mp hy
    exact ⟨true, rfl⟩
  · have each : ((levL m sh).all fun y => (wholeV y).getD false) = true := List.all_eq_true.mpr fun y hy => by
      obtain ⟨p, _, rfl⟩ := List.mem_map.mp hy
      rfl
    rw [each]
    have := q H2 ext tb
    rw [decide_eq_true em] at this
    exact this
end
def sp_trays_moved (K : PySem.W.Frag) : Sp := fun vs H Q _ => ∃ (r sl : Addr) (hs : List HR) (bs : List BR) (sh : Nat → Int), vs = [.ref r, .ref sl] ∧ RoomAt H r hs bs ∧ RoomOk hs bs ∧ H sl = some (.tup (levL hs.length sh)) ∧
  ∀ (p : Addr) (H' : Hp), H p = none → H' p = some (.lst (bs.map fun b => V.int (trS sh b))) → Same H H' → Q (.ref p) H'
theorem ok_trays_moved {f : Addr} {fd : FuncData} (F : Fun K "trays_moved" "trays_moved" s_trays_moved f fd) (T : Top K mg) : FnOk P w K mg base CX0 1 f fd ["room", "shifts"] (sp_trays_moved K) := by
  refine F.ok sc_trays_moved (fun vs H Q E h => ?_) (fun cdv A outer s H vs Q E hr h => ?_)
  · obtain ⟨r, sl, hs, bs, sh, rfl, _⟩ := h
    rfl
  obtain ⟨r, sl, hs, bs, sh, rfl, hR, ok, hsl, q⟩ := h
  obtain ⟨ha, ba, hv, bv, er, eh, eb, alh, alb⟩ := hR.ex
  have lbv := alb.length
  have lb := ok.many
  refine ⟨_, (pss_one (ps_ret (pe_lc (own := [("giver", 2), ("taker", 3), ("things", 4)]) (g := gTup K 3 (gCons (gName 2) (gCons (gName 3) (gCons (gName 4) gNil)))) (tt := tYes) (by rfl) sc_trays_moved.nd (pi_tupK K rfl (pe_ix (ix_tupK K rfl) (pv 0) pe_int (fun _ _ => rfl))) (blkOk_by (own := [("giver", 2), ("taker", 3), ("things", 4)]) (N := N_trays_moved) (sc := defScope s_trays_moved) (by decide +kernel)) (fun _ _ _ _ _ => (pg_tupK K rfl rfl (pgs_cons (pg_name (i := 2) sc_trays_moved.nd rfl (Or.inl rfl)) (pgs_cons (pg_name (i := 3) sc_trays_moved.nd rfl (Or.inl rfl)) (pgs_cons (pg_name (i := 4) sc_trays_moved.nd rfl (Or.inl rfl)) pgs_nil))))) (fun _ _ _ _ _ => pts_nil) (fun _ _ _ _ _ => (pe_op op_sub (pe_op op_add (pe_callB (call_len_seqK K rfl) (by rfl) T.m_len (by decide +kernel) (pa_cons (pv 4) pa_nil)) (pe_ix (ix_tupK K rfl) (pv 1) (pv 3) (fun _ _ => rfl))) (pe_ix (ix_tupK K rfl) (pv 1) (pv 2) (fun _ _ => rfl))))))), ?_⟩
  refine ⟨_, rfl, r, _, _, _, rfl, rfl, SqT.of er, atI_nat (j := 1) rfl, ba, rfl, ⟨_, SqT.of eb⟩, fun D nD => lc_tup (K := K) (a := ba) (xs := bv) (fun i H5 => H5 D = some (.lst ((bs.take i).map fun b => V.int (trS sh b))) ∧ Same H H5) ⟨upd_same, same_new nD⟩ (fun i H5 _ ⟨_, s5⟩ => SqT.of (s5 _ _ eb)) ?_ ?_⟩
  · rintro i x H5 hx ⟨hD, s5⟩
    obtain ⟨b, ebi, ⟨t, g, rfl, e1, e2⟩⟩ := alb.getL hx
    have il := (List.getElem?_eq_some_iff.mp ebi).1
    obtain ⟨l1, l2⟩ := ok.ends b (List.mem_of_getElem? ebi)
    refine ⟨t, _, rfl, SqT.of (s5 _ _ e1), rfl, ?_⟩
    refine ⟨_, _, rfl, ?_⟩
    refine ⟨_, _, rfl, ?_⟩
    refine ⟨_, _, rfl, rfl, ?_⟩
    refine ⟨rfl, ?_⟩
    refine yes_in ?_
    refine ⟨_, rfl, g, _, rfl, .inr (SqT.of (s5 _ _ e2)), _, rfl, _, rfl, sl, _, _, _, rfl, rfl, SqT.of (s5 _ _ hsl), atI_nat (rg_at l2), _, _, rfl, rfl, _, rfl, _, rfl, sl, _, _, _, rfl, rfl, SqT.of (s5 _ _ hsl), atI_nat (rg_at l1), _, _, rfl, rfl, _, hD, by rw [List.length_map, List.length_take]; exact small1000 (by omega), ?_, Same.own s5 nD⟩
    rw [upd_same, List.take_add_one, ebi, List.map_append, List.length_map]
    rfl
  · rintro H5 ⟨hD, s5⟩
    rw [lbv, List.take_length] at hD
    exact q D H5 nD hD s5
theorem door_lt {z : Str} {hs : List HR} {k : Nat} (h : k ∈ doorsOf z hs) : k < hs.length := by
  obtain ⟨_, e, _⟩ := mem_doors.mp h
  exact (List.getElem?_eq_some_iff.mp e).1
/-- doors that lie wrong -/
abbrev wrI (hs : List HR) (sh : Nat → Int) : List Nat := (doorsOf "in" hs).filter fun k => !decide (sh k = 0)
abbrev wrO (hs : List HR) (late : Int) (sh : Nat → Int) : List Nat := (doorsOf "out" hs).filter fun k => !decide (sh k = late)
def sp_wrong_door (K : PySem.W.Frag) : Sp := fun vs H Q _ => ∃ (r sl : Addr) (hs : List HR) (bs : List BR) (late : Int) (sh : Nat → Int), vs = [.ref r, .int late, .ref sl] ∧ RoomAt H r hs bs ∧ RoomOk hs bs ∧ H sl = some (.tup (levL hs.length sh)) ∧
  (∀ H', wrI hs sh ++ wrO hs late sh = [] → Same H H' → Q .non H') ∧ ∀ (k : Nat) (H' : Hp), k ∈ wrI hs sh ++ wrO hs late sh → (∀ j ∈ wrI hs sh ++ wrO hs late sh, k ≤ j) → Same H H' → Q (nV k) H'
theorem ne_dec {a b : Int} : (!decide (V.int a = V.int b)) = !decide (a = b) := by
  by_cases z : a = b
  · rw [z, decide_eq_true rfl, decide_eq_true rfl]
  · rw [decide_eq_false z, decide_eq_false fun y => z (V.int.inj y)]
theorem take_filt {p : Nat → Bool} {l : List Nat} {i k : Nat} (e : l[i]? = some k) : (l.take (i + 1)).filter p = (l.take i).filter p ++ if p k = true then [k] else [] := by
  rw [List.take_add_one, e, List.filter_append]
  show _ ++ [k].filter p = _
  rw [List.filter_cons, List.filter_nil]
theorem filt_few {p : Nat → Bool} {l : List Nat} {i : Nat} (h : l.length ≤ 12) : (((l.take i).filter p).map nV).length < sizeLine := by
  rw [List.length_map]
  have h1 := List.length_filter_le p (l.take i)
  rw [List.length_take] at h1
  exact small1000 (by omega)
theorem doors_few {z : Str} {hs : List HR} (h : hs.length ≤ 12) : (doorsOf z hs).length ≤ 12 := by
  unfold doorsOf
  refine Nat.le_trans (List.length_filter_le ..) ?_
  rw [List.length_range]
  exact h
theorem ok_wrong_door {f : Addr} {fd : FuncData} (F : Fun K "wrong_door" "wrong_door" s_wrong_door f fd) (T : Top K mg) : FnOk P w K mg base CX0 2 f fd ["room", "late", "shifts"] (sp_wrong_door K) := by
  obtain ⟨f_doors_in, fd_doors_in, F_doors_in, b_doors_in, m_doors_in⟩ := T.d_doors_in
  have G_doors_in := ok_doors_in (P := P) (w := w) (base := base) F_doors_in T
  obtain ⟨f_doors_out, fd_doors_out, F_doors_out, b_doors_out, m_doors_out⟩ := T.d_doors_out
  have G_doors_out := ok_doors_out (P := P) (w := w) (base := base) F_doors_out T
  refine F.ok sc_wrong_door (fun vs H Q E h => ?_) (fun cdv A outer s H vs Q E hr h => ?_)
  · obtain ⟨r, sl, hs, bs, late, sh, rfl, _⟩ := h
    rfl
  obtain ⟨r, sl, hs, bs, late, sh, rfl, hR, ok, hsl, q1, q2⟩ := h
  have lh := ok.hands
  let R1 : TS := fun D' σ' H' => D'.rt = Q ∧ ∃ (wl : Addr), σ' = [some (.ref r), some (.int late), some (.ref sl), some (.ref wl), none] ∧ H' wl = some (.lst ((wrI hs sh).map nV)) ∧ H wl = none ∧ Same H H'
  let R2 : TS := fun D' σ' H' => D'.rt = Q ∧ ∃ (wl : Addr), σ' = [some (.ref r), some (.int late), some (.ref sl), some (.ref wl), none] ∧ H' wl = some (.lst ((wrI hs sh ++ wrO hs late sh).map nV)) ∧ Same H H'
  refine ⟨_, (pss_cons (ps_setLc (i := 3) (own := [("door", 4)]) (g := gName 4) (by rfl) sc_wrong_door.nd rfl rfl (sw_true rfl rfl rfl (by decide +kernel)) (pi_listK K rfl (pe_call G_doors_in (hr.mono (by decide)) (by rfl) m_doors_in F_doors_in.kp b_doors_in .nil pass0 (pa_cons (pv 0) pa_nil))) (blkOk_by (own := [("door", 4)]) (N := N_wrong_door) (sc := defScope s_wrong_door) (by decide +kernel)) (fun _ _ _ _ _ => (pg_name (i := 4) sc_wrong_door.nd rfl (Or.inl rfl))) (fun _ _ _ _ _ => pts_one (pt_cmpR op_ne (pe_ix (ix_tupK K rfl) (pv 2) (pv 4) (fun _ _ => rfl)) pe_int (nomark _))) (fun _ _ _ _ _ => (pv 4)))
      (PSs.to (pss_cons (ps_expr (pe_bmK K rfl PySem.F.plainAttrs_list PySem.F.slot_list_extend PySem.F.type_list_extend mt_extend (pv 3) (pa_cons (pe_lc (own := [("door", 4)]) (g := gName 4) (by rfl) sc_wrong_door.nd (pi_listK K rfl (pe_call G_doors_out (hr.mono (by decide)) (by rfl) m_doors_out F_doors_out.kp b_doors_out .nil pass0 (pa_cons (pv 0) pa_nil))) (blkOk_by (own := [("door", 4)]) (N := N_wrong_door) (sc := defScope s_wrong_door) (by decide +kernel)) (fun _ _ _ _ _ => (pg_name (i := 4) sc_wrong_door.nd rfl (Or.inl rfl))) (fun _ _ _ _ _ => pts_one (pt_cmpR op_ne (pe_ix (ix_tupK K rfl) (pv 2) (pv 4) (fun _ _ => rfl)) (pv 1) (nomark _))) (fun _ _ _ _ _ => (pv 4))) pa_nil)))
      (PSs.to (pss_one (ps_ret (pe_callBK (cr_minDf K rfl rfl) (by rfl) T.m_min (by decide +kernel) (pa_cons (pv 3) pa_nil) (pk_cons pe_non pk_nil)))) R2 ?tail2)) R1 ?tail1)), ?_⟩
  case tail2 =>
    rintro D' σ' H1 ⟨eD, wl, rfl, hw, s1⟩
    have en : (wrI hs sh ++ wrO hs late sh).map nV = ((wrI hs sh ++ wrO hs late sh).map fun k => ((k : Nat) : Int)).map V.int := by rw [List.map_map]; rfl
    refine ⟨_, rfl, wl, (wrI hs sh ++ wrO hs late sh).map fun k => ((k : Nat) : Int), _, rfl, rfl, SqL.of (by rw [← en]; exact hw), fun e => ?_, fun m hm hle => ?_⟩
    · rw [eD]
      exact q1 H1 (List.map_eq_nil_iff.mp e) s1
    · obtain ⟨k, hk, rfl⟩ := List.mem_map.mp hm
      rw [eD]
      exact q2 k H1 hk (fun j hj => by have := hle _ (List.mem_map.mpr ⟨j, hj, rfl⟩); omega) s1
  case tail1 =>
    rintro D' σ' H1 ⟨eD, wl, rfl, hw, nw, s1⟩
    refine ⟨_, rfl, .inl ⟨rfl, _, SqL.of hw⟩, ?_⟩
    refine ⟨_, rfl, r, hs, bs, rfl, hR.keep (TK.same s1), by omega, ok.good, fun p H2 np hp s2 => ⟨p, rfl, ⟨_, SqL.of hp⟩, fun D nD => lc_list (K := K) (a := p) (xs := (doorsOf "out" hs).map nV) (fun i H5 => H5 D = some (.lst ((((doorsOf "out" hs).take i).filter fun k => !decide (sh k = late)).map nV)) ∧ Same H2 H5) ⟨upd_same, same_new nD⟩ (fun i H5 _ ⟨_, s5⟩ => SqL.of (s5 _ _ hp)) ?_ ?_⟩⟩
    · rintro i x H5 hx ⟨hD, s5⟩
      obtain ⟨k, ek, rfl⟩ := nats_at hx
      have km := List.mem_of_getElem? ek
      refine ⟨rfl, _, rfl, _, rfl, sl, _, _, _, rfl, rfl, SqT.of (((s1.trans s2).trans s5) _ _ hsl), atI_nat (rg_at (door_lt km)), _, rfl, rfl, _, rfl, ?_⟩
      rw [ne_dec]
      refine if_bl (fun z => ⟨_, rfl, _, hD, filt_few (doors_few lh), ?_, Same.own s5 nD⟩) (fun z => ⟨?_, s5⟩)
      · rw [upd_same, take_filt ek, if_pos z, List.map_append]; rfl
      · rw [take_filt ek, if_neg (by rw [z]; exact Bool.false_ne_true), List.append_nil]; exact hD
    · rintro H5 ⟨hD, s5⟩
      rw [List.length_map, List.take_length] at hD
      have hw5 := (s2.trans s5) _ _ hw
      have d1 := doors_few (z := "in") lh
      have d2 := doors_few (z := "out") lh
      have f1 : (wrI hs sh).length ≤ (doorsOf "in" hs).length := List.length_filter_le ..
      have f2 : (wrO hs late sh).length ≤ (doorsOf "out" hs).length := List.length_filter_le ..
      refine ⟨wl, D, _, _, rfl, rfl, hw5, hD, by rw [List.length_map, List.length_map]; exact little (show (wrI hs sh).length + (wrO hs late sh).length ≤ 1000 by omega), ?_⟩
      exact ⟨eD, wl, rfl, by rw [upd_same, List.map_append], Same.own ((s1.trans s2).trans s5) nw⟩
  refine ⟨_, rfl, r, hs, bs, rfl, hR, by omega, ok.good, fun p H1 np hp s1 => ⟨p, rfl, ⟨_, SqL.of hp⟩, fun D nD => lc_list (K := K) (a := p) (xs := (doorsOf "in" hs).map nV) (fun i H5 => H5 D = some (.lst ((((doorsOf "in" hs).take i).filter fun k => !decide (sh k = 0)).map nV)) ∧ Same H1 H5) ⟨upd_same, same_new nD⟩ (fun i H5 _ ⟨_, s5⟩ => SqL.of (s5 _ _ hp)) ?_ ?_⟩⟩
  · rintro i x H5 hx ⟨hD, s5⟩
    obtain ⟨k, ek, rfl⟩ := nats_at hx
    have km := List.mem_of_getElem? ek
    refine ⟨rfl, _, rfl, _, rfl, sl, _, _, _, rfl, rfl, SqT.of ((s1.trans s5) _ _ hsl), atI_nat (rg_at (door_lt km)), rfl, _, rfl, ?_⟩
    rw [ne_dec]
    refine if_bl (fun z => ⟨_, rfl, _, hD, filt_few (doors_few lh), ?_, Same.own s5 nD⟩) (fun z => ⟨?_, s5⟩)
    · rw [upd_same, take_filt ek, if_pos z, List.map_append]; rfl
    · rw [take_filt ek, if_neg (by rw [z]; exact Bool.false_ne_true), List.append_nil]; exact hD
  · rintro H5 ⟨hD, s5⟩
    rw [List.length_map, List.take_length] at hD
    exact ⟨rfl, D, rfl, hD, same_none s1 nD, s1.trans s5⟩
def sp_short_belt (K : PySem.W.Frag) : Sp := fun vs H Q _ => ∃ (r sl : Addr) (hs : List HR) (bs : List BR) (sh : Nat → Int), vs = [.ref r, .ref sl] ∧ RoomAt H r hs bs ∧ RoomOk hs bs ∧ H sl = some (.tup (levL hs.length sh)) ∧
  (∀ H', (∀ b ∈ bs, 0 ≤ trS sh b) → Same H H' → Q .non H') ∧ ∀ (j : Nat) (b : BR) (H' : Hp), bs[j]? = some b → trS sh b < 0 → (∀ i b', i < j → bs[i]? = some b' → 0 ≤ trS sh b') → Same H H' → Q (nV j) H'
theorem ok_short_belt {f : Addr} {fd : FuncData} (F : Fun K "short_belt" "short_belt" s_short_belt f fd) (T : Top K mg) : FnOk P w K mg base CX0 2 f fd ["room", "shifts"] (sp_short_belt K) := by
  obtain ⟨f_trays_moved, fd_trays_moved, F_trays_moved, b_trays_moved, m_trays_moved⟩ := T.d_trays_moved
  have G_trays_moved := ok_trays_moved (P := P) (w := w) (base := base) F_trays_moved T
  refine F.ok sc_short_belt (fun vs H Q E h => ?_) (fun cdv A outer s H vs Q E hr h => ?_)
  · obtain ⟨r, sl, hs, bs, sh, rfl, _⟩ := h
    rfl
  obtain ⟨r, sl, hs, bs, sh, rfl, hR, ok, hsl, q1, q2⟩ := h
  refine ⟨_, (pss_cons (ps_for PassesOwn.never rfl (pi_enum (by rfl) T.m_enumerate (pa_cons (pe_call G_trays_moved (hr.mono (by decide)) (by rfl) m_trays_moved F_trays_moved.kp b_trays_moved .nil pass0 (pa_cons (pv 0) (pa_cons (pv 1) pa_nil))) pa_nil)) (pg_tupK K rfl rfl (pgs_cons (pg_name (i := 2) sc_short_belt.nd rfl (Or.inl rfl)) (pgs_cons (pg_name (i := 3) sc_short_belt.nd rfl (Or.inl rfl)) pgs_nil)))
        (pss_one (ps_if (pt_cmpR op_lt (pv 3) pe_int (nomark _)) (pss_one (ps_ret (pv 2))) pss_nil)))
      (pss_one (ps_ret pe_non))), ?_⟩
  refine ⟨_, rfl, _, rfl, r, sl, hs, bs, sh, rfl, hR, ok, hsl, fun p H1 np hp s1 => ?_⟩
  refine ⟨p, _, rfl, SqL.of hp, for_it (J := Ite K p) (n := bs.length) (fun i σ H5 => ∃ v2 v3 : Option V, σ = [some (.ref r), some (.ref sl), v2, v3] ∧ (∀ i' b', i' < i → bs[i']? = some b' → 0 ≤ trS sh b') ∧ Same H1 H5) ⟨none, none, rfl, (fun _ _ z => absurd z (Nat.not_lt_zero _)), fun _ _ e => e⟩ (fun i σ H5 hi ⟨_, _, _, _, s5⟩ => ⟨_, _, SqL.of (s5 _ _ hp), by rw [List.getElem?_map, List.getElem?_eq_getElem hi]; rfl⟩) (fun σ H5 ⟨_, _, _, _, s5⟩ => ⟨_, SqL.of (s5 _ _ hp), by rw [List.length_map]; exact Nat.le_refl _⟩) ?_ ?_⟩
  · rintro i x σ H5 H6 hi ⟨v2, v3, rfl, low, s5⟩ ⟨t, y, rfl, nt, rfl, ey⟩
    have ey := ey _ (SqL.of (s5 _ _ hp))
    have ei : bs[i]? = some bs[i] := List.getElem?_eq_getElem hi
    rw [List.getElem?_map, ei] at ey
    obtain rfl : V.int (trS sh bs[i]) = y := Option.some.inj ey
    have s6 := s5.trans (same_new (o := .tup [V.int ((i : Nat) : Int), V.int (trS sh bs[i])]) nt)
    refine ⟨t, _, rfl, SqT.of upd_same, rfl, _, _, rfl, _, _, rfl, rfl, _, rfl, _, _, rfl, rfl, _, rfl, if_bl (fun z => ?_) (fun z => ?_)⟩
    · exact ⟨_, rfl, q2 i _ _ ei (of_decide_eq_true z) low (s1.trans s6)⟩
    · have z : ¬ trS sh bs[i] < 0 := of_decide_eq_false z
      refine ⟨_, _, rfl, fun i' b' l e => ?_, s6⟩
      by_cases w : i' = i
      · subst w
        rw [ei] at e
        cases e
        omega
      · exact low i' b' (by omega) e
  · rintro σ H5 ⟨v2, v3, rfl, low, s5⟩
    refine q1 H5 (fun b hb => ?_) (s1.trans s5)
    obtain ⟨j, ej⟩ := List.getElem?_of_mem hb
    exact low j b (List.getElem?_eq_some_iff.mp ej).1 ej
end
section
variable {P : Program} {w : World} {K : PySem.W.Frag} {mg : Str → Option Value} {base : Heap} {cG : Addr} {PT : Addr × Addr} [TI : TabI K mg base cG PT]
include TI
/-- why shifts of the right length are refused -/
def Ref34 (hs : List HR) (bs : List BR) (late : Int) (sh : Nat → Int) (wd : Str) (k : Nat) : Prop := (wd = "door" ∧ k ∈ wrI hs sh ++ wrO hs late sh ∧ ∀ j ∈ wrI hs sh ++ wrO hs late sh, k ≤ j) ∨
  (wd = "belt" ∧ wrI hs sh ++ wrO hs late sh = [] ∧ ∃ b, bs[k]? = some b ∧ trS sh b < 0 ∧ ∀ i b', i < k → bs[i]? = some b' → 0 ≤ trS sh b')
omit TI in
theorem wr_none {hs : List HR} {late : Int} {sh : Nat → Int} (e : wrI hs sh ++ wrO hs late sh = []) : (∀ k ∈ doorsOf "in" hs, sh k = 0) ∧ ∀ k ∈ doorsOf "out" hs, sh k = late := by
  obtain ⟨e1, e2⟩ := List.append_eq_nil_iff.mp e
  refine ⟨fun k hk => ?_, fun k hk => ?_⟩
  · refine Classical.byContradiction fun z => ?_
    have : k ∈ wrI hs sh := List.mem_filter.mpr ⟨hk, by rw [decide_eq_false z]; rfl⟩
    rw [e1] at this
    cases this
  · refine Classical.byContradiction fun z => ?_
    have : k ∈ wrO hs late sh := List.mem_filter.mpr ⟨hk, by rw [decide_eq_false z]; rfl⟩
    rw [e2] at this
    cases this
def sp_look_shifts (K : PySem.W.Frag) (PT : Addr × Addr) : Sp := fun vs H Q E => ∃ (r sl : Addr) (hs : List HR) (bs : List BR) (m : Nat) (late : Int) (sh : Nat → Int), vs = [.ref r, .int late, .ref sl] ∧ RoomAt H r hs bs ∧ RoomOk hs bs ∧ H sl = some (.tup (levL m sh)) ∧ LamX.Tabs (TL PT) H ∧
  (∀ (d t : Addr) (H' : Hp), m ≠ hs.length → H' d = some (.xd [("at", .ref t), ("word", .str "form")]) → H' t = some (.tup []) → LamX.Tabs (TL PT) H' → LamX.ExtN H H' → E (.ref (nsA K)) (some d) H') ∧
  (∀ H', m = hs.length → Good33 hs bs late sh → LamX.Tabs (TL PT) H' → LamX.ExtN H H' → Q (.bl true) H') ∧
  ∀ (d t : Addr) (wd : Str) (k : Nat) (H' : Hp), m = hs.length → Ref34 hs bs late sh wd k → H' d = some (.xd [("at", .ref t), ("word", .str wd)]) → H' t = some (.tup [nV k]) → LamX.Tabs (TL PT) H' → LamX.ExtN H H' → E (.ref (nsA K)) (some d) H'
theorem ok_look_shifts {f : Addr} {fd : FuncData} (F : Fun K "look_shifts" "look_shifts" s_look_shifts f fd) (T : Top K mg) : FnOk P w K mg base (L2.CX P w) 4 f fd ["room", "late", "shifts"] (sp_look_shifts K PT) := by
  obtain ⟨f_refuse_shifts, fd_refuse_shifts, F_refuse_shifts, b_refuse_shifts, m_refuse_shifts⟩ := T.d_refuse_shifts
  have G_refuse_shifts := ok_refuse_shifts (P := P) (w := w) (base := base) F_refuse_shifts T
  obtain ⟨f_is_shifts, fd_is_shifts, F_is_shifts, b_is_shifts, m_is_shifts⟩ := T.d_is_shifts
  have G_is_shifts := ok_is_shifts (P := P) (w := w) (base := base) F_is_shifts (TI.cd _ _ F_is_shifts m_is_shifts) T
  obtain ⟨f_wrong_door, fd_wrong_door, F_wrong_door, b_wrong_door, m_wrong_door⟩ := T.d_wrong_door
  have G_wrong_door := ok_wrong_door (P := P) (w := w) (base := base) F_wrong_door T
  obtain ⟨f_short_belt, fd_short_belt, F_short_belt, b_short_belt, m_short_belt⟩ := T.d_short_belt
  have G_short_belt := ok_short_belt (P := P) (w := w) (base := base) F_short_belt T
  obtain ⟨fdI, N⟩ := T.x_ns
  have GI := ok_NsInit (P := P) (w := w) (base := base) N
  refine F.okX sc_look_shifts (fun vs H Q E h => ?_) (fun cdv A outer s H vs Q E hr h => ?_)
  · obtain ⟨r, sl, hs, bs, m, late, sh, rfl, _⟩ := h
    rfl
  obtain ⟨r, sl, hs, bs, m, late, sh, rfl, hR, ok, hsl, tg, q0, q1, q2⟩ := h
  refine ⟨_, (pss_cons (ps_if (pt_not (pt_val (pe_call G_is_shifts (hr.mono (by decide)) (by rfl) m_is_shifts F_is_shifts.kp b_is_shifts .nil pass0 (pa_cons (pv 0) (pa_cons (pv 2) pa_nil))))) (pss_one (ps_raise rfl (takes_of rfl rfl rfl rfl) (pmk_oex N.T N.iC N.tI GI (hr.mono (by decide)) N.b .nil pass0 rfl N.gC (pa_cons pe_str (pa_cons (pe_tup pa_nil) pa_nil))))) pss_nil)
      (pss_cons (ps_expr (pe_callS G_refuse_shifts (hr.mono (by decide)) (by rfl) m_refuse_shifts F_refuse_shifts.kp b_refuse_shifts (fun σ => passAt (takes_of rfl rfl rfl rfl) σ) (pa_cons pe_str (pa_cons (pe_call G_wrong_door (hr.mono (by decide)) (by rfl) m_wrong_door F_wrong_door.kp b_wrong_door .nil pass0 (pa_cons (pv 0) (pa_cons (pv 1) (pa_cons (pv 2) pa_nil)))) pa_nil))))
      (pss_cons (ps_expr (pe_callS G_refuse_shifts (hr.mono (by decide)) (by rfl) m_refuse_shifts F_refuse_shifts.kp b_refuse_shifts (fun σ => passAt (takes_of rfl rfl rfl rfl) σ) (pa_cons pe_str (pa_cons (pe_call G_short_belt (hr.mono (by decide)) (by rfl) m_short_belt F_short_belt.kp b_short_belt .nil pass0 (pa_cons (pv 0) (pa_cons (pv 2) pa_nil))) pa_nil))))
      (pss_one (ps_ret pe_bl))))), ?_⟩
  refine ⟨_, rfl, _, rfl, r, sl, hs, bs, m, sh, rfl, hR, ok, hsl, tg, fun H1 ext tb => ?_⟩
  have k1 := ExtN.tk ext
  have hsl1 := k1 _ _ hsl
  have hR1 := hR.keep k1
  by_cases em : m = hs.length
  case neg =>
    rw [decide_eq_false em]
    refine ⟨_, rfl, if_bl (fun _ => ?_) (fun z => nomatch z)⟩
    refine ⟨(by show 0 ≤ sizeLine; decide), fun t nt => ⟨by show 2 ≤ 1000; decide, fun a na => ?_⟩⟩
    have s1 := same_new (o := .tup []) nt
    have ht : (upd H1 t (.tup [])) t = some (.tup []) := upd_same
    generalize upd H1 t (.tup []) = H2 at s1 ht na ⊢
    refine ⟨a, .str "form", .ref t, rfl, upd_same, fun d nd da => ⟨rfl, d, _, by rw [upd_ne da.symm, upd_same], upd_same, ?_, ?_⟩⟩
    · rw [upd_ne da] at nd; exact nd
    · have nd1 : H2 d = none := by rw [upd_ne da] at nd; exact nd
      have keep : Same H2 (upd (del (upd (upd (upd (upd H2 a (exo a (nsA K) none)) d (exd d [("word", V.str "form")])) a (exo a (nsA K) (some d))) d (exd d [("at", V.ref t), ("word", V.str "form")])) a) d (.xd [("at", V.ref t), ("word", V.str "form")])) := fun b o e => by
        have b1 : b ≠ a := ne_of_none e na
        have b2 : b ≠ d := ne_of_none e nd1
        rw [upd_ne b2, del_ne b1, upd_ne b2, upd_ne b1, upd_ne b2, upd_ne b1]
        exact e
      exact q0 d t _ em upd_same (keep _ _ ht) (tabs_same tb (s1.trans keep)) (ext.trans (ExtN.same (s1.trans keep)))
  rw [decide_eq_true em]
  rw [em] at hsl1
  refine ⟨_, rfl, if_bl (fun z => nomatch z) (fun _ => ?_)⟩
  refine ⟨_, rfl, _, rfl, _, rfl, r, sl, hs, bs, late, sh, rfl, hR1, ok, hsl1, fun H2 e2 s2 => ?_, fun k H2 km kl s2 => ?_⟩
  · refine ⟨_, _, rfl, fun _ => ?_, .inr rfl, fun _ _ _ z => absurd rfl z⟩
    refine ⟨_, rfl, _, rfl, r, sl, hs, bs, sh, rfl, hR1.keep (TK.same s2), ok, s2 _ _ hsl1, fun H3 nn s3 => ?_, fun j b H3 ej neg low s3 => ?_⟩
    · refine ⟨_, _, rfl, fun _ => ?_, .inr rfl, fun _ _ _ z => absurd rfl z⟩
      obtain ⟨d1, d2⟩ := wr_none e2
      exact q1 H3 em ⟨d1, d2, nn⟩ (tabs_same tb (s2.trans s3)) (ext.trans (ExtN.same (s2.trans s3)))
    · refine ⟨_, _, rfl, (fun z => nomatch z), .inl ⟨j, rfl⟩, fun d t H4 _ hd ht s4 => ?_⟩
      exact q2 d t "belt" j H4 em (.inr ⟨rfl, e2, b, ej, neg, low⟩) hd ht (tabs_same tb ((s2.trans s3).trans s4)) (ext.trans (ExtN.same ((s2.trans s3).trans s4)))
  · refine ⟨_, _, rfl, (fun z => nomatch z), .inl ⟨k, rfl⟩, fun d t H4 _ hd ht s4 => ?_⟩
    exact q2 d t "door" k H4 em (.inl ⟨rfl, km, kl⟩) hd ht (tabs_same tb (s2.trans s4)) (ext.trans (ExtN.same (s2.trans s4)))
end
theorem log_sm {n : Nat} (h : n ≤ 1000) : ((n : Nat) : Int).natAbs.log2 < 9000 := by
  rw [Int.natAbs_natCast]
  exact Nat.lt_of_le_of_lt (Nat.log2_le_self n) (by omega)
theorem lev_len {n : Nat} {sh : Nat → Int} : (levL n sh).length = n := by rw [List.length_map, List.length_range]
theorem lev_set33 {n k : Nat} {sh : Nat → Int} {v : Int} (h : k < n) : ((levL n sh).take k ++ [V.int v]) ++ (levL n sh).drop (k + 1) = levL n (fun p => if p = k then v else sh p) := by
  have lt : ((levL n sh).take k).length = k := by rw [List.length_take, lev_len]; omega
  refine List.ext_getElem? fun i => ?_
  by_cases il : i < n
  · rw [rg_at (f := fun p => V.int (if p = k then v else sh p)) il]
    by_cases c1 : i < k
    · rw [List.append_assoc, List.getElem?_append_left (by omega), List.getElem?_take_of_lt c1, rg_at il, if_neg (by omega)]
    · by_cases c2 : i = k
      · subst c2
        rw [List.append_assoc, List.getElem?_append_right (by omega), lt, Nat.sub_self, if_pos rfl]
        rfl
      · rw [List.getElem?_append_right (by rw [List.length_append, lt]; show k + 1 ≤ i; omega), List.length_append, lt, List.getElem?_drop]
        show (levL n sh)[k + 1 + (i - (k + 1))]? = _
        rw [show k + 1 + (i - (k + 1)) = i by omega, rg_at il, if_neg c2]
  · rw [List.getElem?_eq_none (by rw [List.length_append, List.length_append, lt, List.length_drop, lev_len]; show k + 1 + (n - (k + 1)) ≤ i; omega), List.getElem?_eq_none (by rw [lev_len]; omega)]
theorem abs20 {a : Int} (h : decide ((if a < 0 then -a else a) ≤ 20) = true) : -20 ≤ a ∧ a ≤ 20 := by
  have := of_decide_eq_true h
  split at this <;> omega
def Bd (n : Int) (sh : Nat → Int) : Prop := ∀ k, -n ≤ sh k ∧ sh k ≤ n
theorem one_eqv (h : HR) (z : Str) : PyData.eqv (.tuple [.str z]) (.tuple (ruleD h)) = (decide (h.wd = z) && h.no.isNone) := by
  obtain ⟨wd, no, mom⟩ := h
  have e : (z == wd) = decide (wd = z) := by
    by_cases k : wd = z
    · rw [k, decide_eq_true rfl]; exact beq_self_eq_true z
    · rw [decide_eq_false k]; exact beq_eq_false_iff_ne.mpr fun y => k y.symm
  cases no with
  | none => show (z == wd && true) = (decide (wd = z) && true); rw [e]
  | some n => show (z == wd && false) = (decide (wd = z) && false); rw [Bool.and_false, Bool.and_false]
section
variable {P : Program} {w : World} {K : PySem.W.Frag} {mg : Str → Option Value} {base : Heap}
def sp_law_trays (K : PySem.W.Frag) : Sp := fun vs H Q _ => ∃ (r sl : Addr) (hs : List HR) (bs : List BR) (sh : Nat → Int), vs = [.ref r, .ref sl] ∧ RoomAt H r hs bs ∧ RoomOk hs bs ∧ (H sl = some (.tup (levL hs.length sh)) ∨ H sl = some (.lst (levL hs.length sh))) ∧
  ∀ (p : Addr) (H' : Hp), H p = none → H' p = some (.lst (bs.map fun b => V.int (trS sh b))) → Same H H' → Q (.ref p) H'
theorem ok_law_trays {f : Addr} {fd : FuncData} (F : Fun K "_law_trays" "_law_trays" s_law_trays f fd) (T : Top K mg) : FnOk P w K mg base CX0 1 f fd ["_law_room_here", "_law_shifts_here"] (sp_law_trays K) := by
  refine F.ok sc_law_trays (fun vs H Q E h => ?_) (fun cdv A outer s H vs Q E hr h => ?_)
  · obtain ⟨r, sl, hs, bs, sh, rfl, _⟩ := h
    rfl
  obtain ⟨r, sl, hs, bs, sh, rfl, hR, ok, hsl, q⟩ := h
  obtain ⟨ha, ba, hv, bv, er, eh, eb, alh, alb⟩ := hR.ex
  have lbv := alb.length
  have lb := ok.many
  rcases hsl with hsl | hsl
  · refine ⟨_, (pss_one (ps_ret (pe_lc (own := [("_law_one", 2), ("_law_to", 3), ("_law_things", 4)]) (g := gTup K 3 (gCons (gName 2) (gCons (gName 3) (gCons (gName 4) gNil)))) (tt := tYes) (by rfl) sc_law_trays.nd (pi_tupK K rfl (pe_ix (ix_tupK K rfl) (pv 0) pe_int (fun _ _ => rfl))) (blkOk_by (own := [("_law_one", 2), ("_law_to", 3), ("_law_things", 4)]) (N := N_law_trays) (sc := defScope s_law_trays) (by decide +kernel)) (fun _ _ _ _ _ => (pg_tupK K rfl rfl (pgs_cons (pg_name (i := 2) sc_law_trays.nd rfl (Or.inl rfl)) (pgs_cons (pg_name (i := 3) sc_law_trays.nd rfl (Or.inl rfl)) (pgs_cons (pg_name (i := 4) sc_law_trays.nd rfl (Or.inl rfl)) pgs_nil))))) (fun _ _ _ _ _ => pts_nil) (fun _ _ _ _ _ => (pe_op op_sub (pe_op op_add (pe_callB (call_len_seqK K rfl) (by rfl) T.m_len (by decide +kernel) (pa_cons (pv 4) pa_nil)) (pe_ix (ix_tupK K rfl) (pv 1) (pv 3) (fun _ _ => rfl))) (pe_ix (ix_tupK K rfl) (pv 1) (pv 2) (fun _ _ => rfl))))))), ?_⟩
    refine ⟨_, rfl, r, _, _, _, rfl, rfl, SqT.of er, atI_nat (j := 1) rfl, ba, rfl, ⟨_, SqT.of eb⟩, fun D nD => lc_tup (K := K) (a := ba) (xs := bv) (fun i H5 => H5 D = some (.lst ((bs.take i).map fun b => V.int (trS sh b))) ∧ Same H H5) ⟨upd_same, same_new nD⟩ (fun i H5 _ ⟨_, s5⟩ => SqT.of (s5 _ _ eb)) ?_ ?_⟩
    · rintro i x H5 hx ⟨hD, s5⟩
      obtain ⟨b, ebi, ⟨t, g, rfl, e1, e2⟩⟩ := alb.getL hx
      have il := (List.getElem?_eq_some_iff.mp ebi).1
      obtain ⟨l1, l2⟩ := ok.ends b (List.mem_of_getElem? ebi)
      refine ⟨t, _, rfl, SqT.of (s5 _ _ e1), rfl, ?_⟩
      refine ⟨_, _, rfl, ?_⟩
      refine ⟨_, _, rfl, ?_⟩
      refine ⟨_, _, rfl, rfl, ?_⟩
      refine ⟨rfl, yes_in ?_⟩
      refine ⟨_, rfl, g, _, rfl, .inr (SqT.of (s5 _ _ e2)), _, rfl, _, rfl, sl, _, _, _, rfl, rfl, SqT.of (s5 _ _ hsl), atI_nat (rg_at l2), _, _, rfl, rfl, _, rfl, _, rfl, sl, _, _, _, rfl, rfl, SqT.of (s5 _ _ hsl), atI_nat (rg_at l1), _, _, rfl, rfl, _, hD, by rw [List.length_map, List.length_take]; exact small1000 (by omega), ?_, Same.own s5 nD⟩
      rw [upd_same, List.take_add_one, ebi, List.map_append, List.length_map]
      rfl
    · rintro H5 ⟨hD, s5⟩
      rw [lbv, List.take_length] at hD
      exact q D H5 nD hD s5
  · refine ⟨_, (pss_one (ps_ret (pe_lc (own := [("_law_one", 2), ("_law_to", 3), ("_law_things", 4)]) (g := gTup K 3 (gCons (gName 2) (gCons (gName 3) (gCons (gName 4) gNil)))) (tt := tYes) (by rfl) sc_law_trays.nd (pi_tupK K rfl (pe_ix (ix_tupK K rfl) (pv 0) pe_int (fun _ _ => rfl))) (blkOk_by (own := [("_law_one", 2), ("_law_to", 3), ("_law_things", 4)]) (N := N_law_trays) (sc := defScope s_law_trays) (by decide +kernel)) (fun _ _ _ _ _ => (pg_tupK K rfl rfl (pgs_cons (pg_name (i := 2) sc_law_trays.nd rfl (Or.inl rfl)) (pgs_cons (pg_name (i := 3) sc_law_trays.nd rfl (Or.inl rfl)) (pgs_cons (pg_name (i := 4) sc_law_trays.nd rfl (Or.inl rfl)) pgs_nil))))) (fun _ _ _ _ _ => pts_nil) (fun _ _ _ _ _ => (pe_op op_sub (pe_op op_add (pe_callB (call_len_seqK K rfl) (by rfl) T.m_len (by decide +kernel) (pa_cons (pv 4) pa_nil)) (pe_ix (ix_listK K rfl) (pv 1) (pv 3) (fun _ _ => rfl))) (pe_ix (ix_listK K rfl) (pv 1) (pv 2) (fun _ _ => rfl))))))), ?_⟩
    refine ⟨_, rfl, r, _, _, _, rfl, rfl, SqT.of er, atI_nat (j := 1) rfl, ba, rfl, ⟨_, SqT.of eb⟩, fun D nD => lc_tup (K := K) (a := ba) (xs := bv) (fun i H5 => H5 D = some (.lst ((bs.take i).map fun b => V.int (trS sh b))) ∧ Same H H5) ⟨upd_same, same_new nD⟩ (fun i H5 _ ⟨_, s5⟩ => SqT.of (s5 _ _ eb)) ?_ ?_⟩
    · rintro i x H5 hx ⟨hD, s5⟩
      obtain ⟨b, ebi, ⟨t, g, rfl, e1, e2⟩⟩ := alb.getL hx
      have il := (List.getElem?_eq_some_iff.mp ebi).1
      obtain ⟨l1, l2⟩ := ok.ends b (List.mem_of_getElem? ebi)
      refine ⟨t, _, rfl, SqT.of (s5 _ _ e1), rfl, ?_⟩
      refine ⟨_, _, rfl, ?_⟩
      refine ⟨_, _, rfl, ?_⟩
      refine ⟨_, _, rfl, rfl, ?_⟩
      refine ⟨rfl, yes_in ?_⟩
      refine ⟨_, rfl, g, _, rfl, .inr (SqT.of (s5 _ _ e2)), _, rfl, _, rfl, sl, _, _, _, rfl, rfl, SqL.of (s5 _ _ hsl), atI_nat (rg_at l2), _, _, rfl, rfl, _, rfl, _, rfl, sl, _, _, _, rfl, rfl, SqL.of (s5 _ _ hsl), atI_nat (rg_at l1), _, _, rfl, rfl, _, hD, by rw [List.length_map, List.length_take]; exact small1000 (by omega), ?_, Same.own s5 nD⟩
      rw [upd_same, List.take_add_one, ebi, List.map_append, List.length_map]
      rfl
    · rintro H5 ⟨hD, s5⟩
      rw [lbv, List.take_length] at hD
      exact q D H5 nD hD s5
/-- the law's drawn shifts: let by, and no more than twenty either way at hands -/
def sp_law_shifts (K : PySem.W.Frag) : Sp := fun vs H Q _ => ∃ (f c r : Addr) (hs : List HR) (bs : List BR) (late many : Int), vs = [.ref f, .ref r, .int late, .int many] ∧ Flow H f c ∧ RoomAt H r hs bs ∧ RoomOk hs bs ∧ (∃ h ∈ hs, h.wd ≠ "out" ∧ h.wd ≠ "in") ∧ 0 ≤ late ∧ late ≤ 6 ∧ 0 ≤ many ∧ many ≤ 100 ∧
  ∀ (p : Addr) (sh : Nat → Int) (H' : Hp), H' p = some (.tup (levL hs.length sh)) → Good33 hs bs late sh → Bd 20 sh → Flow H' f c → But f H H' → Q (.ref p) H'
theorem ok_law_shifts {f : Addr} {fd : FuncData} (F : Fun K "_law_shifts" "_law_shifts" s_law_shifts f fd) (T : Top K mg) : FnOk P w K mg base CX0 2 f fd ["_law_flow_here", "_law_room_here", "_law_late_here", "_law_many"] (sp_law_shifts K) := by
  obtain ⟨f_law_pick, fd_law_pick, F_law_pick, b_law_pick, m_law_pick⟩ := T.d_law_pick
  have G_law_pick := ok_law_pick (P := P) (w := w) (base := base) F_law_pick T
  obtain ⟨f_law_trays, fd_law_trays, F_law_trays, b_law_trays, m_law_trays⟩ := T.d_law_trays
  have G_law_trays := ok_law_trays (P := P) (w := w) (base := base) F_law_trays T
  refine F.ok sc_law_shifts (fun vs H Q E h => ?_) (fun cdv A outer s H vs Q E hr h => ?_)
  · obtain ⟨f, c, r, hs, bs, late, many, rfl, _⟩ := h
    rfl
  obtain ⟨f, c, r, hs, bs, late, many, rfl, hF, hR, ok, some1, l0, l6, m0, m1, q⟩ := h
  obtain ⟨ha, ba, hv, bv, er, eh, eb, alh, alb⟩ := hR.ex
  have lhv := alh.length
  have lh := ok.hands
  let R1 : TS := fun D' σ' H' => D'.rt = Q ∧ ∃ (fl : Addr), σ' = [some (.ref f), some (.ref r), some (.int late), some (.int many), some (.ref ha), some (.ref fl), none, none, none, none, none, none] ∧ H' fl = some (.lst (levL hs.length fun k => if hs[k]?.map HR.wd = some ("in" : Str) then 0 else late)) ∧ fl ≠ f ∧ fl ≠ c ∧ Flow H' f c ∧ But f H H'
  let R2 : TS := fun D' σ' H' => D'.rt = Q ∧ ∃ (fl gl : Addr) (fr : List Nat), σ' = [some (.ref f), some (.ref r), some (.int late), some (.int many), some (.ref ha), some (.ref fl), none, some (.ref gl), none, none, none, none] ∧ H' fl = some (.lst (levL hs.length fun k => if hs[k]?.map HR.wd = some ("in" : Str) then 0 else late)) ∧ fl ≠ f ∧ fl ≠ c ∧ H' gl = some (.lst (fr.map nV)) ∧ gl ≠ f ∧ gl ≠ c ∧ fr ≠ [] ∧ fr.length ≤ 12 ∧ (∀ k ∈ fr, k < hs.length ∧ k ∉ doorsOf "in" hs ∧ k ∉ doorsOf "out" hs) ∧ Flow H' f c ∧ But f H H'
  refine ⟨_, (pss_cons (ps_set (i := 4) sc_law_shifts.nd rfl (Or.inr rfl) (pe_ix (ix_tupK K rfl) (pv 1) pe_int (fun _ _ => rfl)))
      (pss_cons (ps_setLc (i := 5) (own := [("_law_hand", 6)]) (g := gName 6) (tt := tYes) (by rfl) sc_law_shifts.nd rfl rfl (sw_true rfl rfl rfl (by decide +kernel)) (pi_tupK K rfl (pv 4)) (blkOk_by (own := [("_law_hand", 6)]) (N := N_law_shifts) (sc := defScope s_law_shifts) (by decide +kernel)) (fun _ _ _ _ _ => (pg_name (i := 6) sc_law_shifts.nd rfl (Or.inl rfl))) (fun _ _ _ _ _ => pts_nil) (fun _ _ _ _ _ => (pe_op op_mul (pv 2) (pe_callTy call_int1 (by rfl) T.m_int (by decide +kernel) (pa_cons (pe_cmpR (op_neDK K rfl hr.units) (pe_ix (ix_tupK K rfl) (pv 6) pe_int (fun _ _ => rfl)) (pe_tup (pa_cons pe_str pa_nil)) (nomark _)) pa_nil)))))
      (PSs.to (pss_cons (ps_setLc (i := 7) (own := [("_law_k", 8)]) (g := gName 8) (by rfl) sc_law_shifts.nd rfl rfl (sw_true rfl rfl rfl (by decide +kernel)) (pi_range1 (by rfl) T.m_range (pa_cons (pe_callB (call_len_seqK K rfl) (by rfl) T.m_len (by decide +kernel) (pa_cons (pv 4) pa_nil)) pa_nil)) (blkOk_by (own := [("_law_k", 8)]) (N := N_law_shifts) (sc := defScope s_law_shifts) (by decide +kernel)) (fun _ _ _ _ _ => (pg_name (i := 8) sc_law_shifts.nd rfl (Or.inl rfl))) (fun _ _ _ _ _ => pts_one (pt_cmpR (op_notInDTK K rfl (hu65 hr)) (pe_ix (ix_tupK K rfl) (pe_ix (ix_tupK K rfl) (pv 4) (pv 8) (fun _ _ => rfl)) pe_int (fun _ _ => rfl)) (pe_tup (pa_cons (pe_tup (pa_cons pe_str pa_nil)) (pa_cons (pe_tup (pa_cons pe_str pa_nil)) pa_nil))) (by with_unfolding_all rfl))) (fun _ _ _ _ _ => (pv 8)))
      (PSs.to (pss_cons (ps_for PassesOwn.never rfl (pi_range1 (by rfl) T.m_range (pa_cons (pv 3) pa_nil)) (pg_name (i := 9) sc_law_shifts.nd rfl (Or.inl rfl))
        (pss_cons (ps_set (i := 8) sc_law_shifts.nd rfl (Or.inl rfl) (pe_ix (ix_listK K rfl) (pv 7) (pe_call G_law_pick (hr.mono (by decide)) (by rfl) m_law_pick F_law_pick.kp b_law_pick .nil pass0 (pa_cons (pv 0) (pa_cons (pe_callB (call_len_seqK K rfl) (by rfl) T.m_len (by decide +kernel) (pa_cons (pv 7) pa_nil)) pa_nil))) (fun _ _ => rfl)))
      (pss_cons (ps_set (i := 10) sc_law_shifts.nd rfl (Or.inl rfl) (pe_op op_sub pe_int (pe_op op_mul pe_int (pe_call G_law_pick (hr.mono (by decide)) (by rfl) m_law_pick F_law_pick.kp b_law_pick .nil pass0 (pa_cons (pv 0) (pa_cons pe_int pa_nil))))))
      (pss_cons (ps_set (i := 11) sc_law_shifts.nd rfl (Or.inl rfl) (pe_op op_cat (pe_op op_cat (pe_slice (sl_listK K rfl) (pv 5) po_none (po_some (pv 8))) (pe_lst (pa_cons (pe_op op_add (pe_ix (ix_listK K rfl) (pv 5) (pv 8) (fun _ _ => rfl)) (pv 10)) pa_nil))) (pe_slice (sl_listK K rfl) (pv 5) (po_some (pe_op op_add (pv 8) pe_int)) po_none)))
      (pss_one (ps_if (PW.pt (pw_and (pt_cmpR op_eq (pe_callB (cr_minKK K rfl rfl) (by rfl) T.m_min (by decide +kernel) (pa_cons (pe_op op_cat (pe_lst (pa_cons pe_int pa_nil)) (pe_call G_law_trays (hr.mono (by decide)) (by rfl) m_law_trays F_law_trays.kp b_law_trays .nil pass0 (pa_cons (pv 1) (pa_cons (pv 11) pa_nil)))) pa_nil)) pe_int (nomark _)) (pw_and1 (pt_cmpR op_le (pe_callB call_abs (by rfl) T.m_abs (by decide +kernel) (pa_cons (pe_ix (ix_listK K rfl) (pv 11) (pv 8) (fun _ _ => rfl)) pa_nil)) pe_int (nomark _))))) (pss_one (ps_set (i := 5) sc_law_shifts.nd rfl (Or.inl rfl) (pv 11))) pss_nil))))))
      (pss_one (ps_ret (pe_callTy (call_tuple_ofK K rfl) (by rfl) T.m_tuple (by decide +kernel) (pa_cons (pv 5) pa_nil))))) R2 ?tail2)) R1 ?tail1))), ?_⟩
  case tail2 =>
    rintro D' σ' H1 ⟨eD, fl, gl, fr, rfl, hfl, n1, n2, hgl, n3, n4, frne, frl, frg, F1, B1⟩
    have fpos : 0 < fr.length := List.length_pos_iff.mpr frne
    refine ⟨_, rfl, _, rfl, by omega, by omega, for_range (lo := 0) (n := many.toNat) (fun i σ H5 => ∃ (fl : Addr) (sh : Nat → Int) (v8 v9 v10 v11 : Option V), σ = [some (.ref f), some (.ref r), some (.int late), some (.int many), some (.ref ha), some (.ref fl), none, some (.ref gl), v8, v9, v10, v11] ∧ H5 fl = some (.lst (levL hs.length sh)) ∧ fl ≠ f ∧ fl ≠ c ∧ H5 gl = some (.lst (fr.map nV)) ∧ Good33 hs bs late sh ∧ Bd 20 sh ∧ Flow H5 f c ∧ But f H H5) ⟨fl, _, none, none, none, none, rfl, hfl, n1, n2, hgl, ?_, (fun k => by show (-20 : Int) ≤ (if _ then _ else _) ∧ (if _ then _ else _) ≤ (20 : Int); split <;> omega), F1, B1⟩ ?_ ?_⟩
    · refine ⟨fun j hj => ?_, fun j hj => ?_, fun b hb => ?_⟩
      · obtain ⟨h, e, w1⟩ := mem_doors.mp hj
        exact if_pos (by rw [e, ← w1]; rfl)
      · obtain ⟨h, e, w1⟩ := mem_doors.mp hj
        refine if_neg fun z => ?_
        rw [e] at z
        have z : h.wd = "in" := Option.some.inj z
        rw [z] at w1
        exact absurd w1 (by decide +kernel)
      · unfold trS
        have hto : ¬ hs[b.to]?.map HR.wd = some ("in" : Str) := fun z => by
          cases e : hs[b.to]? with
          | none => rw [e] at z; cases z
          | some h =>
            rw [e] at z
            have z : h.wd = "in" := Option.some.inj z
            have cnt := ok.count _ _ e
            rw [z, show needs "in" = 0 by decide +kernel] at cnt
            have pos := List.count_pos_iff.mpr (List.mem_map.mpr ⟨b, hb, rfl⟩ : b.to ∈ bs.map BR.to)
            omega
        show 0 ≤ (b.th.length : Int) + (if hs[b.to]?.map HR.wd = some ("in" : Str) then 0 else late) - (if hs[b.one]?.map HR.wd = some ("in" : Str) then 0 else late)
        rw [if_neg hto]
        split <;> omega
    · rintro i σ H5 hi ⟨fl, sh, v8, v9, v10, v11, rfl, hfl, n1, n2, hgl, gd, bd, F5, B5⟩
      refine ⟨_, rfl, _, rfl, _, rfl, gl, _, rfl, .inl (SqL.of hgl), f, c, _, rfl, by rw [List.length_map]; omega, by rw [List.length_map]; exact log_sm (by omega), F5, fun v H6 v0 v1 F6 B6 => ?_⟩
      rw [List.length_map] at v1
      have hgl6 := B6 _ _ hgl n3
      have hfl6 := B6 _ _ hfl n1
      obtain ⟨j, rfl⟩ : ∃ j : Nat, v = ((j : Nat) : Int) := ⟨v.toNat, by omega⟩
      have jl : j < fr.length := by omega
      have ek : (fr.map nV)[j]? = some (nV fr[j]) := by rw [List.getElem?_map, List.getElem?_eq_getElem jl]; rfl
      obtain ⟨kl, kin, kout⟩ := frg _ (List.getElem_mem jl)
      generalize fr[j] = k at ek kl kin kout
      refine ⟨gl, _, _, _, rfl, rfl, SqL.of hgl6, atI_nat ek, ?_⟩
      refine ⟨_, rfl, f, c, _, rfl, by decide, by decide +kernel, F6, fun v2 H7 w0 w1 F7 B7 => ?_⟩
      have hfl7 := B7 _ _ hfl6 n1
      refine ⟨_, _, rfl, rfl, .inl ⟨by decide, by decide⟩, _, _, rfl, rfl, ?_⟩
      show tSeq _ _ _ [some (.ref f), some (.ref r), some (.int late), some (.int many), some (.ref ha), some (.ref fl), none, some (.ref gl), some (nV k), some (.int (0 + ((i : Nat) : Int))), some (.int (1 - 2 * v2)), v11] H7
      generalize 1 - 2 * v2 = step
      have kc : cutV (levL hs.length sh) none (some ((k : Nat) : Int)) = (levL hs.length sh).take k := cut_take _ _
      have kd : cutV (levL hs.length sh) (some (((k : Nat) : Int) + 1)) none = (levL hs.length sh).drop (k + 1) := by rw [show ((k : Nat) : Int) + 1 = ((k + 1 : Nat) : Int) by omega, cut_drop]
      refine ⟨_, rfl, ?_⟩
      dsimp only [tNoPart]
      refine ⟨_, rfl, _, rfl, fl, _, rfl, SqL.of hfl7, fun p1 np1 => ?_⟩
      have t1 := same_new (o := .lst (cutV (levL hs.length sh) none (some ((k : Nat) : Int)))) np1
      refine ⟨_, rfl, _, rfl, fl, _, _, _, rfl, rfl, SqL.of (t1 _ _ hfl7), atI_nat (rg_at kl), _, rfl, _, _, rfl, rfl, (by show 1 ≤ sizeLine; decide), fun p2 np2 => ?_⟩
      have t2 := same_new (o := .lst [V.int (sh k + step)]) np2
      refine ⟨p1, p2, _, _, rfl, rfl, t2 _ _ upd_same, upd_same, by rw [kc, List.length_take, lev_len]; exact little (by show _ + 1 ≤ 1000; omega), fun p3 np3 => ?_⟩
      have t3 := same_new (o := .lst (cutV (levL hs.length sh) none (some ((k : Nat) : Int)) ++ [V.int (sh k + step)])) np3
      refine ⟨_, rfl, _, rfl, _, _, rfl, rfl, _, rfl, fl, _, rfl, SqL.of (((t1.trans t2).trans t3) _ _ hfl7), fun p4 np4 => ?_⟩
      have t4 := same_new (o := .lst (cutV (levL hs.length sh) (some (((k : Nat) : Int) + 1)) none)) np4
      refine ⟨p3, p4, _, _, rfl, rfl, t4 _ _ upd_same, upd_same, by rw [kc, kd, List.length_append, List.length_take, List.length_drop, lev_len]; exact little (by show _ + 1 + _ ≤ 1000; omega), fun p5 np5 => ?_⟩
      have t5 := same_new (o := .lst ((cutV (levL hs.length sh) none (some ((k : Nat) : Int)) ++ [V.int (sh k + step)]) ++ cutV (levL hs.length sh) (some (((k : Nat) : Int) + 1)) none)) np5
      have F8 := F7.same (((t1.trans t2).trans t3).trans t4)
      have tt := (((t1.trans t2).trans t3).trans t4).trans t5
      have new := upd_same (H := upd (upd (upd (upd H7 p1 (.lst (cutV (levL hs.length sh) none (some ((k : Nat) : Int))))) p2 (.lst [V.int (sh k + step)])) p3 (.lst (cutV (levL hs.length sh) none (some ((k : Nat) : Int)) ++ [V.int (sh k + step)]))) p4 (.lst (cutV (levL hs.length sh) (some (((k : Nat) : Int) + 1)) none))) (a := p5) (o := .lst ((cutV (levL hs.length sh) none (some ((k : Nat) : Int)) ++ [V.int (sh k + step)]) ++ cutV (levL hs.length sh) (some (((k : Nat) : Int) + 1)) none))
      rw [kc, kd, lev_set33 kl] at new
      have nf := F8.ne np5
      have nc := F8.nec np5
      have F9 := F8.new (o := .lst ((cutV (levL hs.length sh) none (some ((k : Nat) : Int)) ++ [V.int (sh k + step)]) ++ cutV (levL hs.length sh) (some (((k : Nat) : Int) + 1)) none)) np5
      have B9 := ((B5.trans B6).trans B7).same tt
      have hgl9 := tt _ _ (B7 _ _ hgl6 n3)
      have hfl9 := tt _ _ hfl7
      rw [kc, kd, lev_set33 kl] at *
      generalize upd _ p5 _ = H9 at new F9 B9 hgl9 hfl9 ⊢
      have hR9 := hR.keep (TK.but hF B9)
      obtain ⟨sn, esn⟩ : ∃ sn : Nat → Int, sn = fun p => if p = k then sh k + step else sh p := ⟨_, rfl⟩
      rw [← esn] at new
      have okn : (∀ b ∈ bs, 0 ≤ trS sn b) → Good33 hs bs late sn := fun tr => ⟨fun j hj => by rw [esn]; show (if j = k then _ else _) = _; rw [if_neg (fun z : j = k => kin (z ▸ hj))]; exact gd.ins j hj, fun j hj => by rw [esn]; show (if j = k then _ else _) = _; rw [if_neg (fun z : j = k => kout (z ▸ hj))]; exact gd.outs j hj, tr⟩
      show tIfS _ _ _ _ [some (.ref f), some (.ref r), some (.int late), some (.int many), some (.ref ha), some (.ref fl), none, some (.ref gl), some (nV k), some (.int (0 + ((i : Nat) : Int))), some (.int step), some (.ref p5)] H9
      refine ⟨(by show 1 ≤ sizeLine; decide), fun z0 nz0 => ?_⟩
      have u1 := same_new (o := .lst [V.int 0]) nz0
      refine ⟨_, rfl, _, rfl, r, p5, hs, bs, sn, rfl, hR9.keep (TK.same u1), ok, .inr (u1 _ _ new), fun pt H10 npt hpt u2 => ?_⟩
      have lbs := ok.many
      refine ⟨z0, pt, _, _, rfl, rfl, u2 _ _ upd_same, hpt, by show 1 + _ ≤ sizeLine; rw [List.length_map]; exact little (by omega), fun p7 np7 => ?_⟩
      have u3 := same_new (o := .lst ([V.int 0] ++ bs.map fun b => V.int (trS sn b))) np7
      have u := (u1.trans u2).trans u3
      refine ⟨p7, 0 :: bs.map (trS sn), rfl, SqL.of (by rw [upd_same, List.map_cons, List.map_map]; rfl), by simp, fun m hm hle => ?_⟩
      refine ⟨rfl, _, rfl, if_bl (fun z => ?_) (fun z => ?_)⟩
      · have m0 : m = 0 := V.int.inj (of_decide_eq_true z)
        subst m0
        have hgd : Good33 hs bs late sn := okn fun b hb => hle _ (List.mem_cons_of_mem _ (List.mem_map.mpr ⟨b, hb, rfl⟩))
        refine ⟨_, rfl, _, rfl, p5, _, _, _, rfl, rfl, SqL.of (u _ _ new), atI_nat (rg_at kl), _, rfl, _, _, rfl, rfl, _, rfl, if_bl (fun zz => ?_) (fun _ => ?_)⟩
        · have zb : -20 ≤ sn k ∧ sn k ≤ 20 := abs20 zz
          have bn : Bd 20 sn := fun j => by
            by_cases ej : j = k
            · rw [ej]; exact zb
            · rw [esn]; show -20 ≤ (if j = k then _ else _) ∧ (if j = k then _ else _) ≤ 20; rw [if_neg ej]; exact bd j
          exact ⟨_, rfl, p5, sn, _, _, _, _, rfl, u _ _ new, nf, nc, u _ _ hgl9, hgd, bn, F9.same u, B9.same u⟩
        · exact ⟨fl, sh, _, _, _, _, rfl, u _ _ hfl9, n1, n2, u _ _ hgl9, gd, bd, F9.same u, B9.same u⟩
      · exact ⟨fl, sh, _, _, _, _, rfl, u _ _ hfl9, n1, n2, u _ _ hgl9, gd, bd, F9.same u, B9.same u⟩
    · rintro σ H5 ⟨fl, sh, v8, v9, v10, v11, rfl, hfl, n1, n2, hgl, gd, bd, F5, B5⟩
      refine ⟨_, rfl, fl, _, rfl, .inl ⟨SqL.of hfl, fun p np => ?_⟩⟩
      rw [eD]
      exact q p sh _ upd_same gd bd (F5.new np) (B5.new np)
  case tail1 =>
    rintro D' σ' H1 ⟨eD, fl, rfl, hfl, n1, n2, F1, B1⟩
    have k1 := TK.but hF B1
    have alh1 := alh.imp fun _ _ z => z.keep k1
    refine ⟨_, rfl, ha, _, rfl, .inr (SqT.of (k1 _ _ eh)), _, rfl, by omega, by omega, fun D nD => lc_range (lo := 0) (n := hv.length) (fun i H5 => H5 D = some (.lst (((List.range i).filter fun k => decide (hs[k]?.map HR.wd ≠ some ("in" : Str) ∧ hs[k]?.map HR.wd ≠ some ("out" : Str))).map nV)) ∧ Same H1 H5) ⟨upd_same, same_new nD⟩ ?_ ?_⟩
    · rintro i H5 hi ⟨hD, s5⟩
      obtain ⟨hh, ehi, ⟨t, rr, ex, e1, e2⟩⟩ := alh1.getL (List.getElem?_eq_getElem hi)
      have gh := ok.good _ (List.mem_of_getElem? ehi)
      have few := filt_len (p := fun k => decide (hs[k]?.map HR.wd ≠ some ("in" : Str) ∧ hs[k]?.map HR.wd ≠ some ("out" : Str))) i
      refine ⟨rfl, _, rfl, _, rfl, ha, _, _, _, rfl, rfl, SqT.of (s5 _ _ (k1 _ _ eh)), at0 (List.getElem?_eq_getElem hi), ?_⟩
      rw [ex]
      refine ⟨t, _, _, _, rfl, rfl, SqT.of (s5 _ _ e1), atI_nat (j := 0) rfl, (by show 1 ≤ sizeLine; decide), fun o1 no1 => ⟨(by show 1 ≤ sizeLine; decide), fun o2 no2 => ⟨(by show 2 ≤ sizeLine; decide), fun o3 no3 => ?_⟩⟩⟩
      have t1 := same_new (o := .tup [V.str "in"]) no1
      have t2 := same_new (o := .tup [V.str "out"]) no2
      have t3 := same_new (o := .tup [V.ref o1, V.ref o2]) no3
      have s6 := ((s5.trans t1).trans t2).trans t3
      refine ⟨.tuple (ruleD hh), [.tuple [.str "in"], .tuple [.str "out"]], rule_dp (s6 _ _ e2), .tup (SqT.of upd_same) (.cons (.tup (SqT.of ((t2.trans t3) _ _ upd_same)) (.cons (.str _) .nil)) (.cons (.tup (SqT.of (t3 _ _ upd_same)) (.cons (.str _) .nil)) .nil)), rule_shaped gh.lay, by decide +kernel, _, rfl, ?_⟩
      have hD6 := ((t1.trans t2).trans t3) _ _ hD
      have val : ([PyData.tuple [.str "in"], .tuple [.str "out"]].any fun z => PyData.eqv z (.tuple (ruleD hh))) = (decide (hh.wd = "in") || decide (hh.wd = "out")) := by
        rw [List.any_cons, List.any_cons, List.any_nil, Bool.or_false, one_eqv, one_eqv, gh.door "in" (.inl rfl), gh.door "out" (.inr rfl)]
      rw [val]
      by_cases cc : hh.wd ≠ "in" ∧ hh.wd ≠ "out"
      · rw [decide_eq_false cc.1, decide_eq_false cc.2]
        refine if_bl (fun _ => ⟨_, rfl, _, hD6, by rw [List.length_map]; exact small1000 (by omega), ?_, Same.own s6 nD⟩) (fun z => nomatch z)
        rw [upd_same, filt_succ, if_pos (decide_eq_true ⟨by rw [ehi]; exact fun z => cc.1 (Option.some.inj z), by rw [ehi]; exact fun z => cc.2 (Option.some.inj z)⟩), List.map_append, Int.zero_add]
        rfl
      · have v2 : (decide (hh.wd = "in") || decide (hh.wd = "out")) = true := by
          by_cases a : hh.wd = "in"
          · rw [decide_eq_true a]; rfl
          · rw [decide_eq_true (Classical.byContradiction fun z => cc ⟨a, z⟩ : hh.wd = "out"), Bool.or_true]
        rw [v2]
        refine if_bl (fun z => nomatch z) (fun _ => ⟨?_, s6⟩)
        rw [filt_succ, if_neg (fun z => cc (by have := of_decide_eq_true z; rw [ehi] at this; exact ⟨fun y => this.1 (congrArg some y), fun y => this.2 (congrArg some y)⟩)), List.append_nil]
        exact hD6
    · rintro H5 ⟨hD, s5⟩
      have few := filt_len (p := fun k => decide (hs[k]?.map HR.wd ≠ some ("in" : Str) ∧ hs[k]?.map HR.wd ≠ some ("out" : Str))) hv.length
      refine ⟨eD, fl, D, _, rfl, s5 _ _ hfl, n1, n2, hD, F1.ne nD, F1.nec nD, ?_, by omega, fun k hk => ?_, F1.same s5, B1.same s5⟩
      · obtain ⟨h, hm, w1, w2⟩ := some1
        obtain ⟨j, ej⟩ := List.getElem?_of_mem hm
        have jl := (List.getElem?_eq_some_iff.mp ej).1
        exact List.ne_nil_of_mem (List.mem_filter.mpr ⟨List.mem_range.mpr (lhv ▸ jl), decide_eq_true ⟨by rw [ej]; exact fun z => w2 (Option.some.inj z), by rw [ej]; exact fun z => w1 (Option.some.inj z)⟩⟩)
      · obtain ⟨k1, k2⟩ := List.mem_filter.mp hk
        have k2 := of_decide_eq_true k2
        refine ⟨lhv ▸ List.mem_range.mp k1, fun z => ?_, fun z => ?_⟩
        · obtain ⟨h, e, w⟩ := mem_doors.mp z
          exact k2.1 (by rw [e, ← w]; rfl)
        · obtain ⟨h, e, w⟩ := mem_doors.mp z
          exact k2.2 (by rw [e, ← w]; rfl)
  refine ⟨_, rfl, r, _, _, _, rfl, rfl, SqT.of er, atI_nat (j := 0) rfl, ?_⟩
  refine ⟨_, rfl, ha, rfl, ⟨_, SqT.of eh⟩, fun D nD => lc_tup (K := K) (a := ha) (xs := hv) (fun i H5 => H5 D = some (.lst ((List.range i).map fun k => V.int (if hs[k]?.map HR.wd = some ("in" : Str) then 0 else late))) ∧ Same H H5) ⟨upd_same, same_new nD⟩ (fun i H5 _ ⟨_, s5⟩ => SqT.of (s5 _ _ eh)) ?_ ?_⟩
  · rintro i x H5 hx ⟨hD, s5⟩
    obtain ⟨hh, ehi, ⟨t, rr, rfl, e1, e2⟩⟩ := alh.getL hx
    have gh := ok.good _ (List.mem_of_getElem? ehi)
    refine ⟨rfl, yes_in ⟨_, rfl, _, rfl, t, _, _, _, rfl, rfl, SqT.of (s5 _ _ e1), atI_nat (j := 0) rfl, (by show 1 ≤ sizeLine; decide), fun o1 no1 => ?_⟩⟩
    have s6 := s5.trans (same_new (o := .tup [V.str "in"]) no1)
    refine ⟨_, _, rule_dp (s6 _ _ e2), .tup (SqT.of upd_same) (.cons (.str _) .nil), rule_shaped gh.lay, one_shaped (by decide +kernel), ?_⟩
    refine .inr ⟨_, rfl, _, _, rfl, rfl, ?_⟩
    rw [rule_eqv, gh.door "in" (.inl rfl)]
    have sm : ∀ z : Int, z = 0 ∨ z = 1 → CMul late z := fun z hz => by
      have a1 : -(2 ^ 64 : Int) < 0 := by decide
      have a2 : (6 : Int) < 2 ^ 64 := by decide
      exact .inl ⟨by omega, by omega⟩
    have hD6 := same_new (o := .tup [V.str "in"]) no1 _ _ hD
    have il := (List.getElem?_eq_some_iff.mp ehi).1
    by_cases cc : hh.wd = "in"
    · rw [decide_eq_true cc]
      refine ⟨sm _ (.inl rfl), _, hD6, by rw [List.length_map, List.length_range]; exact small1000 (by omega), ?_, Same.own s6 nD⟩
      rw [upd_same, List.range_succ, List.map_append]
      show some (HO.lst (_ ++ [V.int (late * 0)])) = some (HO.lst (_ ++ [V.int (if hs[i]?.map HR.wd = some ("in" : Str) then 0 else late)]))
      rw [ehi, if_pos (by rw [← cc]; rfl), Int.mul_zero]
    · rw [decide_eq_false cc]
      refine ⟨sm _ (.inr rfl), _, hD6, by rw [List.length_map, List.length_range]; exact small1000 (by omega), ?_, Same.own s6 nD⟩
      rw [upd_same, List.range_succ, List.map_append]
      show some (HO.lst (_ ++ [V.int (late * 1)])) = some (HO.lst (_ ++ [V.int (if hs[i]?.map HR.wd = some ("in" : Str) then 0 else late)]))
      rw [ehi, if_neg (show ¬ Option.map HR.wd (some hh) = some ("in" : Str) from fun z => cc (Option.some.inj z)), Int.mul_one]
  · rintro H5 ⟨hD, s5⟩
    have F5 := hF.same s5
    exact ⟨rfl, D, rfl, by rw [hD, lhv], hF.ne nD, hF.nec nD, F5, fun b o e _ => s5 b o e⟩
end
/-! ### rooms with one tray where there are some -/
def wtB (sh : Nat → Int) (b : BR) : BR := { b with th := if trS sh b = 0 then [] else [0] }
theorem wt_at {sh : Nat → Int} {bs : List BR} {n : Nat} : (bs.map (wtB sh))[n]? = (bs[n]?).map (wtB sh) := List.getElem?_map
theorem wt_end {sh : Nat → Int} {bs : List BR} : ∀ {ns : List Nat} {k : Nat}, wayEnd (bs.map (wtB sh)) k ns = wayEnd bs k ns
  | [], _ => rfl
  | n :: ns, k => by
    show (match (bs.map (wtB sh))[n]? with | some b => if b.one = k then wayEnd (bs.map (wtB sh)) b.to ns else none | none => none) = (match bs[n]? with | some b => if b.one = k then wayEnd bs b.to ns else none | none => none)
    rw [wt_at]
    cases bs[n]? with
    | none => rfl
    | some b =>
      show (if b.one = k then wayEnd (bs.map (wtB sh)) b.to ns else none) = _
      rw [wt_end]
theorem wt_to {sh : Nat → Int} {bs : List BR} {n : Nat} : toB (bs.map (wtB sh)) n = toB bs n := by
  unfold toB
  rw [wt_at]
  cases bs[n]? <;> rfl
theorem wt_mom {hs : List HR} {sh : Nat → Int} {bs : List BR} {k : Nat} {ns : List Nat} : momW hs (bs.map (wtB sh)) k ns = momW hs bs k ns := by
  unfold momW
  congr 2
  exact List.map_congr_left fun n _ => by rw [wt_to]
/-- a way over belts that are empty, moved so -/
def Zw (bs : List BR) (sh : Nat → Int) (ns : List Nat) : Prop := ∀ n ∈ ns, ∀ b, bs[n]? = some b → trS sh b = 0
theorem wt_zw {sh : Nat → Int} {bs : List BR} {ns : List Nat} : (∀ n ∈ ns, trB (bs.map (wtB sh)) n = 0) ↔ Zw bs sh ns := by
  have one : ∀ n, trB (bs.map (wtB sh)) n = 0 ↔ ∀ b, bs[n]? = some b → trS sh b = 0 := fun n => by
    unfold trB
    rw [wt_at]
    cases e : bs[n]? with
    | none => exact ⟨(fun _ _ z => nomatch z), fun _ => rfl⟩
    | some b =>
      show (((if trS sh b = 0 then ([] : List Int) else [0]).length : Nat) : Int) = 0 ↔ _
      by_cases c : trS sh b = 0
      · rw [if_pos c]
        exact ⟨fun _ b' z => (by cases z; exact c), fun _ => rfl⟩
      · rw [if_neg c]
        exact ⟨fun z => (nomatch (show (1 : Int) = 0 from z)), fun z => absurd (z b rfl) c⟩
  exact ⟨fun h n hn => (one n).mp (h n hn), fun h n hn => (one n).mpr (h n hn)⟩
theorem rk_bound (rk : Nat → Int) : ∀ n : Nat, ∃ B : Int, 0 ≤ B ∧ ∀ k, k < n → -B ≤ rk k ∧ rk k ≤ B
  | 0 => ⟨0, Int.le_refl _, fun _ z => absurd z (Nat.not_lt_zero _)⟩
  | n + 1 => by
    obtain ⟨B, b0, h⟩ := rk_bound rk n
    refine ⟨B + (if 0 ≤ rk n then rk n else -rk n), by split <;> omega, fun k hk => ?_⟩
    by_cases e : k = n
    · subst e
      split <;> omega
    · have := h k (by omega)
      split <;> omega
theorem wt_rank {hs : List HR} {bs : List BR} {sh : Nat → Int} (ok : RoomOk hs bs) : ∃ rk : Nat → Int, ∀ b ∈ bs, trS sh b = 0 → rk b.one < rk b.to := by
  obtain ⟨rk, hrk⟩ := ok.rank
  obtain ⟨B, b0, hB⟩ := rk_bound rk hs.length
  refine ⟨fun k => rk k - (2 * B + 1) * sh k, fun b hb z => ?_⟩
  obtain ⟨o1, o2⟩ := ok.ends b hb
  have h1 := hB _ o1
  have h2 := hB _ o2
  unfold trS at z
  show rk b.one - (2 * B + 1) * sh b.one < rk b.to - (2 * B + 1) * sh b.to
  have e : sh b.one = sh b.to + (b.th.length : Int) := by omega
  rw [e, Int.mul_add]
  cases et : b.th with
  | nil =>
    have := hrk b hb et
    show rk b.one - ((2 * B + 1) * sh b.to + (2 * B + 1) * 0) < _
    omega
  | cons x l =>
    have p : 0 ≤ (2 * B + 1) * (l.length : Int) := Int.mul_nonneg (by omega) (Int.natCast_nonneg _)
    have e2 : (2 * B + 1) * (((x :: l).length : Nat) : Int) = (2 * B + 1) * (l.length : Int) + (2 * B + 1) := by
      rw [List.length_cons, show (((l.length + 1 : Nat)) : Int) = (l.length : Int) + 1 by omega, Int.mul_add, Int.mul_one]
    rw [e2]
    omega
theorem wt_ok {hs : List HR} {bs : List BR} {sh : Nat → Int} (ok : RoomOk hs bs) : RoomOk hs (bs.map (wtB sh)) := by
  have mem : ∀ b' ∈ bs.map (wtB sh), ∃ b ∈ bs, b' = wtB sh b := fun b' h => by
    obtain ⟨b, hb, e⟩ := List.mem_map.mp h
    exact ⟨b, hb, e.symm⟩
  refine ⟨ok.hands, ok.good, fun b' h => ?_, fun b' h => ?_, fun b' h => ?_, ?_, fun k h e => ?_, by rw [List.length_map]; exact ok.many⟩
  · obtain ⟨b, hb, rfl⟩ := mem b' h
    exact ok.ends b hb
  · obtain ⟨b, hb, rfl⟩ := mem b' h
    exact ok.out b hb
  · obtain ⟨b, hb, rfl⟩ := mem b' h
    refine ⟨?_, trivial⟩
    show (if trS sh b = 0 then ([] : List Int) else [0]).length ≤ 300
    split <;> decide
  · obtain ⟨rk, hrk⟩ := wt_rank (sh := sh) ok
    refine ⟨rk, fun b' h z => ?_⟩
    obtain ⟨b, hb, rfl⟩ := mem b' h
    refine hrk b hb ?_
    have z : (if trS sh b = 0 then ([] : List Int) else [0]) = [] := z
    by_cases c : trS sh b = 0
    · exact c
    · rw [if_neg c] at z; cases z
  · rw [List.map_map]
    exact ok.count k h e
/-- each way without trays, moved so, has at most so many moments -/
def TimeLe (hs : List HR) (bs : List BR) (sh : Nat → Int) (T : Int) : Prop := ∀ one ns e, one < hs.length → wayEnd bs one ns = some e → Zw bs sh ns → momW hs bs one ns ≤ T
theorem TimeLe.nn {hs : List HR} {bs : List BR} {sh : Nat → Int} {T : Int} (h : TimeLe hs bs sh T) (ok : RoomOk hs bs) (pos : 0 < hs.length) : 0 ≤ T := by
  have a := h 0 [] 0 pos rfl fun _ z => nomatch z
  have b : 0 ≤ momH hs 0 := by
    unfold momH
    rw [List.getElem?_eq_getElem pos]
    exact (ok.good _ (List.getElem_mem pos)).2.1
  have a : momH hs 0 + 0 ≤ T := a
  omega
theorem zw_lng {hs : List HR} {bs : List BR} {rk : Nat → Int} (hr : ∀ b ∈ bs, b.th = [] → rk b.one < rk b.to) (he : ∀ b ∈ bs, b.one < hs.length ∧ b.to < hs.length) : ∀ {ns : List Nat} {one e : Nat}, wayEnd bs one ns = some e → (∀ n ∈ ns, trB bs n = 0) → lng hs bs one + (ns.map fun n => momH hs (toB bs n)).sum ≤ lng hs bs e
  | [], one, e, w, _ => by
    cases w
    show lng hs bs one + 0 ≤ _
    omega
  | n :: ns, one, e, w, z => by
    cases eb : bs[n]? with
    | none =>
      have : wayEnd bs one (n :: ns) = none := by
        show (match bs[n]? with | some b => if b.one = one then wayEnd bs b.to ns else none | none => none) = none
        rw [eb]
      rw [this] at w; cases w
    | some b =>
      rw [wayEnd_cons eb] at w
      by_cases c : b.one = one
      · rw [if_pos c] at w
        have hb := List.mem_of_getElem? eb
        have zn := z n (List.mem_cons_self ..)
        unfold trB at zn
        rw [eb] at zn
        have zn : (b.th.length : Int) = 0 := zn
        have et : b.th = [] := List.length_eq_zero_iff.mp (by omega)
        have ih := zw_lng hr he w fun m hm => z m (List.mem_cons_of_mem _ hm)
        have lb := lng_belt hr he hb et
        have tb : toB bs n = b.to := by unfold toB; rw [eb]
        rw [List.map_cons, List.sum_cons, tb, ← c]
        have mm : momN hs b.to = momH hs b.to := rfl
        omega
      · rw [if_neg c] at w; cases w
theorem time_le {hs : List HR} {bs : List BR} {sh : Nat → Int} {v T : Int} (ok : RoomOk hs bs) (pos : 0 < hs.length) (h : timeW hs (bs.map (wtB sh)) v) : v ≤ T ↔ TimeLe hs bs sh T := by
  have ok2 := wt_ok (sh := sh) ok
  obtain ⟨rk, hrk⟩ := ok2.rank
  rcases h with ⟨e0, _⟩ | ⟨k, e, ns, hk, _, we, _, tr, mm, _, ge⟩
  · rw [e0] at pos; exact absurd pos (Nat.not_lt_zero _)
  constructor
  · intro le one ms e2 ho we2 z
    rw [← wt_end (sh := sh)] at we2
    have a := zw_lng hrk ok2.ends we2 (wt_zw.mpr z)
    have e2l : e2 < hs.length := by
      clear a
      revert we2
      generalize one = o at ho
      induction ms generalizing o with
      | nil => intro w; cases w; exact ho
      | cons n ms ih =>
        intro w
        cases eb : (bs.map (wtB sh))[n]? with
        | none =>
          have : wayEnd (bs.map (wtB sh)) o (n :: ms) = none := by
            show (match (bs.map (wtB sh))[n]? with | some b => if b.one = o then wayEnd (bs.map (wtB sh)) b.to ms else none | none => none) = none
            rw [eb]
          rw [this] at w; cases w
        | some b =>
          rw [wayEnd_cons eb] at w
          by_cases c : b.one = o
          · rw [if_pos c] at w
            exact ih (fun m hm => z m (List.mem_cons_of_mem _ hm)) _ (ok2.ends b (List.mem_of_getElem? eb)).2 w
          · rw [if_neg c] at w; cases w
    have b := ge e2 e2l
    have c := lng_mom hrk ok2.ends ho
    have d : momN hs one = momH hs one := rfl
    have m2 : momW hs bs one ms = momH hs one + (ms.map fun n => momH hs (toB (bs.map (wtB sh)) n)).sum := by rw [← wt_mom (sh := sh)]; rfl
    rw [m2]
    omega
  · intro tl
    rw [← mm, wt_mom]
    rw [wt_end] at we
    exact tl k ns e hk we (wt_zw.mp tr)
/-- the lateness that shifts have by the first out door -/
def ownL (hs : List HR) (sh : Nat → Int) : Int := match doorsOf "out" hs with | [] => 0 | d :: _ => sh d
def lateV : Option Nat → V
  | none => .non
  | some l => nV l
def toldL (hs : List HR) (sh : Nat → Int) : Option Nat → Int
  | none => ownL hs sh
  | some l => ((l : Nat) : Int)
/-- shifts that are let by, and reach a time -/
def Holds (hs : List HR) (bs : List BR) (late : Option Nat) (sh : Nat → Int) (T : Int) : Prop := (late = none → 0 ≤ ownL hs sh) ∧ Good33 hs bs (toldL hs sh late) sh ∧ TimeLe hs bs sh T
section
variable {P : Program} {w : World} {K : PySem.W.Frag} {mg : Str → Option Value} {base : Heap}
def sp_own_late (K : PySem.W.Frag) : Sp := fun vs H Q _ => ∃ (r sl : Addr) (hs : List HR) (bs : List BR) (sh : Nat → Int), vs = [.ref r, .ref sl] ∧ RoomAt H r hs bs ∧ RoomOk hs bs ∧ H sl = some (.tup (levL hs.length sh)) ∧ ∀ H', Same H H' → Q (.int (ownL hs sh)) H'
theorem ok_own_late {f : Addr} {fd : FuncData} (F : Fun K "own_late" "own_late" s_own_late f fd) (T : Top K mg) : FnOk P w K mg base CX0 2 f fd ["room", "shifts"] (sp_own_late K) := by
  obtain ⟨f_doors_out, fd_doors_out, F_doors_out, b_doors_out, m_doors_out⟩ := T.d_doors_out
  have G_doors_out := ok_doors_out (P := P) (w := w) (base := base) F_doors_out T
  refine F.ok sc_own_late (fun vs H Q E h => ?_) (fun cdv A outer s H vs Q E hr h => ?_)
  · obtain ⟨r, sl, hs, bs, sh, rfl, _⟩ := h
    rfl
  obtain ⟨r, sl, hs, bs, sh, rfl, hR, ok, hsl, q⟩ := h
  have lh := ok.hands
  refine ⟨_, (pss_cons (ps_set (i := 2) sc_own_late.nd rfl (Or.inl rfl) (pe_call G_doors_out (hr.mono (by decide)) (by rfl) m_doors_out F_doors_out.kp b_doors_out .nil pass0 (pa_cons (pv 0) pa_nil)))
      (pss_one (ps_ret (pe_ifExp (pt_truthK K rfl (pv 2) (by intro _; rfl)) (pe_ix (ix_tupK K rfl) (pv 1) (pe_ix (ix_listK K rfl) (pv 2) pe_int (fun _ _ => rfl)) (fun _ _ => rfl)) pe_int)))), ?_⟩
  refine ⟨_, rfl, r, hs, bs, rfl, hR, by omega, ok.good, fun ol H1 nol hol s1 => ?_⟩
  cases e : doorsOf "out" hs with
  | nil =>
    rw [e] at hol
    refine ⟨_, rfl, _, .inl ⟨_, SqL.of hol, rfl⟩, if_bl (fun z => nomatch z) (fun _ => ?_)⟩
    have := q H1 s1
    unfold ownL at this
    rw [e] at this
    exact this
  | cons d ds =>
    rw [e] at hol
    have dl : d < hs.length := door_lt (z := "out") (by rw [e]; exact List.mem_cons_self ..)
    refine ⟨_, rfl, _, .inl ⟨_, SqL.of hol, rfl⟩, if_bl (fun _ => ?_) (fun z => nomatch z)⟩
    refine ⟨_, rfl, _, rfl, ol, _, _, _, rfl, rfl, SqL.of hol, atI_nat (j := 0) rfl, sl, _, _, _, rfl, rfl, SqT.of (s1 _ _ hsl), atI_nat (rg_at dl), ?_⟩
    have := q H1 s1
    unfold ownL at this
    rw [e] at this
    exact this
def sp_with_trays (K : PySem.W.Frag) : Sp := fun vs H Q _ => ∃ (r tl : Addr) (hs : List HR) (bs : List BR) (sh : Nat → Int), vs = [.ref r, .ref tl] ∧ RoomAt H r hs bs ∧ RoomOk hs bs ∧ H tl = some (.lst (bs.map fun b => V.int (trS sh b))) ∧ ∀ (p : Addr) (H' : Hp), RoomAt H' p hs (bs.map (wtB sh)) → Same H H' → Q (.ref p) H'
theorem ok_with_trays {f : Addr} {fd : FuncData} (F : Fun K "with_trays" "with_trays" s_with_trays f fd) (T : Top K mg) : FnOk P w K mg base CX0 1 f fd ["room", "trays"] (sp_with_trays K) := by
  refine F.ok sc_with_trays (fun vs H Q E h => ?_) (fun cdv A outer s H vs Q E hr h => ?_)
  · obtain ⟨r, tl, hs, bs, sh, rfl, _⟩ := h
    rfl
  obtain ⟨r, tl, hs, bs, sh, rfl, hR, ok, htl, q⟩ := h
  obtain ⟨ha, ba, hv, bv, er, eh, eb, alh, alb⟩ := id hR.ex
  have lbv := alb.length
  have many := ok.many
  let sg : Option V → L2.St := fun v4 => [some (.ref r), some (.ref tl), some (.ref ha), some (.ref ba), v4, none, none, none, none]
  let R1 : TS := fun D' σ' H' => D'.rt = Q ∧ σ' = sg none ∧ H = H'
  let R2 : TS := fun D' σ' H' => D'.rt = Q ∧ ∃ (D : Addr) (tv : List V), σ' = sg (some (.ref D)) ∧ H' D = some (.lst tv) ∧ All2 (BeltAt H') tv (bs.map (wtB sh)) ∧ Same H H'
  refine ⟨_, (pss_cons (ps_asg (pv 0) (pg_tupK K rfl rfl (pgs_cons (pg_name (i := 2) sc_with_trays.nd rfl (Or.inl rfl)) (pgs_cons (pg_name (i := 3) sc_with_trays.nd rfl (Or.inl rfl)) pgs_nil))))
      (PSs.to (pss_cons (ps_setLc (i := 4) (own := [("giver", 5), ("taker", 6), ("things", 7), ("many", 8)]) (g := gTup K 2 (gCons (gTup K 3 (gCons (gName 5) (gCons (gName 6) (gCons (gName 7) gNil)))) (gCons (gName 8) gNil))) (tt := tYes) (by rfl) sc_with_trays.nd rfl rfl (sw_true rfl rfl rfl (by decide +kernel)) (pi_zipTL K rfl (by rfl) T.m_zip (pa_cons (pv 3) (pa_cons (pv 1) pa_nil))) (blkOk_by (own := [("giver", 5), ("taker", 6), ("things", 7), ("many", 8)]) (N := N_with_trays) (sc := defScope s_with_trays) (by decide +kernel)) (fun _ _ _ _ _ => (pg_tupK K rfl rfl (pgs_cons (pg_tupK K rfl rfl (pgs_cons (pg_name (i := 5) sc_with_trays.nd rfl (Or.inl rfl)) (pgs_cons (pg_name (i := 6) sc_with_trays.nd rfl (Or.inl rfl)) (pgs_cons (pg_name (i := 7) sc_with_trays.nd rfl (Or.inl rfl)) pgs_nil)))) (pgs_cons (pg_name (i := 8) sc_with_trays.nd rfl (Or.inl rfl)) pgs_nil)))) (fun _ _ _ _ _ => pts_nil) (fun _ _ _ _ _ => (pe_tup (pa_cons (pv 5) (pa_cons (pv 6) (pa_cons (pe_ifExp (pt_truthK K rfl (pv 8) (by intro _; rfl)) (pe_tup (pa_cons pe_int pa_nil)) (pe_tup pa_nil)) pa_nil))))))
      (PSs.to (pss_one (ps_ret (pe_tup (pa_cons (pv 2) (pa_cons (pe_callTy (call_tuple_ofK K rfl) (by rfl) T.m_tuple (by decide +kernel) (pa_cons (pv 4) pa_nil)) pa_nil))))) R2 ?tail2)) R1 ?tail1)), ?_⟩
  case tail1 =>
    rintro D' σ' H1 ⟨eD, rfl, rfl⟩
    refine ⟨_, rfl, _, rfl, ba, tl, bv, _, rfl, SqT.of eb, SqL.of htl, fun D nD => lc_it (n := bs.length) (fun i H5 => ∃ tv : List V, H5 D = some (.lst tv) ∧ All2 (BeltAt H5) tv ((bs.take i).map (wtB sh)) ∧ Same H H5) ⟨[], upd_same, .nil, same_new nD⟩ ?_ ?_ ?_ ?_⟩
    · rintro i H5 hi ⟨tv, hD, al, s5⟩
      exact ⟨SqT.of (s5 _ _ eb), SqL.of (s5 _ _ htl), by omega, by rw [List.length_map]; exact hi⟩
    · rintro H5 ⟨tv, hD, al, s5⟩
      exact ⟨SqT.of (s5 _ _ eb), SqL.of (s5 _ _ htl), by omega, by rw [List.length_map]; exact Nat.le_refl _, .inl (by omega)⟩
    · rintro i x H5 H6 hi ⟨tv, hD, al, s5⟩ ⟨t0, x1, y1, rfl, nT, rfl, hx1, hy1⟩
      obtain ⟨b, ebj, ⟨t2, g, rfl, e1, e2⟩⟩ := alb.getL hx1
      obtain rfl : y1 = V.int (trS sh b) := by
        rw [List.getElem?_map, ebj] at hy1
        exact (Option.some.inj hy1).symm
      have s56 := same_new (o := .tup [V.ref t2, V.int (trS sh b)]) nT
      have s6 := s5.trans s56
      have hD6 := s56 _ _ hD
      have al6 := al.imp fun _ _ z => z.keep (TK.same s56)
      refine ⟨t0, _, rfl, SqT.of upd_same, rfl, _, _, rfl, t2, _, rfl, SqT.of (s6 _ _ e1), rfl, _, _, rfl, _, _, rfl, _, _, rfl, rfl, _, _, rfl, rfl, rfl, yes_in ?_⟩
      generalize upd H5 t0 _ = H6 at s56 s6 hD6 al6 ⊢
      have ltv := al.length
      rw [List.length_map, List.length_take] at ltv
      have fin : ∀ (gg : Addr) (tt : Addr) (H7 : Hp), Same H6 H7 → H7 gg = some (.tup ((wtB sh b).th.map V.int)) → H7 tt = some (.tup [nV b.one, nV b.to, .ref gg]) → ∃ xs, H7 D = some (.lst xs) ∧ xs.length < sizeLine ∧ ∃ tv : List V, (upd H7 D (.lst (xs ++ [V.ref tt]))) D = some (.lst tv) ∧ All2 (BeltAt (upd H7 D (.lst (xs ++ [V.ref tt])))) tv ((bs.take (i + 1)).map (wtB sh)) ∧ Same H (upd H7 D (.lst (xs ++ [V.ref tt]))) := fun gg tt H7 s7 hg ht => by
        have hD7 := s7 _ _ hD6
        refine ⟨tv, hD7, small1000 (by omega), tv ++ [V.ref tt], upd_same, ?_, Same.own (s6.trans s7) nD⟩
        rw [List.take_add_one, ebj, List.map_append]
        refine All2.imp (fun _ _ z => BeltAt.keep z (TK.lst hD7)) ((al6.imp fun _ _ z => z.keep (TK.same s7)).snoc (b := wtB sh b) ?_)
        exact ⟨tt, gg, rfl, ht, hg⟩
      refine ⟨_, rfl, _, rfl, _, rfl, _, rfl, if_bl (fun c => ?_) (fun c => ?_)⟩
      · have c : trS sh b ≠ 0 := fun z => by rw [z] at c; cases c
        refine ⟨(by show 1 ≤ sizeLine; decide), fun gg ng => ⟨(by show 3 ≤ sizeLine; decide), fun tt ntt => ?_⟩⟩
        have u1 := same_new (o := .tup [V.int 0]) ng
        have u2 := same_new (o := .tup [nV b.one, nV b.to, V.ref gg]) ntt
        refine fin gg tt _ (u1.trans u2) (u2 _ _ ?_) upd_same
        rw [upd_same]
        show some (HO.tup [V.int 0]) = some (HO.tup ((if trS sh b = 0 then ([] : List Int) else [0]).map V.int))
        rw [if_neg c]
        rfl
      · have c : trS sh b = 0 := by
          have c : (trS sh b != 0) = false := c
          simpa using c
        refine ⟨(by show 0 ≤ sizeLine; decide), fun gg ng => ⟨(by show 3 ≤ sizeLine; decide), fun tt ntt => ?_⟩⟩
        have u1 := same_new (o := .tup []) ng
        have u2 := same_new (o := .tup [nV b.one, nV b.to, V.ref gg]) ntt
        refine fin gg tt _ (u1.trans u2) (u2 _ _ ?_) upd_same
        rw [upd_same]
        show some (HO.tup []) = some (HO.tup ((if trS sh b = 0 then ([] : List Int) else [0]).map V.int))
        rw [if_pos c]
        rfl
    rintro H5 ⟨tv, hD, al, s5⟩
    rw [List.take_length] at al
    exact ⟨eD, D, tv, rfl, hD, al, s5⟩
  case tail2 =>
    rintro D' σ' H5 ⟨eD, D, tv, rfl, hD, al, s5⟩
    refine ⟨_, rfl, _, rfl, D, _, rfl, .inl ⟨SqL.of hD, fun bt nbt => ?_⟩⟩
    have u1 := same_new (o := .tup tv) nbt
    refine ⟨(by show 2 ≤ sizeLine; decide), fun p np => ?_⟩
    have u2 := same_new (o := .tup [V.ref ha, V.ref bt]) np
    have s56 := u1.trans u2
    rw [eD]
    refine q p _ ⟨ha, bt, hv, tv, upd_same, s56 _ _ (s5 _ _ eh), u2 _ _ upd_same, alh.imp fun _ _ z => z.keep (TK.same (s5.trans s56)), al.imp fun _ _ z => z.keep (TK.same s56)⟩ (s5.trans s56)
  exact ⟨_, rfl, r, _, rfl, SqT.of er, rfl, _, _, rfl, _, _, rfl, rfl, rfl, rfl, rfl⟩
end
theorem ref_bad {hs : List HR} {bs : List BR} {late : Int} {sh : Nat → Int} {wd : Str} {k : Nat} (gd : Good33 hs bs late sh) (r : Ref34 hs bs late sh wd k) : False := by
  rcases r with ⟨_, h1, _⟩ | ⟨_, _, b, e, n, _⟩
  · rcases List.mem_append.mp h1 with h | h
    · obtain ⟨h1, h2⟩ := List.mem_filter.mp h
      rw [gd.ins k h1] at h2
      cases h2
    · obtain ⟨h1, h2⟩ := List.mem_filter.mp h
      rw [gd.outs k h1, decide_eq_true rfl] at h2
      cases h2
  · have := gd.tr b (List.mem_of_getElem? e)
    omega
section
variable {P : Program} {w : World} {K : PySem.W.Frag} {mg : Str → Option Value} {base : Heap} {cT cG : Addr} {PT : Addr × Addr} [TLI : TabL K mg base cT PT] [TI : TabI K mg base cG PT]
include TLI TI
def sp_shifts_hold (K : PySem.W.Frag) (PT : Addr × Addr) : Sp := fun vs H Q _ => ∃ (r sl : Addr) (hs : List HR) (bs : List BR) (late : Option Nat) (T : Int) (sh : Nat → Int), vs = [.ref r, lateV late, .int T, .ref sl] ∧ RoomAt H r hs bs ∧ RoomOk hs bs ∧ 0 < hs.length ∧ H sl = some (.tup (levL hs.length sh)) ∧ LamX.Tabs (TL PT) H ∧
  ∀ (c : Bool) (H' : Hp), (c = true ↔ Holds hs bs late sh T) → LamX.ExtN H H' → LamX.Tabs (TL PT) H' → Q (.bl c) H'
theorem ok_shifts_hold {f : Addr} {fd : FuncData} (F : Fun K "shifts_hold" "shifts_hold" s_shifts_hold f fd) (T : Top K mg) : FnOk P w K mg base CX0 5 f fd ["room", "late", "time", "shifts"] (sp_shifts_hold K PT) := by
  obtain ⟨f_own_late, fd_own_late, F_own_late, b_own_late, m_own_late⟩ := T.d_own_late
  have G_own_late := ok_own_late (P := P) (w := w) (base := base) F_own_late T
  obtain ⟨f_look_shifts, fd_look_shifts, F_look_shifts, b_look_shifts, m_look_shifts⟩ := T.d_look_shifts
  have G_look_shifts := ok_look_shifts (P := P) (w := w) (base := base) F_look_shifts T
  obtain ⟨f_time_of, fd_time_of, F_time_of, b_time_of, m_time_of⟩ := T.d_time_of
  have G_time_of := ok_time_of (P := P) (w := w) (base := base) F_time_of T
  obtain ⟨f_with_trays, fd_with_trays, F_with_trays, b_with_trays, m_with_trays⟩ := T.d_with_trays
  have G_with_trays := ok_with_trays (P := P) (w := w) (base := base) F_with_trays T
  obtain ⟨f_trays_moved, fd_trays_moved, F_trays_moved, b_trays_moved, m_trays_moved⟩ := T.d_trays_moved
  have G_trays_moved := ok_trays_moved (P := P) (w := w) (base := base) F_trays_moved T
  obtain ⟨fdI, N⟩ := T.x_ns
  have GI := ok_NsInit (P := P) (w := w) (base := base) N
  refine F.ok sc_shifts_hold (fun vs H Q E h => ?_) (fun cdv A outer s H vs Q E hr h => ?_)
  · obtain ⟨r, sl, hs, bs, late, T', sh, rfl, _⟩ := h
    rfl
  obtain ⟨r, sl, hs, bs, late, T', sh, rfl, hR, ok, pos, hsl, tabs, q⟩ := h
  let R1 : TS := fun D' σ' H' => D'.rt = Q ∧ σ' = [some (.ref r), some (lateV late), some (.int T'), some (.ref sl), some (.int (toldL hs sh late))] ∧ (late = none → 0 ≤ ownL hs sh) ∧ Same H H'
  refine ⟨_, (pss_cons (ps_set (i := 4) sc_shifts_hold.nd rfl (Or.inl rfl) (pe_ifExp (pt_cmpR op_isN (pv 1) pe_non (nomark _)) (pe_call G_own_late (hr.mono (by decide)) (by rfl) m_own_late F_own_late.kp b_own_late .nil pass0 (pa_cons (pv 0) (pa_cons (pv 3) pa_nil))) (pv 1)))
      (pss_cons (ps_if (PW.pt (pw_and (pt_cmpR op_isN (pv 1) pe_non (nomark _)) (pw_and1 (pt_cmpR op_lt (pv 4) pe_int (nomark _))))) (pss_one (ps_ret pe_bl)) pss_nil)
      (PSs.to (pss_cons (ps_try_only (by rfl) (by rfl) (by exact ⟨rfl, by decide, .inl N.gC⟩) takes0
        (fun W pn xe tk _ => (pss_one (ps_expr (pe_callS G_look_shifts (hr.mono (by decide)) (by rfl) m_look_shifts F_look_shifts.kp b_look_shifts (fun σ => passAt tk σ) (pa_cons (pv 0) (pa_cons (pv 4) (pa_cons (pv 3) pa_nil)))))))
        (fun a oe cls d pn _ _ => (pss_one (ps_ret pe_bl))))
      (pss_one (ps_ret (pe_cmpR op_le (pe_call G_time_of (hr.mono (by decide)) (by rfl) m_time_of F_time_of.kp b_time_of .nil pass0 (pa_cons (pe_call G_with_trays (hr.mono (by decide)) (by rfl) m_with_trays F_with_trays.kp b_with_trays .nil pass0 (pa_cons (pv 0) (pa_cons (pe_call G_trays_moved (hr.mono (by decide)) (by rfl) m_trays_moved F_trays_moved.kp b_trays_moved .nil pass0 (pa_cons (pv 0) (pa_cons (pv 3) pa_nil))) pa_nil))) pa_nil)) (pv 2) (nomark _))))) R1 ?tail1))), ?_⟩
  case tail1 =>
    rintro D' σ' H1 ⟨eD, rfl, own, s1⟩
    refine ⟨_, rfl, _, rfl, _, rfl, ?_⟩
    dsimp only [tNil]
    have k1 := TK.same s1
    refine ⟨r, sl, hs, bs, hs.length, toldL hs sh late, sh, rfl, hR.keep k1, ok, s1 _ _ hsl, tabs_same tabs s1, fun d t H2 ne _ _ _ _ => absurd rfl ne, fun H2 _ gd tb ext => ?_, fun d t wd k H2 _ rf hd ht tb ext => ?_⟩
    · have k2 := ExtN.tk ext
      refine ⟨_, rfl, _, rfl, _, rfl, r, sl, hs, bs, sh, rfl, (hR.keep k1).keep k2, ok, k2 _ _ (s1 _ _ hsl), fun tl H3 ntl htl s3 => ?_⟩
      refine ⟨r, tl, hs, bs, sh, rfl, ((hR.keep k1).keep k2).keep (TK.same s3), ok, htl, fun p H4 hR4 s4 => ?_⟩
      refine ⟨p, hs, bs.map (wtB sh), rfl, hR4, wt_ok ok, tabs_same tb (s3.trans s4), fun v H5 tw ext5 tb5 => ?_⟩
      refine ⟨_, rfl, _, _, rfl, rfl, ?_⟩
      show D'.rt (.bl (decide (v ≤ T'))) H5
      rw [eD]
      refine q _ H5 ?_ (((ExtN.same s1).trans ext).trans ((ExtN.same (s3.trans s4)).trans ext5)) tb5
      rw [decide_eq_true_eq, time_le ok pos tw]
      exact ⟨fun z => ⟨own, gd, z⟩, fun z => z.2.2⟩
    · refine ⟨true, N.te, fun _ a na => ?_, fun z => nomatch z⟩
      show D'.rt (.bl false) H2
      rw [eD]
      exact q false H2 ⟨(fun z => nomatch z), fun z => (ref_bad z.2.1 rf).elim⟩ ((ExtN.same s1).trans ext) tb
  cases late with
  | none =>
    refine ⟨_, rfl, rfl, _, rfl, if_bl (fun _ => ?_) (fun z => nomatch z)⟩
    refine ⟨_, rfl, _, rfl, r, sl, hs, bs, sh, rfl, hR, ok, hsl, fun H1 s1 => ?_⟩
    refine ⟨_, rfl, rfl, _, rfl, if_bl (fun _ => ?_) (fun z => nomatch z)⟩
    refine ⟨_, rfl, _, _, rfl, rfl, _, rfl, if_bl (fun c => ?_) (fun c => ?_)⟩
    · have c : ownL hs sh < 0 := of_decide_eq_true c
      refine q false H1 ⟨(fun z => nomatch z), fun z => ?_⟩ (ExtN.same s1) (tabs_same tabs s1)
      have := z.1 rfl
      omega
    · have c : ¬ ownL hs sh < 0 := of_decide_eq_false c
      exact ⟨rfl, rfl, fun _ => by omega, s1⟩
  | some l =>
    refine ⟨_, rfl, rfl, _, rfl, if_bl (fun z => nomatch z) (fun _ => ?_)⟩
    refine ⟨_, rfl, ?_⟩
    refine ⟨_, rfl, rfl, _, rfl, if_bl (fun z => nomatch z) (fun _ => ?_)⟩
    exact ⟨rfl, rfl, (fun z => nomatch z), Same.refl _⟩
end
theorem ixN_nat {n k : Nat} (h : k < n) : ixN n ((k : Nat) : Int) = some k := by
  unfold ixN
  rw [if_pos (by omega), if_pos (by omega)]
  simp
/-! ### levels: the program -/
theorem lev_set {n : Nat} {f : Nat → Int} {j : Nat} {z : Int} (hj : j < n) : (levL n f).set j (V.int z) = levL n fun k => if k = j then z else f k := by
  refine List.ext_getElem? fun m => ?_
  by_cases e : m = j
  · subst e
    rw [List.getElem?_set_self (by rw [List.length_map, List.length_range]; exact hj), rg_at hj]
    show _ = some (V.int (if m = m then z else f m))
    rw [if_pos rfl]
  · rw [List.getElem?_set_ne (fun z => e z.symm)]
    by_cases l : m < n
    · rw [rg_at l, rg_at l]
      show _ = some (V.int (if m = j then z else f m))
      rw [if_neg e]
    · rw [List.getElem?_eq_none (by rw [List.length_map, List.length_range]; omega), List.getElem?_eq_none (by rw [List.length_map, List.length_range]; omega)]
/-! ### ways without trays come to no hand twice -/
theorem wayEnd_snoc38 {bs : List BR} : ∀ {ms : List Nat} {k n e : Nat}, wayEnd bs k (ms ++ [n]) = some e → ∃ b, bs[n]? = some b ∧ wayEnd bs k ms = some b.one ∧ b.to = e
  | [], k, n, e, w => by
    cases eb : bs[n]? with
    | none =>
      have : wayEnd bs k [n] = none := by
        show (match bs[n]? with | some b => if b.one = k then wayEnd bs b.to [] else none | none => none) = none
        rw [eb]
      rw [List.nil_append, this] at w; cases w
    | some b =>
      rw [List.nil_append, wayEnd_cons eb] at w
      by_cases c : b.one = k
      · rw [if_pos c] at w
        exact ⟨b, rfl, by rw [c]; rfl, Option.some.inj w⟩
      · rw [if_neg c] at w; cases w
  | m :: ms, k, n, e, w => by
    cases eb : bs[m]? with
    | none =>
      have : wayEnd bs k (m :: ms ++ [n]) = none := by
        show (match bs[m]? with | some b => if b.one = k then wayEnd bs b.to (ms ++ [n]) else none | none => none) = none
        rw [eb]
      rw [this] at w; cases w
    | some b =>
      rw [List.cons_append, wayEnd_cons eb] at w
      by_cases c : b.one = k
      · rw [if_pos c] at w
        obtain ⟨b', h1, h2, h3⟩ := wayEnd_snoc38 w
        exact ⟨b', h1, by rw [wayEnd_cons eb, if_pos c]; exact h2, h3⟩
      · rw [if_neg c] at w; cases w
theorem wayEnd_snoc {bs : List BR} {k n : Nat} {b : BR} (eb : bs[n]? = some b) : ∀ {ms : List Nat} {k : Nat}, wayEnd bs k ms = some b.one → wayEnd bs k (ms ++ [n]) = some b.to
  | [], k, w => by
    have : k = b.one := Option.some.inj w
    rw [List.nil_append, wayEnd_cons eb, if_pos this.symm]
    rfl
  | m :: ms, k, w => by
    cases em : bs[m]? with
    | none =>
      have : wayEnd bs k (m :: ms) = none := by
        show (match bs[m]? with | some b => if b.one = k then wayEnd bs b.to ms else none | none => none) = none
        rw [em]
      rw [this] at w; cases w
    | some c =>
      rw [wayEnd_cons em] at w
      by_cases z : c.one = k
      · rw [if_pos z] at w
        rw [List.cons_append, wayEnd_cons em, if_pos z]
        exact wayEnd_snoc (k := k) eb w
      · rw [if_neg z] at w; cases w
theorem momW_snoc {hs : List HR} {bs : List BR} {one n : Nat} {ns : List Nat} {b : BR} (e : bs[n]? = some b) : momW hs bs one (ns ++ [n]) = momW hs bs one ns + momH hs b.to := by
  unfold momW
  rw [List.map_append, List.sum_append]
  have : toB bs n = b.to := by unfold toB; rw [e]
  show momH hs one + ((ns.map fun n => momH hs (toB bs n)).sum + (momH hs (toB bs n) + 0)) = _
  rw [this]
  omega
/-- what a way without trays comes to rises in rank, so it is short -/
theorem zw_rise {hs : List HR} {bs : List BR} {sh rk : Nat → Int} (hr : ∀ b ∈ bs, trS sh b = 0 → rk b.one < rk b.to) (he : ∀ b ∈ bs, b.to < hs.length) : ∀ {ns : List Nat} {one e : Nat}, one < hs.length → wayEnd bs one ns = some e → Zw bs sh ns → ∃ vs : List Nat, vs.length = ns.length ∧ vs.Nodup ∧ (∀ v ∈ vs, v < hs.length ∧ rk one < rk v)
  | [], one, e, _, _, _ => ⟨[], rfl, .nil, fun _ z => nomatch z⟩
  | n :: ns, one, e, ho, w, z => by
    cases eb : bs[n]? with
    | none =>
      have : wayEnd bs one (n :: ns) = none := by
        show (match bs[n]? with | some b => if b.one = one then wayEnd bs b.to ns else none | none => none) = none
        rw [eb]
      rw [this] at w; cases w
    | some b =>
      rw [wayEnd_cons eb] at w
      by_cases c : b.one = one
      · rw [if_pos c] at w
        have hb := List.mem_of_getElem? eb
        have r := hr b hb (z n (List.mem_cons_self ..) b eb)
        rw [c] at r
        obtain ⟨vs, h1, h2, h3⟩ := zw_rise hr he (he b hb) w fun m hm => z m (List.mem_cons_of_mem _ hm)
        refine ⟨b.to :: vs, by rw [List.length_cons, List.length_cons, h1], List.nodup_cons.mpr ⟨fun m => ?_, h2⟩, fun v hv => ?_⟩
        · have := (h3 _ m).2
          omega
        · rcases List.mem_cons.mp hv with rfl | hv
          · exact ⟨he b hb, r⟩
          · have := h3 v hv
            exact ⟨this.1, by omega⟩
      · rw [if_neg c] at w; cases w
theorem nodup_len : ∀ {n : Nat} {vs : List Nat}, vs.Nodup → (∀ v ∈ vs, v < n) → vs.length ≤ n
  | 0, [], _, _ => Nat.le_refl _
  | 0, v :: _, _, h => absurd (h v (List.mem_cons_self ..)) (Nat.not_lt_zero _)
  | n + 1, vs, nd, h => by
    by_cases m : n ∈ vs
    · obtain ⟨A, B, rfl⟩ := List.append_of_mem m
      have nd2 : (A ++ B).Nodup := List.Nodup.sublist (List.Sublist.append (List.Sublist.refl A) (List.sublist_cons_self n B)) nd
      have no : n ∉ A ++ B := fun z => by
        have := (List.perm_middle.nodup_iff (l₁ := A ++ n :: B)).mp nd
        exact (List.nodup_cons.mp this).1 z
      have ih := nodup_len (n := n) nd2 fun v hv => by
        have a := h v (by rcases List.mem_append.mp hv with y | y; exact List.mem_append_left _ y; exact List.mem_append_right _ (List.mem_cons_of_mem _ y))
        have b : v ≠ n := fun e => no (e ▸ hv)
        omega
      rw [List.length_append] at ih
      rw [List.length_append, List.length_cons]
      omega
    · exact Nat.le_succ_of_le (nodup_len (n := n) nd fun v hv => by
        have a := h v hv
        have b : v ≠ n := fun e => m (e ▸ hv)
        omega)
theorem zw_len {hs : List HR} {bs : List BR} {sh : Nat → Int} (ok : RoomOk hs bs) {ns : List Nat} {one e : Nat} (ho : one < hs.length) (w : wayEnd bs one ns = some e) (z : Zw bs sh ns) : ns.length ≤ hs.length := by
  obtain ⟨rk, hrk⟩ := wt_rank (sh := sh) ok
  obtain ⟨vs, h1, h2, h3⟩ := zw_rise hrk (fun b hb => (ok.ends b hb).2) ho w z
  rw [← h1]
  exact nodup_len h2 fun v hv => (h3 v hv).1
section
variable {P : Program} {w : World} {K : PySem.W.Frag} {mg : Str → Option Value} {base : Heap}
def sp_law_time_of (K : PySem.W.Frag) : Sp := fun vs H Q _ => ∃ (r tl : Addr) (hs : List HR) (bs : List BR) (sh : Nat → Int), vs = [.ref r, .ref tl] ∧ RoomAt H r hs bs ∧ RoomOk hs bs ∧ H tl = some (.lst (bs.map fun b => V.int (trS sh b))) ∧
  ∀ (T : Int) (H' : Hp), 0 ≤ T → TimeLe hs bs sh T → (∀ T', 0 ≤ T' → TimeLe hs bs sh T' → T ≤ T') → Same H H' → Q (.int T) H'
theorem ok_law_time_of {f : Addr} {fd : FuncData} (F : Fun K "_law_time_of" "_law_time_of" s_law_time_of f fd) (T : Top K mg) : FnOk P w K mg base CX0 1 f fd ["_law_room_here", "_law_trays_here"] (sp_law_time_of K) := by
  refine F.ok sc_law_time_of (fun vs H Q E h => ?_) (fun cdv A outer s H vs Q E hr h => ?_)
  · obtain ⟨r, tl, hs, bs, sh, rfl, _⟩ := h
    rfl
  obtain ⟨r, tl, hs, bs, sh, rfl, hR, ok, htl, q⟩ := h
  obtain ⟨ha, ba, hv, bv, er, eh, eb, alh, alb⟩ := hR.ex
  have lhv := alh.length
  have lbv := alb.length
  have lh := ok.hands
  have lbm := ok.many
  let sg : Addr → Option V → Option V → Option V → Option V → L2.St := fun D v5 v6 v7 v8 => [some (.ref r), some (.ref tl), some (.ref ha), some (.ref ba), some (.ref D), v5, v6, v7, v8]
  let Wv : (Nat → Int) → Prop := fun tf => ∀ k, k < hs.length → ∃ one ns, one < hs.length ∧ wayEnd bs one ns = some k ∧ Zw bs sh ns ∧ momW hs bs one ns = tf k
  refine ⟨_, (pss_cons (ps_asg (pv 0) (pg_tupK K rfl rfl (pgs_cons (pg_name (i := 2) sc_law_time_of.nd rfl (Or.inl rfl)) (pgs_cons (pg_name (i := 3) sc_law_time_of.nd rfl (Or.inl rfl)) pgs_nil))))
      (pss_cons (ps_setLc (i := 4) (own := [("_law_hand", 5)]) (g := gName 5) (tt := tYes) (by rfl) sc_law_time_of.nd rfl rfl (sw_true rfl rfl rfl (by decide +kernel)) (pi_tupK K rfl (pv 2)) (blkOk_by (own := [("_law_hand", 5)]) (N := N_law_time_of) (sc := defScope s_law_time_of) (by decide +kernel)) (fun _ _ _ _ _ => (pg_name (i := 5) sc_law_time_of.nd rfl (Or.inl rfl))) (fun _ _ _ _ _ => pts_nil) (fun _ _ _ _ _ => (pe_ix (ix_tupK K rfl) (pv 5) pe_int (fun _ _ => rfl))))
      (pss_cons (ps_for PassesOwn.never rfl (pi_range1 (by rfl) T.m_range (pa_cons (pe_callB (call_len_seqK K rfl) (by rfl) T.m_len (by decide +kernel) (pa_cons (pv 2) pa_nil)) pa_nil)) (pg_name (i := 6) sc_law_time_of.nd rfl (Or.inl rfl))
        (pss_one (ps_for PassesOwn.never rfl (pi_zipTL K rfl (by rfl) T.m_zip (pa_cons (pv 3) (pa_cons (pv 1) pa_nil))) (pg_tupK K rfl rfl (pgs_cons (pg_name (i := 7) sc_law_time_of.nd rfl (Or.inl rfl)) (pgs_cons (pg_name (i := 8) sc_law_time_of.nd rfl (Or.inl rfl)) pgs_nil)))
        (pss_one (ps_if (pt_cmpR op_eq (pv 8) pe_int (nomark _)) (pss_one (ps_asg (pe_callB (call_max2 rfl) (by rfl) T.m_max (by decide +kernel) (pa_cons (pe_ix (ix_listK K rfl) (pv 4) (pe_ix (ix_tupK K rfl) (pv 7) pe_int (fun _ _ => rfl)) (fun _ _ => rfl)) (pa_cons (pe_op op_add (pe_ix (ix_listK K rfl) (pv 4) (pe_ix (ix_tupK K rfl) (pv 7) pe_int (fun _ _ => rfl)) (fun _ _ => rfl)) (pe_ix (ix_tupK K rfl) (pe_ix (ix_tupK K rfl) (pv 2) (pe_ix (ix_tupK K rfl) (pv 7) pe_int (fun _ _ => rfl)) (fun _ _ => rfl)) pe_int (fun _ _ => rfl))) pa_nil))) (pg_sub (pv 4) (pe_ix (ix_tupK K rfl) (pv 7) pe_int (fun _ _ => rfl)) set_list))) pss_nil)))))
      (pss_one (ps_ret (pe_callB (cr_maxKK K rfl rfl) (by rfl) T.m_max (by decide +kernel) (pa_cons (pe_op op_cat (pe_lst (pa_cons pe_int pa_nil)) (pv 4)) pa_nil))))))), ?_⟩
  refine ⟨_, rfl, r, _, rfl, SqT.of er, rfl, _, _, rfl, _, _, rfl, rfl, ?_⟩
  refine ⟨_, rfl, ha, rfl, ⟨_, SqT.of eh⟩, fun D nD => lc_tup (K := K) (a := ha) (xs := hv) (fun i H5 => H5 D = some (.lst ((List.range i).map fun k => V.int (momH hs k))) ∧ Same H H5) ⟨upd_same, same_new nD⟩ (fun i H5 _ ⟨_, s5⟩ => SqT.of (s5 _ _ eh)) ?_ ?_⟩
  · rintro i x H5 hx ⟨hD, s5⟩
    obtain ⟨h, ehi, ⟨t, rr, rfl, e1, e2⟩⟩ := alh.getL hx
    have il := (List.getElem?_eq_some_iff.mp ehi).1
    have mom : momH hs i = h.mom := by unfold momH; rw [ehi]
    refine ⟨rfl, yes_in ⟨_, rfl, t, _, _, _, rfl, rfl, SqT.of (s5 _ _ e1), atI_nat (j := 1) rfl, _, hD, by rw [List.length_map, List.length_range]; exact small1000 (by omega), ?_, Same.own s5 nD⟩⟩
    rw [upd_same, List.range_succ, List.map_append, List.map_cons, List.map_nil, mom]
  rintro H1 ⟨hD, s1⟩
  have AT : ∀ (tf : Nat → Int) (j : Nat), j < hs.length → ((List.range hs.length).map fun k => V.int (tf k))[j]? = some (V.int (tf j)) := fun tf j hj => by
    rw [List.getElem?_map, List.getElem?_range hj]; rfl
  have tlD : tl ≠ D := ne_of_none htl nD
  rw [lhv] at hD
  refine ⟨_, rfl, ha, _, rfl, .inr (SqT.of (s1 _ _ eh)), _, rfl, by omega, by omega, for_range (lo := 0) (n := hv.length) (fun i σ H2 => ∃ (v5 v6 v7 v8 : Option V) (tf : Nat → Int), σ = sg D v5 v6 v7 v8 ∧ H2 D = some (.lst (levL hs.length tf)) ∧ Wv tf ∧ (∀ one ns e, one < hs.length → wayEnd bs one ns = some e → ns.length ≤ i → Zw bs sh ns → momW hs bs one ns ≤ tf e) ∧ Same H H2)
    ⟨_, _, _, _, _, rfl, hD, fun k hk => ⟨k, [], hk, rfl, (fun _ z => nomatch z), (by show momH hs k + 0 = momH hs k; omega)⟩, fun one ns e ho we ln _ => ?_, s1⟩ ?_ ?_⟩
  · cases ns with
    | nil =>
      cases we
      show momH hs one + 0 ≤ _
      omega
    | cons a b => rw [List.length_cons] at ln; omega
  · rintro i σ H2 hi ⟨v5, v6, v7, v8, tf, rfl, hD, wv, hv0, s⟩
    refine ⟨_, rfl, _, rfl, ba, tl, bv, _, rfl, SqT.of (s _ _ eb), SqL.of (s _ _ htl), for_it (n := bs.length) (fun j σ H3 => ∃ (v5 v6 v7 v8 : Option V) (tf2 : Nat → Int), σ = sg D v5 v6 v7 v8 ∧ H3 D = some (.lst (levL hs.length tf2)) ∧ Wv tf2 ∧ (∀ k, tf k ≤ tf2 k) ∧ (∀ m b x, m < j → bs[m]? = some b → trS sh b = 0 → x ≤ tf b.one → x + momH hs b.to ≤ tf2 b.to) ∧ Same H H3)
      ⟨_, _, _, _, tf, rfl, hD, wv, (fun _ => Int.le_refl _), (fun _ _ _ z => absurd z (Nat.not_lt_zero _)), s⟩ (fun j σ H3 hj ⟨_, _, _, _, _, _, _, _, _, _, s⟩ => ⟨SqT.of (s _ _ eb), SqL.of (s _ _ htl), by omega, by rw [List.length_map]; exact hj⟩) (fun σ H3 ⟨_, _, _, _, _, _, _, _, _, _, s⟩ => ⟨SqT.of (s _ _ eb), SqL.of (s _ _ htl), by omega, by rw [List.length_map]; exact Nat.le_refl _, .inl (by omega)⟩) ?_ ?_⟩
    · rintro j x σ H3 H4 hj ⟨v5, v6, v7, v8, tf2, rfl, hD, wv2, mono, new, s⟩ ⟨T, x1, y1, rfl, nT, rfl, hx1, hy1⟩
      obtain ⟨b, ebj, ⟨t2, g, rfl, e1, e2⟩⟩ := alb.getL hx1
      have hb := List.mem_of_getElem? ebj
      have ob := (ok.ends b hb).1
      have tb := (ok.ends b hb).2
      obtain rfl : y1 = V.int (trS sh b) := by
        rw [List.getElem?_map, ebj] at hy1
        exact (Option.some.inj hy1).symm
      have s4 := s.trans (same_new (o := .tup [V.ref t2, V.int (trS sh b)]) nT)
      have hD4 := same_new (o := .tup [V.ref t2, V.int (trS sh b)]) nT _ _ hD
      refine ⟨T, _, rfl, SqT.of upd_same, rfl, _, _, rfl, _, _, rfl, rfl, _, rfl, rfl, _, rfl, if_bl (fun c => ?_) (fun c => ?_)⟩
      · have c : trS sh b = 0 := V.int.inj (of_decide_eq_true c)
        have eht : hs[b.to]? = some hs[b.to] := List.getElem?_eq_getElem tb
        have mom2 : momH hs b.to = hs[b.to].mom := by unfold momH; rw [eht]
        obtain ⟨x3, ex3, ⟨t3, r3, rfl, e31, e32⟩⟩ := alh.get eht
        refine ⟨_, rfl, _, rfl, t2, _, _, _, rfl, rfl, SqT.of (s4 _ _ e1), atI_nat (j := 1) rfl, D, _, _, _, rfl, rfl, SqL.of hD4, atI_nat (AT tf2 b.to tb), ?_⟩
        refine ⟨_, rfl, _, rfl, t2, _, _, _, rfl, rfl, SqT.of (s4 _ _ e1), atI_nat (j := 0) rfl, D, _, _, _, rfl, rfl, SqL.of hD4, atI_nat (AT tf2 b.one ob), ?_⟩
        refine ⟨_, rfl, _, rfl, t2, _, _, _, rfl, rfl, SqT.of (s4 _ _ e1), atI_nat (j := 1) rfl, ha, _, _, _, rfl, rfl, SqT.of (s4 _ _ eh), atI_nat ex3, t3, _, _, _, rfl, rfl, SqT.of (s4 _ _ e31), atI_nat (j := 1) rfl, _, _, rfl, rfl, ?_⟩
        refine ⟨_, _, rfl, ?_⟩
        refine ⟨_, rfl, _, rfl, t2, _, _, _, rfl, rfl, SqT.of (s4 _ _ e1), atI_nat (j := 1) rfl, D, _, _, b.to, rfl, rfl, hD4, ixN_nat (by rw [List.length_map, List.length_range]; exact tb), ?_⟩
        refine ⟨_, _, _, _, _, rfl, by rw [upd_same, lev_set tb], fun k hk => ?_, fun k => ?_, fun m b' x ml eb' z hx => ?_, Same.own s4 nD⟩
        · show ∃ one ns, one < hs.length ∧ wayEnd bs one ns = some k ∧ Zw bs sh ns ∧ momW hs bs one ns = if k = b.to then _ else _
          by_cases e : k = b.to
          · rw [if_pos e, e]
            split
            · obtain ⟨one, ns, g1, g2, g3, g4⟩ := wv2 _ ob
              refine ⟨one, ns ++ [j], g1, wayEnd_snoc (k := one) ebj g2, fun m hm b' eb' => ?_, by rw [momW_snoc ebj, g4, mom2]⟩
              rcases List.mem_append.mp hm with hm | hm
              · exact g3 m hm b' eb'
              · rw [List.mem_singleton.mp hm, ebj] at eb'
                cases eb'
                exact c
            · exact wv2 _ tb
          · rw [if_neg e]
            exact wv2 k hk
        · show tf k ≤ if k = b.to then _ else _
          have := mono k
          split
          · rename_i e
            subst e
            split <;> omega
          · exact this
        · show x + momH hs b'.to ≤ if b'.to = b.to then _ else _
          by_cases mj : m = j
          · subst mj
            rw [ebj] at eb'
            cases eb'
            rw [if_pos rfl, mom2]
            have := mono b.one
            split <;> omega
          · have := new m b' x (by omega) eb' z hx
            split
            · rename_i e
              rw [e] at this ⊢
              split <;> omega
            · exact this
      · have c : trS sh b ≠ 0 := fun z => of_decide_eq_false c (congrArg V.int z)
        refine ⟨_, _, _, _, tf2, rfl, hD4, wv2, mono, fun m b' x ml eb' z hx => ?_, s4⟩
        by_cases mj : m = j
        · subst mj
          rw [ebj] at eb'
          cases eb'
          exact absurd z c
        · exact new m b' x (by omega) eb' z hx
    · rintro σ H3 ⟨v5, v6, v7, v8, tf2, rfl, hD, wv2, mono, new, s⟩
      refine ⟨_, _, _, _, tf2, rfl, hD, wv2, fun one ns e ho we ln zw => ?_, s⟩
      rcases List.eq_nil_or_concat ns with rfl | ⟨ms, m, rfl⟩
      · exact Int.le_trans (hv0 one [] e ho we (Nat.zero_le _) zw) (mono e)
      · rw [List.concat_eq_append] at *
        obtain ⟨b, ebm, we2, rfl⟩ := wayEnd_snoc38 we
        rw [momW_snoc ebm]
        rw [List.length_append] at ln
        exact new m b _ (List.getElem?_eq_some_iff.mp ebm).1 ebm (zw m (List.mem_append_right _ (List.mem_singleton.mpr rfl)) b ebm) (hv0 one ms b.one ho we2 (by simp at ln; omega) fun n hn => zw n (List.mem_append_left _ hn))
  · rintro σ H2 ⟨v5, v6, v7, v8, tf, rfl, hD, wv, hv1, s⟩
    refine ⟨(by show 1 ≤ sizeLine; decide), fun l nl => ?_⟩
    have s3 := s.trans (same_new (o := .lst [V.int 0]) nl)
    have hD3 := same_new (o := .lst [V.int 0]) nl _ _ hD
    refine ⟨_, rfl, l, D, _, _, rfl, rfl, upd_same, hD3, by show 1 + ((List.range hs.length).map fun k => V.int (tf k)).length ≤ sizeLine; rw [List.length_map, List.length_range]; exact little (by omega), fun p np => ?_⟩
    refine ⟨p, 0 :: (List.range hs.length).map tf, rfl, SqL.of ?_, by simp, fun m hm hle => ?_⟩
    · rw [upd_same, List.map_cons, List.map_map]
      rfl
    · refine q m _ (hle 0 (List.mem_cons_self ..)) (fun one ns e ho we zw => ?_) (fun T' T0 tl => ?_) (s3.trans (same_new np))
      · have el : e < hs.length := by
          rcases List.eq_nil_or_concat ns with rfl | ⟨ms, m', rfl⟩
          · cases we; exact ho
          · rw [List.concat_eq_append] at we
            obtain ⟨b, ebm, _, rfl⟩ := wayEnd_snoc38 we
            exact (ok.ends b (List.mem_of_getElem? ebm)).2
        refine Int.le_trans (hv1 one ns e ho we ?_ zw) (hle _ (List.mem_cons_of_mem _ (List.mem_map.mpr ⟨e, List.mem_range.mpr el, rfl⟩)))
        rw [lhv]
        exact zw_len ok ho we zw
      · rcases List.mem_cons.mp hm with rfl | hm
        · exact T0
        · obtain ⟨k, hk, rfl⟩ := List.mem_map.mp hm
          obtain ⟨one, ns, g1, g2, g3, g4⟩ := wv k (List.mem_range.mp hk)
          rw [← g4]
          exact tl one ns k g1 g2 g3
end
/-- shifts that are let by, of any lateness too -/
def LetBy (hs : List HR) (bs : List BR) (late : Option Nat) (sh : Nat → Int) : Prop := (late = none → 0 ≤ ownL hs sh) ∧ Good33 hs bs (toldL hs sh late) sh
/-- what out doors are meant to have: the lateness, or the greatest of them -/
structure Meant (hs : List HR) (sh : Nat → Int) (late : Option Nat) (mt : Int) : Prop where
  some_ : ∀ l : Nat, late = some l → mt = ((l : Nat) : Int)
  nn : late = none → 0 ≤ mt
  ge : late = none → ∀ k ∈ doorsOf "out" hs, sh k ≤ mt
  at_ : late = none → mt = 0 ∨ ∃ k ∈ doorsOf "out" hs, sh k = mt
theorem let_iff {hs : List HR} {bs : List BR} {late : Option Nat} {sh : Nat → Int} {mt : Int} (m : Meant hs sh late mt) : ((∀ k ∈ doorsOf "in" hs, sh k = 0) ∧ (∀ k ∈ doorsOf "out" hs, sh k = mt) ∧ ∀ b ∈ bs, 0 ≤ trS sh b) ↔ LetBy hs bs late sh := by
  cases late with
  | some l =>
    have e := m.some_ l rfl
    subst e
    exact ⟨fun ⟨a, b, c⟩ => ⟨(fun z => nomatch z), a, b, c⟩, fun ⟨_, g⟩ => ⟨g.ins, g.outs, g.tr⟩⟩
  | none =>
    have nn := m.nn rfl
    have ge := m.ge rfl
    have at_ := m.at_ rfl
    unfold LetBy toldL ownL
    cases e : doorsOf "out" hs with
    | nil =>
      exact ⟨fun ⟨a, b, c⟩ => ⟨fun _ => Int.le_refl _, a, (by rw [e]; exact fun _ z => nomatch z), c⟩, fun ⟨_, g⟩ => ⟨g.ins, (fun _ z => nomatch z), g.tr⟩⟩
    | cons d ds =>
      rw [e] at ge at_
      constructor
      · rintro ⟨a, b, c⟩
        have hd := b d (List.mem_cons_self ..)
        exact ⟨fun _ => by show 0 ≤ sh d; omega, a, (by rw [e]; exact fun k hk => (b k hk).trans hd.symm), c⟩
      · rintro ⟨o, g⟩
        have o : 0 ≤ sh d := o rfl
        have go := g.outs
        rw [e] at go
        have go : ∀ k ∈ d :: ds, sh k = sh d := go
        have gd := ge d (List.mem_cons_self ..)
        have mt_ : mt = sh d := by
          rcases at_ with z | ⟨k, hk, z⟩
          · omega
          · rw [← z]; exact go k hk
        exact ⟨g.ins, (fun k hk => by rw [mt_]; exact go k hk), g.tr⟩
section
variable {P : Program} {w : World} {K : PySem.W.Frag} {mg : Str → Option Value} {base : Heap}
def sp_law_let_by (K : PySem.W.Frag) : Sp := fun vs H Q _ => ∃ (r sl : Addr) (hs : List HR) (bs : List BR) (late : Option Nat) (sh : Nat → Int), vs = [.ref r, lateV late, .ref sl] ∧ RoomAt H r hs bs ∧ RoomOk hs bs ∧ H sl = some (.tup (levL hs.length sh)) ∧ ∀ (c : Bool) (H' : Hp), (c = true ↔ LetBy hs bs late sh) → Same H H' → Q (.bl c) H'
theorem ok_law_let_by {f : Addr} {fd : FuncData} (F : Fun K "_law_let_by" "_law_let_by" s_law_let_by f fd) (T : Top K mg) : FnOk P w K mg base CX0 2 f fd ["_law_room_here", "_law_late_here", "_law_shifts_here"] (sp_law_let_by K) := by
  obtain ⟨f_law_trays, fd_law_trays, F_law_trays, b_law_trays, m_law_trays⟩ := T.d_law_trays
  have G_law_trays := ok_law_trays (P := P) (w := w) (base := base) F_law_trays T
  refine F.ok sc_law_let_by (fun vs H Q E h => ?_) (fun cdv A outer s H vs Q E hr h => ?_)
  · obtain ⟨r, sl, hs, bs, late, sh, rfl, _⟩ := h
    rfl
  obtain ⟨r, sl, hs, bs, late, sh, rfl, hR, ok, hsl, q⟩ := h
  obtain ⟨ha, ba, hv, bv, er, eh, eb, alh, alb⟩ := id hR.ex
  have lhv := alh.length
  have lh := ok.hands
  have lbs := ok.many
  let R1 : TS := fun D' σ' H' => D'.rt = Q ∧ ∃ (ol : Addr) (v4 : Option V), σ' = [some (.ref r), some (lateV late), some (.ref sl), some (.ref ol), v4, none, none, none] ∧ H' ol = some (.lst (((doorsOf "out" hs).map sh).map V.int)) ∧ Same H H'
  let R2 : TS := fun D' σ' H' => D'.rt = Q ∧ ∃ (ol il : Addr) (v4 : Option V), σ' = [some (.ref r), some (lateV late), some (.ref sl), some (.ref ol), v4, some (.ref il), none, none] ∧ H' ol = some (.lst (((doorsOf "out" hs).map sh).map V.int)) ∧ H' il = some (.lst (((doorsOf "in" hs).map sh).map V.int)) ∧ Same H H'
  let R3 : TS := fun D' σ' H' => D'.rt = Q ∧ ∃ (ol il : Addr) (v4 : Option V) (mt : Int), σ' = [some (.ref r), some (lateV late), some (.ref sl), some (.ref ol), v4, some (.ref il), some (.int mt), none] ∧ H' ol = some (.lst (((doorsOf "out" hs).map sh).map V.int)) ∧ H' il = some (.lst (((doorsOf "in" hs).map sh).map V.int)) ∧ Meant hs sh late mt ∧ Same H H'
  refine ⟨_, (pss_cons (ps_setLc (i := 3) (own := [("_law_k", 4)]) (g := gName 4) (by rfl) sc_law_let_by.nd rfl rfl (sw_true rfl rfl rfl (by decide +kernel)) (pi_range1 (by rfl) T.m_range (pa_cons (pe_callB (call_len_seqK K rfl) (by rfl) T.m_len (by decide +kernel) (pa_cons (pv 2) pa_nil)) pa_nil)) (blkOk_by (own := [("_law_k", 4)]) (N := N_law_let_by) (sc := defScope s_law_let_by) (by decide +kernel)) (fun _ _ _ _ _ => (pg_name (i := 4) sc_law_let_by.nd rfl (Or.inl rfl))) (fun _ _ _ _ _ => pts_one (pt_cmpR (op_eqDK K rfl hr.units) (pe_ix (ix_tupK K rfl) (pe_ix (ix_tupK K rfl) (pe_ix (ix_tupK K rfl) (pv 0) pe_int (fun _ _ => rfl)) (pv 4) (fun _ _ => rfl)) pe_int (fun _ _ => rfl)) (pe_tup (pa_cons pe_str pa_nil)) (nomark _))) (fun _ _ _ _ _ => (pe_ix (ix_tupK K rfl) (pv 2) (pv 4) (fun _ _ => rfl))))
      (PSs.to (pss_cons (ps_setLc (i := 5) (own := [("_law_k", 4)]) (g := gName 4) (by rfl) sc_law_let_by.nd rfl rfl (sw_true rfl rfl rfl (by decide +kernel)) (pi_range1 (by rfl) T.m_range (pa_cons (pe_callB (call_len_seqK K rfl) (by rfl) T.m_len (by decide +kernel) (pa_cons (pv 2) pa_nil)) pa_nil)) (blkOk_by (own := [("_law_k", 4)]) (N := N_law_let_by) (sc := defScope s_law_let_by) (by decide +kernel)) (fun _ _ _ _ _ => (pg_name (i := 4) sc_law_let_by.nd rfl (Or.inl rfl))) (fun _ _ _ _ _ => pts_one (pt_cmpR (op_eqDK K rfl hr.units) (pe_ix (ix_tupK K rfl) (pe_ix (ix_tupK K rfl) (pe_ix (ix_tupK K rfl) (pv 0) pe_int (fun _ _ => rfl)) (pv 4) (fun _ _ => rfl)) pe_int (fun _ _ => rfl)) (pe_tup (pa_cons pe_str pa_nil)) (nomark _))) (fun _ _ _ _ _ => (pe_ix (ix_tupK K rfl) (pv 2) (pv 4) (fun _ _ => rfl))))
      (PSs.to (pss_cons (ps_set (i := 6) sc_law_let_by.nd rfl (Or.inr rfl) (pv 1))
      (pss_cons (ps_if (pt_cmpR op_isN (pv 1) pe_non (nomark _)) (pss_one (ps_set (i := 6) sc_law_let_by.nd rfl (Or.inr rfl) (pe_callB (cr_maxKK K rfl rfl) (by rfl) T.m_max (by decide +kernel) (pa_cons (pe_op op_cat (pv 3) (pe_lst (pa_cons pe_int pa_nil))) pa_nil)))) pss_nil)
      (PSs.to (pss_cons (ps_if (PW.pt (pw_or (pt_val (pe_callB (cr_anyK K rfl rfl) (by rfl) T.m_any (by decide +kernel) (pa_cons (pe_lc (own := [("_law_one", 7)]) (g := gName 7) (tt := tYes) (by rfl) sc_law_let_by.nd (pi_listK K rfl (pv 5)) (blkOk_by (own := [("_law_one", 7)]) (N := N_law_let_by) (sc := defScope s_law_let_by) (by decide +kernel)) (fun _ _ _ _ _ => (pg_name (i := 7) sc_law_let_by.nd rfl (Or.inl rfl))) (fun _ _ _ _ _ => pts_nil) (fun _ _ _ _ _ => (pe_cmpR op_ne (pv 7) pe_int (nomark _)))) pa_nil))) (pw_or1 (pt_val (pe_callB (cr_anyK K rfl rfl) (by rfl) T.m_any (by decide +kernel) (pa_cons (pe_lc (own := [("_law_one", 7)]) (g := gName 7) (tt := tYes) (by rfl) sc_law_let_by.nd (pi_listK K rfl (pv 3)) (blkOk_by (own := [("_law_one", 7)]) (N := N_law_let_by) (sc := defScope s_law_let_by) (by decide +kernel)) (fun _ _ _ _ _ => (pg_name (i := 7) sc_law_let_by.nd rfl (Or.inl rfl))) (fun _ _ _ _ _ => pts_nil) (fun _ _ _ _ _ => (pe_cmpR op_ne (pv 7) (pv 6) (nomark _)))) pa_nil)))))) (pss_one (ps_ret pe_bl)) pss_nil)
      (pss_one (ps_ret (pe_cmpR op_eq (pe_callB (cr_minKK K rfl rfl) (by rfl) T.m_min (by decide +kernel) (pa_cons (pe_op op_cat (pe_lst (pa_cons pe_int pa_nil)) (pe_call G_law_trays (hr.mono (by decide)) (by rfl) m_law_trays F_law_trays.kp b_law_trays .nil pass0 (pa_cons (pv 0) (pa_cons (pv 2) pa_nil)))) pa_nil)) pe_int (nomark _))))) R3 ?tail3))) R2 ?tail2)) R1 ?tail1)), ?_⟩
  case tail2 =>
    rintro D' σ' H1 ⟨eD, ol, il, v4, rfl, hol, hil, s1⟩
    have d1 := doors_len (z := "out") (hs := hs)
    refine ⟨_, rfl, ?_⟩
    cases late with
    | some l => exact ⟨_, rfl, rfl, _, rfl, if_bl (fun z => absurd (of_decide_eq_true z) (fun y => nomatch y)) (fun _ => ⟨eD, ol, il, _, _, rfl, hol, hil, ⟨fun l' e => by cases e; rfl, (fun z => nomatch z), (fun z => nomatch z), fun z => nomatch z⟩, s1⟩)⟩
    | none =>
      refine ⟨_, rfl, rfl, _, rfl, if_bl (fun _ => ?_) (fun z => absurd rfl (of_decide_eq_false z))⟩
      refine ⟨_, rfl, (by show 1 ≤ sizeLine; decide), fun l0 nl0 => ?_⟩
      have s2 := same_new (o := .lst [V.int 0]) nl0
      refine ⟨ol, l0, _, _, rfl, rfl, s2 _ _ hol, upd_same, by rw [List.length_map, List.length_map]; exact little (by show _ + 1 ≤ 1000; omega), fun p np => ?_⟩
      refine ⟨p, (doorsOf "out" hs).map sh ++ [0], rfl, SqL.of (by rw [upd_same, List.map_append]; rfl), by simp, fun m hm hle => ?_⟩
      have s3 := s2.trans (same_new (o := .lst (((doorsOf "out" hs).map sh).map V.int ++ [V.int 0])) np)
      refine ⟨eD, ol, il, _, m, rfl, s3 _ _ hol, s3 _ _ hil, ⟨(fun _ z => nomatch z), fun _ => hle 0 (List.mem_append_right _ (List.mem_singleton.mpr rfl)), fun _ k hk => hle _ (List.mem_append_left _ (List.mem_map.mpr ⟨k, hk, rfl⟩)), fun _ => ?_⟩, s1.trans s3⟩
      rcases List.mem_append.mp hm with z | z
      · obtain ⟨k', hk', e⟩ := List.mem_map.mp z
        exact .inr ⟨k', hk', e⟩
      · exact .inl (List.mem_singleton.mp z)
  case tail3 =>
    rintro D' σ' H1 ⟨eD, ol, il, v4, mt, rfl, hol, hil, mn, s1⟩
    have d1 := doors_len (z := "out") (hs := hs)
    have d2 := doors_len (z := "in") (hs := hs)
    have no : ∀ H', Same H H' → ¬ LetBy hs bs late sh → D'.rt (.bl false) H' := fun H' s n => by
      rw [eD]
      exact q false H' ⟨(fun z => nomatch z), fun z => absurd z n⟩ s
    refine ⟨_, rfl, il, rfl, ⟨_, SqL.of hil⟩, fun D nD => lc_list (K := K) (a := il) (xs := ((doorsOf "in" hs).map sh).map V.int) (fun i H5 => H5 D = some (.lst ((((doorsOf "in" hs).take i).map fun k => !decide (V.int (sh k) = V.int 0)).map V.bl)) ∧ Same H1 H5) ⟨upd_same, same_new nD⟩ (fun i H5 _ ⟨_, s5⟩ => SqL.of (s5 _ _ hil)) ?_ ?_⟩
    · rintro i x H5 hx ⟨hD, s5⟩
      have il2 := (List.getElem?_eq_some_iff.mp hx).1
      rw [List.length_map, List.length_map] at il2
      have ek : (doorsOf "in" hs)[i]? = some (doorsOf "in" hs)[i] := List.getElem?_eq_getElem il2
      rw [List.getElem?_map, List.getElem?_map, ek] at hx
      obtain rfl := Option.some.inj hx
      refine ⟨rfl, yes_in ⟨_, rfl, rfl, _, hD, by rw [List.length_map, List.length_map, List.length_take]; exact small1000 (by omega), ?_, Same.own s5 nD⟩⟩
      rw [upd_same, List.take_add_one, ek, List.map_append, List.map_append]
      rfl
    rintro H2 ⟨hD, s2⟩
    rw [List.length_map, List.length_map, List.take_length] at hD
    refine ⟨D, _, rfl, SqL.of hD, _, rfl, if_bl (fun c => ?_) (fun c => ?_)⟩
    · refine no H2 (s1.trans s2) fun lb => ?_
      obtain ⟨z, hz, hz2⟩ := List.any_eq_true.mp c
      obtain ⟨k, hk, rfl⟩ := List.mem_map.mp hz
      have := (let_iff mn).mpr lb
      rw [this.1 k hk, id_eq, decide_eq_true rfl] at hz2
      cases hz2
    have ins : ∀ k ∈ doorsOf "in" hs, sh k = 0 := fun k hk => by
      have := List.any_eq_false.mp c _ (List.mem_map.mpr ⟨k, hk, rfl⟩)
      refine Classical.byContradiction fun ne => this ?_
      show (!decide (V.int (sh k) = V.int 0)) = true
      rw [decide_eq_false fun z => ne (V.int.inj z)]
      rfl
    have hol2 := s2 _ _ hol
    refine ⟨_, rfl, ol, rfl, ⟨_, SqL.of hol2⟩, fun D2 nD2 => lc_list (K := K) (a := ol) (xs := ((doorsOf "out" hs).map sh).map V.int) (fun i H5 => H5 D2 = some (.lst ((((doorsOf "out" hs).take i).map fun k => !decide (V.int (sh k) = V.int mt)).map V.bl)) ∧ Same H2 H5) ⟨upd_same, same_new nD2⟩ (fun i H5 _ ⟨_, s5⟩ => SqL.of (s5 _ _ hol2)) ?_ ?_⟩
    · rintro i x H5 hx ⟨hD, s5⟩
      have il2 := (List.getElem?_eq_some_iff.mp hx).1
      rw [List.length_map, List.length_map] at il2
      have ek : (doorsOf "out" hs)[i]? = some (doorsOf "out" hs)[i] := List.getElem?_eq_getElem il2
      rw [List.getElem?_map, List.getElem?_map, ek] at hx
      obtain rfl := Option.some.inj hx
      refine ⟨rfl, yes_in ⟨_, rfl, _, rfl, rfl, _, hD, by rw [List.length_map, List.length_map, List.length_take]; exact small1000 (by omega), ?_, Same.own s5 nD2⟩⟩
      rw [upd_same, List.take_add_one, ek, List.map_append, List.map_append]
      rfl
    rintro H3 ⟨hD2, s3⟩
    rw [List.length_map, List.length_map, List.take_length] at hD2
    have s03 := (s1.trans s2).trans s3
    refine ⟨D2, _, rfl, SqL.of hD2, _, rfl, if_bl (fun c => ?_) (fun c => ?_)⟩
    · refine no H3 s03 fun lb => ?_
      obtain ⟨z, hz, hz2⟩ := List.any_eq_true.mp c
      obtain ⟨k, hk, rfl⟩ := List.mem_map.mp hz
      have := (let_iff mn).mpr lb
      rw [this.2.1 k hk, id_eq, decide_eq_true rfl] at hz2
      cases hz2
    have outs : ∀ k ∈ doorsOf "out" hs, sh k = mt := fun k hk => by
      have := List.any_eq_false.mp c _ (List.mem_map.mpr ⟨k, hk, rfl⟩)
      refine Classical.byContradiction fun ne => this ?_
      show (!decide (V.int (sh k) = V.int mt)) = true
      rw [decide_eq_false fun z => ne (V.int.inj z)]
      rfl
    refine ⟨(by show 1 ≤ sizeLine; decide), fun l0 nl0 => ?_⟩
    have s04 := s03.trans (same_new (o := .lst [V.int 0]) nl0)
    refine ⟨_, rfl, _, rfl, r, sl, hs, bs, sh, rfl, hR.keep (TK.same s04), ok, .inl (s04 _ _ hsl), fun p H5 np hp s5 => ?_⟩
    refine ⟨l0, p, _, _, rfl, rfl, s5 _ _ upd_same, hp, by show 1 + _ ≤ sizeLine; rw [List.length_map]; exact little (by omega), fun p2 np2 => ?_⟩
    refine ⟨p2, 0 :: bs.map (trS sh), rfl, SqL.of (by rw [upd_same, List.map_cons, List.map_map]; rfl), by simp, fun m hm hle => ?_⟩
    refine ⟨rfl, ?_⟩
    rw [eD]
    refine q _ _ ?_ ((s04.trans s5).trans (same_new np2))
    rw [← let_iff mn]
    show decide (V.int m = V.int 0) = true ↔ _
    rw [decide_eq_true_eq]
    constructor
    · intro z
      have z := V.int.inj z
      refine ⟨ins, outs, fun b hb => ?_⟩
      have := hle _ (List.mem_cons_of_mem _ (List.mem_map.mpr ⟨b, hb, rfl⟩))
      omega
    · rintro ⟨_, _, tr⟩
      have h1 := hle 0 (List.mem_cons_self ..)
      have m0 : m = 0 := by
        rcases List.mem_cons.mp hm with z | z
        · exact z
        · obtain ⟨b, hb, rfl⟩ := List.mem_map.mp z
          have := tr b hb
          omega
      rw [m0]
  case tail1 =>
    rintro D' σ' H1 ⟨eD, ol, v4, rfl, hol, s1⟩
    refine ⟨_, rfl, sl, _, rfl, .inr (SqT.of (s1 _ _ hsl)), _, rfl, by rw [List.length_map, List.length_range]; omega, by rw [List.length_map, List.length_range]; omega, fun D nD => lc_range (lo := 0) (n := (levL hs.length sh).length) (fun i H5 => H5 D = some (.lst ((((List.range i).filter fun j => decide (hs[j]?.map HR.wd = some ("in" : Str))).map sh).map V.int)) ∧ Same H1 H5) ⟨upd_same, same_new nD⟩ ?_ ?_⟩
    · rintro i H5 hi ⟨hD, s5⟩
      rw [List.length_map, List.length_range] at hi
      have eh1 : hs[i]? = some hs[i] := List.getElem?_eq_getElem (by omega)
      obtain ⟨x, ex, ⟨t, g, rfl, e1, e2⟩⟩ := alh.get eh1
      have gh := ok.good _ (List.mem_of_getElem? eh1)
      have few := filt_len (p := fun j => decide (hs[j]?.map HR.wd = some ("in" : Str))) i
      have s05 := s1.trans s5
      refine ⟨rfl, _, rfl, r, _, _, _, rfl, rfl, SqT.of (s05 _ _ er), atI_nat (j := 0) rfl, _, rfl, ha, _, _, _, rfl, rfl, SqT.of (s05 _ _ eh), at0 ex, t, _, _, _, rfl, rfl, SqT.of (s05 _ _ e1), atI_nat (j := 0) rfl, (by show 1 ≤ sizeLine; decide), fun o1 no1 => ?_⟩
      have s6 := s5.trans (same_new (o := .tup [V.str "in"]) no1)
      have s06 := s1.trans s6
      have hD6 := same_new (o := .tup [V.str "in"]) no1 _ _ hD
      refine ⟨_, _, rule_dp (s06 _ _ e2), .tup (SqT.of upd_same) (.cons (.str _) .nil), rule_shaped gh.lay, one_shaped (by decide +kernel), _, rfl, ?_⟩
      rw [rule_eqv, gh.door "in" (.inl rfl)]
      by_cases c : hs[i].wd = "in"
      · rw [decide_eq_true c]
        refine if_bl (fun _ => ⟨_, rfl, _, rfl, sl, _, _, _, rfl, rfl, SqT.of (s06 _ _ hsl), at0 (rg_at hi), _, hD6, by rw [List.length_map, List.length_map]; exact small1000 (by omega), ?_, Same.own s6 nD⟩) (fun z => nomatch z)
        rw [upd_same, filt_succ, if_pos (decide_eq_true (by rw [eh1, ← c]; rfl)), List.map_append, List.map_append]
        rfl
      · rw [decide_eq_false c]
        refine if_bl (fun z => nomatch z) (fun _ => ⟨?_, s6⟩)
        rw [filt_succ, if_neg fun z => c (by have := of_decide_eq_true z; rw [eh1] at this; exact Option.some.inj this), List.append_nil]
        exact hD6
    · rintro H5 ⟨hD, s5⟩
      rw [List.length_map, List.length_range] at hD
      exact ⟨eD, ol, D, _, rfl, s5 _ _ hol, hD, s1.trans s5⟩
  refine ⟨_, rfl, sl, _, rfl, .inr (SqT.of hsl), _, rfl, by rw [List.length_map, List.length_range]; omega, by rw [List.length_map, List.length_range]; omega, fun D nD => lc_range (lo := 0) (n := (levL hs.length sh).length) (fun i H5 => H5 D = some (.lst ((((List.range i).filter fun j => decide (hs[j]?.map HR.wd = some ("out" : Str))).map sh).map V.int)) ∧ Same H H5) ⟨upd_same, same_new nD⟩ ?_ ?_⟩
  · rintro i H5 hi ⟨hD, s5⟩
    rw [List.length_map, List.length_range] at hi
    have eh1 : hs[i]? = some hs[i] := List.getElem?_eq_getElem (by omega)
    obtain ⟨x, ex, ⟨t, g, rfl, e1, e2⟩⟩ := alh.get eh1
    have gh := ok.good _ (List.mem_of_getElem? eh1)
    have few := filt_len (p := fun j => decide (hs[j]?.map HR.wd = some ("out" : Str))) i
    refine ⟨rfl, _, rfl, r, _, _, _, rfl, rfl, SqT.of (s5 _ _ er), atI_nat (j := 0) rfl, _, rfl, ha, _, _, _, rfl, rfl, SqT.of (s5 _ _ eh), at0 ex, t, _, _, _, rfl, rfl, SqT.of (s5 _ _ e1), atI_nat (j := 0) rfl, (by show 1 ≤ sizeLine; decide), fun o1 no1 => ?_⟩
    have s6 := s5.trans (same_new (o := .tup [V.str "out"]) no1)
    have hD6 := same_new (o := .tup [V.str "out"]) no1 _ _ hD
    refine ⟨_, _, rule_dp (s6 _ _ e2), .tup (SqT.of upd_same) (.cons (.str _) .nil), rule_shaped gh.lay, one_shaped (by decide +kernel), _, rfl, ?_⟩
    rw [rule_eqv, gh.door "out" (.inr rfl)]
    by_cases c : hs[i].wd = "out"
    · rw [decide_eq_true c]
      refine if_bl (fun _ => ⟨_, rfl, _, rfl, sl, _, _, _, rfl, rfl, SqT.of (s6 _ _ hsl), at0 (rg_at hi), _, hD6, by rw [List.length_map, List.length_map]; exact small1000 (by omega), ?_, Same.own s6 nD⟩) (fun z => nomatch z)
      rw [upd_same, filt_succ, if_pos (decide_eq_true (by rw [eh1, ← c]; rfl)), List.map_append, List.map_append]
      rfl
    · rw [decide_eq_false c]
      refine if_bl (fun z => nomatch z) (fun _ => ⟨?_, s6⟩)
      rw [filt_succ, if_neg fun z => c (by have := of_decide_eq_true z; rw [eh1] at this; exact Option.some.inj this), List.append_nil]
      exact hD6
  · rintro H5 ⟨hD, s5⟩
    rw [List.length_map, List.length_range] at hD
    exact ⟨rfl, D, _, rfl, hD, s5⟩
def sp_law_reach (K : PySem.W.Frag) : Sp := fun vs H Q _ => ∃ (r sl : Addr) (hs : List HR) (bs : List BR) (late : Option Nat) (T : Int) (sh : Nat → Int), vs = [.ref r, lateV late, .int T, .ref sl] ∧ RoomAt H r hs bs ∧ RoomOk hs bs ∧ 0 < hs.length ∧ H sl = some (.tup (levL hs.length sh)) ∧ ∀ (c : Bool) (H' : Hp), (c = true ↔ Holds hs bs late sh T) → Same H H' → Q (.bl c) H'
theorem ok_law_reach {f : Addr} {fd : FuncData} (F : Fun K "_law_reach" "_law_reach" s_law_reach f fd) (T : Top K mg) : FnOk P w K mg base CX0 3 f fd ["_law_room_here", "_law_late_here", "_law_time", "_law_shifts_here"] (sp_law_reach K) := by
  obtain ⟨f_law_let_by, fd_law_let_by, F_law_let_by, b_law_let_by, m_law_let_by⟩ := T.d_law_let_by
  have G_law_let_by := ok_law_let_by (P := P) (w := w) (base := base) F_law_let_by T
  obtain ⟨f_law_time_of, fd_law_time_of, F_law_time_of, b_law_time_of, m_law_time_of⟩ := T.d_law_time_of
  have G_law_time_of := ok_law_time_of (P := P) (w := w) (base := base) F_law_time_of T
  obtain ⟨f_law_trays, fd_law_trays, F_law_trays, b_law_trays, m_law_trays⟩ := T.d_law_trays
  have G_law_trays := ok_law_trays (P := P) (w := w) (base := base) F_law_trays T
  refine F.ok sc_law_reach (fun vs H Q E h => ?_) (fun cdv A outer s H vs Q E hr h => ?_)
  · obtain ⟨r, sl, hs, bs, late, T', sh, rfl, _⟩ := h
    rfl
  obtain ⟨r, sl, hs, bs, late, T', sh, rfl, hR, ok, pos, hsl, q⟩ := h
  refine ⟨_, (pss_one (ps_ret (pe_and (pe_call G_law_let_by (hr.mono (by decide)) (by rfl) m_law_let_by F_law_let_by.kp b_law_let_by .nil pass0 (pa_cons (pv 0) (pa_cons (pv 1) (pa_cons (pv 3) pa_nil)))) (pe_one (pe_cmpR op_le (pe_call G_law_time_of (hr.mono (by decide)) (by rfl) m_law_time_of F_law_time_of.kp b_law_time_of .nil pass0 (pa_cons (pv 0) (pa_cons (pe_call G_law_trays (hr.mono (by decide)) (by rfl) m_law_trays F_law_trays.kp b_law_trays .nil pass0 (pa_cons (pv 0) (pa_cons (pv 3) pa_nil))) pa_nil))) (pv 2) (nomark _)))))), ?_⟩
  refine ⟨_, rfl, _, rfl, _, rfl, r, sl, hs, bs, late, sh, rfl, hR, ok, hsl, fun c H1 hc s1 => ⟨_, rfl, if_bl (fun z => ?_) (fun z => ?_)⟩⟩
  · have lb := hc.mp z
    refine ⟨_, rfl, _, rfl, _, rfl, r, sl, hs, bs, sh, rfl, hR.keep (TK.same s1), ok, .inl (s1 _ _ hsl), fun p H2 np hp s2 => ?_⟩
    refine ⟨r, p, hs, bs, sh, rfl, hR.keep (TK.same (s1.trans s2)), ok, hp, fun T1 H3 t0 t1 t2 s3 => ?_⟩
    refine ⟨_, rfl, _, _, rfl, rfl, ?_⟩
    show Q (.bl (decide (T1 ≤ T'))) H3
    refine q _ H3 ?_ ((s1.trans s2).trans s3)
    rw [decide_eq_true_eq]
    constructor
    · exact fun le => ⟨lb.1, lb.2, fun one ns e ho we zw => Int.le_trans (t1 one ns e ho we zw) le⟩
    · exact fun z => t2 T' (z.2.2.nn ok pos) z.2.2
  · refine q _ H1 ?_ s1
    constructor
    · exact fun y => nomatch y
    · intro y
      have := hc.mpr ⟨y.1, y.2.1⟩
      rw [z] at this
      cases this
end
abbrev setS (sh : Nat → Int) (k : Nat) (v : Int) : Nat → Int := fun p => if p = k then v else sh p
theorem lev_of38 {ys : List Int} {n : Nat} (h : ys.length = n) : ys.map V.int = levL n fun k => ys.getD k 0 := by
  refine List.ext_getElem? fun i => ?_
  by_cases l : i < n
  · rw [rg_at l, List.getElem?_map, List.getElem?_eq_getElem (by omega)]
    show _ = some (V.int (ys.getD i 0))
    rw [List.getD_eq_getElem?_getD, List.getElem?_eq_getElem (by omega)]
    rfl
  · rw [List.getElem?_eq_none (by rw [List.length_map]; omega), List.getElem?_eq_none (by rw [List.length_map, List.length_range]; omega)]
theorem levL_len {n : Nat} {sh : Nat → Int} : (levL n sh).length = n := by rw [List.length_map, List.length_range]
section
variable {P : Program} {w : World} {K : PySem.W.Frag} {mg : Str → Option Value} {base : Heap}
def sp_law_late (K : PySem.W.Frag) : Sp := fun vs H Q _ => ∃ f c : Addr, vs = [.ref f] ∧ Flow H f c ∧ ∀ (late : Option Nat) (H' : Hp), (∀ l, late = some l → l ≤ 6) → Flow H' f c → But f H H' → Q (lateV late) H'
theorem ok_law_late {f : Addr} {fd : FuncData} (F : Fun K "_law_late" "_law_late" s_law_late f fd) (T : Top K mg) : FnOk P w K mg base CX0 2 f fd ["_law_flow_here"] (sp_law_late K) := by
  obtain ⟨f_law_pick, fd_law_pick, F_law_pick, b_law_pick, m_law_pick⟩ := T.d_law_pick
  have G_law_pick := ok_law_pick (P := P) (w := w) (base := base) F_law_pick T
  refine F.ok sc_law_late (fun vs H Q E h => ?_) (fun cdv A outer s H vs Q E hr h => ?_)
  · obtain ⟨f, c, rfl, _⟩ := h
    rfl
  obtain ⟨f, c, rfl, hF, q⟩ := h
  refine ⟨_, (pss_one (ps_ret (pe_ix (ix_listK K rfl) (pe_lst (pa_cons pe_int (pa_cons pe_int (pa_cons pe_int (pa_cons pe_int (pa_cons pe_int (pa_cons pe_int (pa_cons pe_non (pa_cons pe_non pa_nil))))))))) (pe_call G_law_pick (hr.mono (by decide)) (by rfl) m_law_pick F_law_pick.kp b_law_pick .nil pass0 (pa_cons (pv 0) (pa_cons pe_int pa_nil))) (fun _ _ => rfl)))), ?_⟩
  refine ⟨(by show 8 ≤ sizeLine; decide), fun l nl => ?_⟩
  have F2 := hF.new (o := .lst [V.int 0, V.int 0, V.int 1, V.int 2, V.int 3, V.int 6, V.non, V.non]) nl
  refine ⟨_, rfl, f, c, 8, rfl, by decide, by decide +kernel, F2, fun v H3 v0 v1 F3 B3 => ?_⟩
  obtain ⟨late, l6, hl⟩ : ∃ late : Option Nat, (∀ l, late = some l → l ≤ 6) ∧ atI [V.int 0, V.int 0, V.int 1, V.int 2, V.int 3, V.int 6, V.non, V.non] v = some (lateV late) := by
    have : v = 0 ∨ v = 1 ∨ v = 2 ∨ v = 3 ∨ v = 4 ∨ v = 5 ∨ v = 6 ∨ v = 7 := by omega
    rcases this with rfl | rfl | rfl | rfl | rfl | rfl | rfl | rfl
    · exact ⟨some 0, fun _ e => by cases e; decide, rfl⟩
    · exact ⟨some 0, fun _ e => by cases e; decide, rfl⟩
    · exact ⟨some 1, fun _ e => by cases e; decide, rfl⟩
    · exact ⟨some 2, fun _ e => by cases e; decide, rfl⟩
    · exact ⟨some 3, fun _ e => by cases e; decide, rfl⟩
    · exact ⟨some 6, fun _ e => by cases e; decide, rfl⟩
    · exact ⟨none, (fun _ e => nomatch e), rfl⟩
    · exact ⟨none, (fun _ e => nomatch e), rfl⟩
  exact ⟨l, _, _, _, rfl, rfl, SqL.of (B3 _ _ upd_same (hF.ne nl)), hl, q late H3 l6 F3 ((But.refl.new nl).trans B3)⟩
end
/-- a drawn room, a flow, and tables -/
structure Gx (PT : Addr × Addr) (H : Hp) (f c r : Addr) (hs : List HR) (bs : List BR) : Prop where
  fl : Flow H f c
  R : RoomAt H r hs bs
  ok : RoomOk hs bs
  pos : 0 < hs.length
  tb : LamX.Tabs (TL PT) H
theorem Gx.same {PT : Addr × Addr} {H H' : Hp} {f c r : Addr} {hs : List HR} {bs : List BR} (g : Gx PT H f c r hs bs) (s : Same H H') : Gx PT H' f c r hs bs := ⟨g.fl.same s, g.R.keep (TK.same s), g.ok, g.pos, tabs_same g.tb s⟩
theorem Gx.but {PT : Addr × Addr} {H H' : Hp} {f c r : Addr} {hs : List HR} {bs : List BR} (g : Gx PT H f c r hs bs) (F : Flow H' f c) (b : But f H H') : Gx PT H' f c r hs bs := ⟨F, g.R.keep (TK.but g.fl b), g.ok, g.pos, tabs_but g.tb g.fl b⟩
theorem Gx.ext {PT : Addr × Addr} {H H' : Hp} {f c r : Addr} {hs : List HR} {bs : List BR} (g : Gx PT H f c r hs bs) (e : LamX.ExtN H H') (t : LamX.Tabs (TL PT) H') : Gx PT H' f c r hs bs := ⟨ExtN.flow e g.fl, g.R.keep (ExtN.tk e), g.ok, g.pos, t⟩
theorem Gx.lst {PT : Addr × Addr} {H : Hp} {f c r D : Addr} {hs : List HR} {bs : List BR} {xs ys : List V} (g : Gx PT H f c r hs bs) (h : H D = some (.lst xs)) (n1 : D ≠ f) (n2 : D ≠ c) : Gx PT (upd H D (.lst ys)) f c r hs bs := ⟨g.fl.lst n1 n2, g.R.keep (TK.lst h), g.ok, g.pos, tabs_lst g.tb h⟩
section
variable {P : Program} {w : World} {K : PySem.W.Frag} {mg : Str → Option Value} {base : Heap} {cT cG : Addr} {PT : Addr × Addr} [TLI : TabL K mg base cT PT] [TI : TabI K mg base cG PT]
include TLI TI
def sp_law (K : PySem.W.Frag) (PT : Addr × Addr) : Sp := fun vs H Q _ => ∃ (a : Addr) (ns : List Int), vs = [.ref a] ∧ SqL K H a (ns.map V.int) ∧ ns.length ≤ 63 ∧ LamX.Tabs (TL PT) H ∧ ∀ H', Q (.bl true) H'
theorem ok_law {f : Addr} {fd : FuncData} (F : Fun K "law" "law" s_law f fd) (T : Top K mg) : FnOk P w K mg base CX0 6 f fd ["_law_script"] (sp_law K PT) := by
  obtain ⟨f_law_flow, fd_law_flow, F_law_flow, b_law_flow, m_law_flow⟩ := T.d_law_flow
  have G_law_flow := ok_law_flow (P := P) (w := w) (base := base) F_law_flow T
  obtain ⟨f_law_pick, fd_law_pick, F_law_pick, b_law_pick, m_law_pick⟩ := T.d_law_pick
  have G_law_pick := ok_law_pick (P := P) (w := w) (base := base) F_law_pick T
  obtain ⟨f_law_room, fd_law_room, F_law_room, b_law_room, m_law_room⟩ := T.d_law_room
  have G_law_room := ok_law_room (P := P) (w := w) (base := base) F_law_room T
  obtain ⟨f_law_late, fd_law_late, F_law_late, b_law_late, m_law_late⟩ := T.d_law_late
  have G_law_late := ok_law_late (P := P) (w := w) (base := base) F_law_late T
  obtain ⟨f_law_shifts, fd_law_shifts, F_law_shifts, b_law_shifts, m_law_shifts⟩ := T.d_law_shifts
  have G_law_shifts := ok_law_shifts (P := P) (w := w) (base := base) F_law_shifts T
  obtain ⟨f_law_time_of, fd_law_time_of, F_law_time_of, b_law_time_of, m_law_time_of⟩ := T.d_law_time_of
  have G_law_time_of := ok_law_time_of (P := P) (w := w) (base := base) F_law_time_of T
  obtain ⟨f_law_trays, fd_law_trays, F_law_trays, b_law_trays, m_law_trays⟩ := T.d_law_trays
  have G_law_trays := ok_law_trays (P := P) (w := w) (base := base) F_law_trays T
  obtain ⟨f_shifts_hold, fd_shifts_hold, F_shifts_hold, b_shifts_hold, m_shifts_hold⟩ := T.d_shifts_hold
  have G_shifts_hold := ok_shifts_hold (P := P) (w := w) (base := base) F_shifts_hold T
  obtain ⟨f_law_reach, fd_law_reach, F_law_reach, b_law_reach, m_law_reach⟩ := T.d_law_reach
  have G_law_reach := ok_law_reach (P := P) (w := w) (base := base) F_law_reach T
  refine F.ok sc_law (fun vs H Q E h => ?_) (fun cdv A outer s H vs Q E hr h => ?_)
  · obtain ⟨a, ns, rfl, _⟩ := h
    rfl
  obtain ⟨a, ns, rfl, hS, hlen, tabs, q⟩ := h
  let sg : Addr → Int → Int → Addr → Option Nat → Option V → Option V → Option V → Option V → Option V → Option V → Option V → Option V → Option V → L2.St := fun f wr fm r late v6 v7 v8 v9 v10 v11 v12 v13 v14 => [some (.ref a), some (.ref f), some (.int wr), some (.int fm), some (.ref r), some (lateV late), v6, v7, v8, v9, v10, v11, v12, v13, v14, none]
  let R1 : TS := fun D' σ' H' => D'.rt = Q ∧ ∃ (f c r : Addr) (hs : List HR) (bs : List BR) (wr fm mt : Int) (late : Option Nat), σ' = sg f wr fm r late (some (.int mt)) none none none none none none none none ∧ Gx PT H' f c r hs bs ∧ (∃ h ∈ hs, h.wd ≠ "out" ∧ h.wd ≠ "in") ∧ 0 ≤ wr ∧ wr ≤ 2 ∧ 0 ≤ fm ∧ fm ≤ 3 ∧ 0 ≤ mt ∧ mt ≤ 6
  let R2 : TS := fun D' σ' H' => D'.rt = Q ∧ ∃ (f c r sl : Addr) (hs : List HR) (bs : List BR) (wr fm mt : Int) (late : Option Nat) (sh : Nat → Int), σ' = sg f wr fm r late (some (.int mt)) (some (.ref sl)) none none none none none none none ∧ Gx PT H' f c r hs bs ∧ H' sl = some (.tup (levL hs.length sh)) ∧ 0 ≤ wr ∧ wr ≤ 2 ∧ 0 ≤ fm ∧ fm ≤ 3
  let R3 : TS := fun D' σ' H' => D'.rt = Q ∧ ∃ (f c r sl : Addr) (hs : List HR) (bs : List BR) (wr fm mt : Int) (late : Option Nat) (sh : Nat → Int) (v8 v9 v10 : Option V), σ' = sg f wr fm r late (some (.int mt)) (some (.ref sl)) v8 v9 v10 none none none none ∧ Gx PT H' f c r hs bs ∧ H' sl = some (.tup (levL hs.length sh)) ∧ 0 ≤ fm ∧ fm ≤ 3
  let R4 : TS := fun D' σ' H' => D'.rt = Q ∧ ∃ (f c r sl : Addr) (hs : List HR) (bs : List BR) (wr fm mt le tm : Int) (late : Option Nat) (sh : Nat → Int) (v8 v9 v10 : Option V), σ' = sg f wr fm r late (some (.int mt)) (some (.ref sl)) v8 v9 v10 (some (.int le)) (some (.int tm)) none none ∧ Gx PT H' f c r hs bs ∧ H' sl = some (.tup (levL hs.length sh))
  let R5 : TS := fun D' σ' H' => D'.rt = Q ∧ ∃ (f c r : Addr) (hs : List HR) (bs : List BR) (wr fm : Int) (late : Option Nat) (v6 v7 v8 v9 v10 v11 v12 v13 : Option V), σ' = sg f wr fm r late v6 v7 v8 v9 v10 v11 v12 v13 none ∧ Gx PT H' f c r hs bs
  refine ⟨_, (pss_cons (ps_set (i := 1) sc_law.nd rfl (Or.inr rfl) (pe_call G_law_flow (hr.mono (by decide)) (by rfl) m_law_flow F_law_flow.kp b_law_flow .nil pass0 (pa_cons (pv 0) pa_nil)))
      (pss_cons (ps_set (i := 2) sc_law.nd rfl (Or.inl rfl) (pe_ix (ix_listK K rfl) (pe_lst (pa_cons pe_int (pa_cons pe_int (pa_cons pe_int (pa_cons pe_int pa_nil))))) (pe_call G_law_pick (hr.mono (by decide)) (by rfl) m_law_pick F_law_pick.kp b_law_pick .nil pass0 (pa_cons (pv 1) (pa_cons pe_int pa_nil))) (fun _ _ => rfl)))
      (pss_cons (ps_set (i := 3) sc_law.nd rfl (Or.inl rfl) (pe_call G_law_pick (hr.mono (by decide)) (by rfl) m_law_pick F_law_pick.kp b_law_pick .nil pass0 (pa_cons (pv 1) (pa_cons pe_int pa_nil))))
      (pss_cons (ps_set (i := 4) sc_law.nd rfl (Or.inl rfl) (pe_call G_law_room (hr.mono (by decide)) (by rfl) m_law_room F_law_room.kp b_law_room .nil pass0 (pa_cons (pv 1) (pa_cons pe_int pa_nil))))
      (pss_cons (ps_set (i := 5) sc_law.nd rfl (Or.inl rfl) (pe_call G_law_late (hr.mono (by decide)) (by rfl) m_law_late F_law_late.kp b_law_late .nil pass0 (pa_cons (pv 1) pa_nil)))
      (pss_cons (ps_set (i := 6) sc_law.nd rfl (Or.inl rfl) (pv 5))
      (pss_cons (ps_if (pt_cmpR op_isN (pv 5) pe_non (nomark _)) (pss_one (ps_set (i := 6) sc_law.nd rfl (Or.inl rfl) (pe_call G_law_pick (hr.mono (by decide)) (by rfl) m_law_pick F_law_pick.kp b_law_pick .nil pass0 (pa_cons (pv 1) (pa_cons pe_int pa_nil))))) pss_nil)
      (PSs.to (pss_cons (ps_set (i := 7) sc_law.nd rfl (Or.inl rfl) (pe_call G_law_shifts (hr.mono (by decide)) (by rfl) m_law_shifts F_law_shifts.kp b_law_shifts .nil pass0 (pa_cons (pv 1) (pa_cons (pv 4) (pa_cons (pv 6) (pa_cons (pe_call G_law_pick (hr.mono (by decide)) (by rfl) m_law_pick F_law_pick.kp b_law_pick .nil pass0 (pa_cons (pv 1) (pa_cons pe_int pa_nil))) pa_nil))))))
      (PSs.to (pss_cons (ps_for PassesOwn.never rfl (pi_range1 (by rfl) T.m_range (pa_cons (pv 2) pa_nil)) (pg_name (i := 8) sc_law.nd rfl (Or.inl rfl))
        (pss_cons (ps_set (i := 9) sc_law.nd rfl (Or.inl rfl) (pe_call G_law_pick (hr.mono (by decide)) (by rfl) m_law_pick F_law_pick.kp b_law_pick .nil pass0 (pa_cons (pv 1) (pa_cons (pe_callB (call_len_seqK K rfl) (by rfl) T.m_len (by decide +kernel) (pa_cons (pv 7) pa_nil)) pa_nil))))
      (pss_cons (ps_set (i := 10) sc_law.nd rfl (Or.inl rfl) (pe_callB (call_max2 rfl) (by rfl) T.m_max (by decide +kernel) (pa_cons (pe_un un_neg pe_int) (pa_cons (pe_callB (call_min2 rfl) (by rfl) T.m_min (by decide +kernel) (pa_cons pe_int (pa_cons (pe_op op_sub (pe_op op_add (pe_ix (ix_tupK K rfl) (pv 7) (pv 9) (fun _ _ => rfl)) (pe_call G_law_pick (hr.mono (by decide)) (by rfl) m_law_pick F_law_pick.kp b_law_pick .nil pass0 (pa_cons (pv 1) (pa_cons pe_int pa_nil)))) pe_int) pa_nil))) pa_nil))))
      (pss_one (ps_set (i := 7) sc_law.nd rfl (Or.inl rfl) (pe_op (op_catAK K rfl) (pe_op (op_catAK K rfl) (pe_slice (sl_tupAK K rfl) (pv 7) po_none (po_some (pv 9))) (pe_tup (pa_cons (pv 10) pa_nil))) (pe_slice (sl_tupAK K rfl) (pv 7) (po_some (pe_op op_add (pv 9) pe_int)) po_none)))))))
      (PSs.to (pss_cons (ps_set (i := 11) sc_law.nd rfl (Or.inl rfl) (pe_call G_law_time_of (hr.mono (by decide)) (by rfl) m_law_time_of F_law_time_of.kp b_law_time_of .nil pass0 (pa_cons (pv 4) (pa_cons (pe_call G_law_trays (hr.mono (by decide)) (by rfl) m_law_trays F_law_trays.kp b_law_trays .nil pass0 (pa_cons (pv 4) (pa_cons (pv 7) pa_nil))) pa_nil))))
      (pss_cons (ps_set (i := 12) sc_law.nd rfl (Or.inl rfl) (pe_ix (ix_listK K rfl) (pe_lst (pa_cons (pv 11) (pa_cons (pe_callB (call_max2 rfl) (by rfl) T.m_max (by decide +kernel) (pa_cons pe_int (pa_cons (pe_op op_sub (pv 11) pe_int) pa_nil))) (pa_cons (pe_op op_add (pv 11) pe_int) (pa_cons (pe_call G_law_pick (hr.mono (by decide)) (by rfl) m_law_pick F_law_pick.kp b_law_pick .nil pass0 (pa_cons (pv 1) (pa_cons pe_int pa_nil))) pa_nil))))) (pv 3) (fun _ _ => rfl)))
      (PSs.to (pss_cons (ps_for PassesOwn.never rfl (pi_range1 (by rfl) T.m_range (pa_cons pe_int pa_nil)) (pg_name (i := 8) sc_law.nd rfl (Or.inl rfl))
        (pss_one (ps_for PassesOwn.never rfl (pi_listK K rfl (pe_lst (pa_cons (pv 12) (pa_cons (pv 11) (pa_cons (pe_callB (call_max2 rfl) (by rfl) T.m_max (by decide +kernel) (pa_cons pe_int (pa_cons (pe_op op_sub (pv 11) pe_int) pa_nil))) pa_nil))))) (pg_name (i := 10) sc_law.nd rfl (Or.inl rfl))
        (pss_cons (ps_set (i := 13) sc_law.nd rfl (Or.inl rfl) (pe_call G_shifts_hold (hr.mono (by decide)) (by rfl) m_shifts_hold F_shifts_hold.kp b_shifts_hold .nil pass0 (pa_cons (pv 4) (pa_cons (pv 5) (pa_cons (pv 10) (pa_cons (pv 7) pa_nil))))))
      (pss_one (ps_if (PW.pt (pw_or (pt_not (pt_val (pe_callB (call_isiKK K rfl) (by rfl) T.m_isinstance (by decide +kernel) (pa_cons (pv 13) (pa_cons (pe_bltn (v := .ty "bool") (by rfl) T.m_bool (by decide +kernel) rfl) pa_nil))))) (pw_or1 (pt_cmpR op_ne (pv 13) (pe_call G_law_reach (hr.mono (by decide)) (by rfl) m_law_reach F_law_reach.kp b_law_reach .nil pass0 (pa_cons (pv 4) (pa_cons (pv 5) (pa_cons (pv 10) (pa_cons (pv 7) pa_nil))))) (nomark _))))) (pss_one (ps_ret pe_bl)) pss_nil))))))
      (PSs.to (pss_cons (ps_set (i := 14) sc_law.nd rfl (Or.inl rfl) (pe_callTy (call_tuple_ofK K rfl) (by rfl) T.m_tuple (by decide +kernel) (pa_cons (pe_lc (own := [("_law_hand", 15)]) (g := gName 15) (tt := tYes) (by rfl) sc_law.nd (pi_tupK K rfl (pe_ix (ix_tupK K rfl) (pv 4) pe_int (fun _ _ => rfl))) (blkOk_by (own := [("_law_hand", 15)]) (N := N_law) (sc := defScope s_law) (by decide +kernel)) (fun _ _ _ _ _ => (pg_name (i := 15) sc_law.nd rfl (Or.inl rfl))) (fun _ _ _ _ _ => pts_nil) (fun _ _ _ _ _ => (pe_op op_sub (pe_op op_sub (pe_call G_law_pick (hr.mono (by decide)) (by rfl) m_law_pick F_law_pick.kp b_law_pick .nil pass0 (pa_cons (pv 1) (pa_cons pe_int pa_nil))) pe_int) (pe_callTy call_int1 (by rfl) T.m_int (by decide +kernel) (pa_cons (pe_cmpR (op_eqDK K rfl hr.units) (pe_ix (ix_tupK K rfl) (pv 15) pe_int (fun _ _ => rfl)) (pe_tup (pa_cons pe_str pa_nil)) (nomark _)) pa_nil))))) pa_nil)))
      (pss_one (ps_ret (pe_cmpR op_eq (pe_call G_shifts_hold (hr.mono (by decide)) (by rfl) m_shifts_hold F_shifts_hold.kp b_shifts_hold .nil pass0 (pa_cons (pv 4) (pa_cons pe_non (pa_cons pe_int (pa_cons (pv 14) pa_nil))))) (pe_call G_law_reach (hr.mono (by decide)) (by rfl) m_law_reach F_law_reach.kp b_law_reach .nil pass0 (pa_cons (pv 4) (pa_cons pe_non (pa_cons pe_int (pa_cons (pv 14) pa_nil))))) (nomark _))))) R5 ?tail5)) R4 ?tail4))) R3 ?tail3)) R2 ?tail2)) R1 ?tail1)))))))), ?_⟩
  case tail1 =>
    rintro D' σ' H1 ⟨eD, f, c, r, hs, bs, wr, fm, mt, late, rfl, gx, free, w0, w1, f0, f1, m0, m1⟩
    refine ⟨_, rfl, _, rfl, _, rfl, _, rfl, f, c, 21, rfl, by decide, by decide +kernel, gx.fl, fun mn H2 n0 n1 F2 B2 => ?_⟩
    have gx2 := gx.but F2 B2
    refine ⟨f, c, r, hs, bs, mt, mn, rfl, gx2.fl, gx2.R, gx2.ok, free, m0, m1, n0, by omega, fun sl sh H3 hsl _ _ F3 B3 => ?_⟩
    exact ⟨eD, f, c, r, sl, hs, bs, wr, fm, mt, late, sh, rfl, gx2.but F3 B3, hsl, w0, w1, f0, f1⟩
  case tail2 =>
    rintro D' σ' H1 ⟨eD, f, c, r, sl, hs, bs, wr, fm, mt, late, sh, rfl, gx, hsl, w0, w1, f0, f1⟩
    refine ⟨_, rfl, _, rfl, by omega, by omega, for_range (lo := 0) (n := wr.toNat) (fun i σ H2 => ∃ (sl : Addr) (sh : Nat → Int) (v8 v9 v10 : Option V), σ = sg f wr fm r late (some (.int mt)) (some (.ref sl)) v8 v9 v10 none none none none ∧ Gx PT H2 f c r hs bs ∧ H2 sl = some (.tup (levL hs.length sh))) ⟨sl, sh, none, none, none, rfl, gx, hsl⟩ ?_ ?_⟩
    · rintro i σ H2 hi ⟨sl, sh, v8, v9, v10, rfl, gx, hsl⟩
      have lh := gx.ok.hands
      have pos := gx.pos
      refine ⟨_, rfl, _, rfl, sl, _, rfl, .inr (SqT.of hsl), f, c, ((hs.length : Nat) : Int), by rw [levL_len]; rfl, by omega, log_small (by omega), gx.fl, fun kk H3 k0 k1 F3 B3 => ?_⟩
      obtain ⟨k, rfl⟩ : ∃ n : Nat, kk = ((n : Nat) : Int) := ⟨kk.toNat, by omega⟩
      have kl : k < hs.length := by omega
      have gx3 := gx.but F3 B3
      have hsl3 := TK.but gx.fl B3 _ _ hsl
      refine ⟨_, rfl, _, rfl, _, rfl, sl, _, _, _, rfl, rfl, SqT.of hsl3, atI_nat (rg_at kl), _, rfl, f, c, 7, rfl, by decide, by decide +kernel, F3, fun pk H4 _ _ F4 B4 => ?_⟩
      have gx4 := gx3.but F4 B4
      have hsl4 := TK.but F3 B4 _ _ hsl3
      refine ⟨_, _, rfl, rfl, _, _, rfl, rfl, _, _, rfl, _, _, rfl, ?_⟩
      obtain ⟨u, eu⟩ : ∃ u : Int, u = (if (if sh k + pk - 3 < 20 then sh k + pk - 3 else 20) > -20 then (if sh k + pk - 3 < 20 then sh k + pk - 3 else 20) else -20) := ⟨_, rfl⟩
      have some_mid : ∀ k : Nat, cutV (levL hs.length sh) none (some ((k : Nat) : Int)) = (levL hs.length sh).take k := fun k => cut_take _ _
      have some_end : ∀ k : Nat, cutV (levL hs.length sh) (some (((k : Nat) : Int) + 1)) none = (levL hs.length sh).drop (k + 1) := fun k => by rw [show ((k : Nat) : Int) + 1 = ((k + 1 : Nat) : Int) by omega, cut_drop]
      refine ⟨_, rfl, ?_⟩
      dsimp only [tNoPart]
      refine ⟨_, rfl, _, rfl, slA_of hsl4 fun p1 H5 h1 s5 => ?_⟩
      rw [some_mid] at h1
      refine ⟨_, rfl, (by show 1 ≤ sizeLine; decide), fun p2 np2 => ?_⟩
      have t2 := same_new (o := .tup [V.int u]) np2
      have h2 : (upd H5 p2 (.tup [V.int u])) p2 = some (.tup [V.int u]) := upd_same
      rw [eu] at t2 h2
      refine catA_of (t2 _ _ h1) h2 (by rw [List.length_take, levL_len]; show _ + 1 ≤ 1000; omega) fun p3 H6 h3 s6 => ?_
      have t6 := s5.trans (t2.trans s6)
      refine ⟨_, rfl, _, rfl, _, _, rfl, rfl, ?_⟩
      dsimp only [tNoPart]
      refine ⟨_, rfl, slA_of (t6 _ _ hsl4) fun p4 H7 h4 s7 => ?_⟩
      refine catA_of (s7 _ _ h3) h4 (by rw [some_end, List.length_append, List.length_take, List.length_drop, levL_len]; show _ + 1 + _ ≤ 1000; omega) fun p5 H8 h5 s8 => ?_
      rw [some_end, lev_set33 kl] at h5
      exact ⟨p5, _, _, _, _, rfl, gx4.same (t6.trans (s7.trans s8)), h5⟩
    · rintro σ H2 ⟨sl, sh, v8, v9, v10, rfl, gx, hsl⟩
      exact ⟨eD, f, c, r, sl, hs, bs, wr, fm, mt, late, sh, v8, v9, v10, rfl, gx, hsl, f0, f1⟩
  case tail3 =>
    rintro D' σ' H1 ⟨eD, f, c, r, sl, hs, bs, wr, fm, mt, late, sh, v8, v9, v10, rfl, gx, hsl, f0, f1⟩
    refine ⟨_, rfl, _, rfl, _, rfl, r, sl, hs, bs, sh, rfl, gx.R, gx.ok, .inl hsl, fun p H2 np hp s2 => ?_⟩
    have gx2 := gx.same s2
    refine ⟨r, p, hs, bs, sh, rfl, gx2.R, gx2.ok, hp, fun le H3 t0 t1 t2 s3 => ?_⟩
    have gx3 := gx2.same s3
    have hsl3 := s3 _ _ (s2 _ _ hsl)
    refine ⟨_, rfl, _, rfl, _, _, rfl, rfl, _, _, rfl, _, rfl, _, _, rfl, rfl, _, rfl, f, c, 60, rfl, by decide, by decide +kernel, gx3.fl, fun pk H4 _ _ F4 B4 => ?_⟩
    have gx4 := gx3.but F4 B4
    have hsl4 := TK.but gx3.fl B4 _ _ hsl3
    refine ⟨(by show 4 ≤ sizeLine; decide), fun ml nml => ?_⟩
    obtain ⟨t1, et1⟩ : ∃ t1 : Int, t1 = (if le - 1 > 0 then le - 1 else 0) := ⟨_, rfl⟩
    have s5 : Same H4 (upd H4 ml (.lst [V.int le, V.int (if le - 1 > 0 then le - 1 else 0), V.int (le + 1), V.int pk])) := same_new nml
    have hml : (upd H4 ml (.lst [V.int le, V.int (if le - 1 > 0 then le - 1 else 0), V.int (le + 1), V.int pk])) ml = some (.lst [V.int le, V.int t1, V.int (le + 1), V.int pk]) := by rw [upd_same, et1]
    have gx5 := gx4.same s5
    have hsl5 := s5 _ _ hsl4
    generalize upd H4 ml _ = H5 at hml gx5 hsl5 ⊢
    obtain ⟨tm, etm⟩ : ∃ tm : Int, atI [V.int le, V.int t1, V.int (le + 1), V.int pk] fm = some (.int tm) := by
      have : fm = 0 ∨ fm = 1 ∨ fm = 2 ∨ fm = 3 := by omega
      rcases this with rfl | rfl | rfl | rfl
      · exact ⟨le, rfl⟩
      · exact ⟨t1, rfl⟩
      · exact ⟨le + 1, rfl⟩
      · exact ⟨pk, rfl⟩
    refine ⟨_, rfl, ml, _, _, _, rfl, rfl, SqL.of hml, etm, ?_⟩
    exact ⟨eD, f, c, r, sl, hs, bs, wr, fm, mt, le, tm, late, sh, v8, v9, v10, rfl, gx5, hsl5⟩
  case tail4 =>
    rintro D' σ' H1 ⟨eD, f, c, r, sl, hs, bs, wr, fm, mt, le, tm, late, sh, v8, v9, v10, rfl, gx, hsl⟩
    refine ⟨_, rfl, by decide, by decide, for_range (lo := 0) (n := 2) (fun i σ H2 => ∃ (v8 v10 v13 : Option V), σ = sg f wr fm r late (some (.int mt)) (some (.ref sl)) v8 v9 v10 (some (.int le)) (some (.int tm)) v13 none ∧ Gx PT H2 f c r hs bs ∧ H2 sl = some (.tup (levL hs.length sh))) ⟨v8, v10, none, rfl, gx, hsl⟩ ?_ ?_⟩
    · rintro i σ H2 hi ⟨v8, v10, v13, rfl, gx, hsl⟩
      refine ⟨_, rfl, _, rfl, _, rfl, _, _, rfl, rfl, _, _, rfl, (by show 3 ≤ sizeLine; decide), fun ol nol => ?_⟩
      obtain ⟨t1, et1⟩ : ∃ t1 : Int, t1 = (if le - 1 > 0 then le - 1 else 0) := ⟨_, rfl⟩
      have s3 : Same H2 (upd H2 ol (.lst [V.int tm, V.int le, V.int (if le - 1 > 0 then le - 1 else 0)])) := same_new nol
      have hol : (upd H2 ol (.lst [V.int tm, V.int le, V.int (if le - 1 > 0 then le - 1 else 0)])) ol = some (.lst ([tm, le, t1].map V.int)) := by rw [upd_same, et1]; rfl
      have gx3 := gx.same s3
      have hsl3 := s3 _ _ hsl
      generalize upd H2 ol _ = H3 at hol gx3 hsl3 ⊢
      refine ⟨ol, rfl, ⟨_, SqL.of hol⟩, for_list (K := K) (a := ol) (xs := [tm, le, t1].map V.int) (fun j σ H5 => ∃ (v10 v13 : Option V), σ = sg f wr fm r late (some (.int mt)) (some (.ref sl)) (some (.int (0 + ((i : Nat) : Int)))) v9 v10 (some (.int le)) (some (.int tm)) v13 none ∧ Gx PT H5 f c r hs bs ∧ H5 sl = some (.tup (levL hs.length sh)) ∧ H5 ol = some (.lst ([tm, le, t1].map V.int))) ⟨v10, v13, rfl, gx3, hsl3, hol⟩ (fun j σ H5 _ ⟨_, _, _, _, _, h⟩ => SqL.of h) ?_ ?_⟩
      · rintro j x σ H5 hx ⟨v10, v13, rfl, gx5, hsl5, hol5⟩
        obtain ⟨o, rfl⟩ : ∃ o : Int, x = .int o := by
          obtain ⟨o, _, e⟩ := List.mem_map.mp (List.mem_of_getElem? hx)
          exact ⟨o, e.symm⟩
        refine ⟨_, rfl, _, rfl, _, rfl, _, rfl, r, sl, hs, bs, late, o, sh, rfl, gx5.R, gx5.ok, gx5.pos, hsl5, gx5.tb, fun cc H6 hc ext tb => ?_⟩
        have gx6 := gx5.ext ext tb
        have hsl6 := ExtN.tk ext _ _ hsl5
        have hol6 := ExtN.lst ext hol5
        refine ⟨_, rfl, _, _, _, _, true, rfl, .ty "bool", .base (.bl _), kit_ty (by decide +kernel), _, rfl, if_bl (fun z => nomatch z) (fun _ => ?_)⟩
        refine ⟨_, rfl, _, rfl, _, rfl, _, rfl, _, rfl, r, sl, hs, bs, late, o, sh, rfl, gx6.R, gx6.ok, gx6.pos, hsl6, fun c2 H7 hc2 s7 => ?_⟩
        have ecc : cc = c2 := by
          have := hc.trans hc2.symm
          cases cc <;> cases c2 <;> simp_all
        subst ecc
        refine ⟨rfl, _, rfl, if_bl (fun z => ?_) (fun _ => ?_)⟩
        · have z : (!decide (V.bl cc = V.bl cc)) = true := z
          rw [decide_eq_true rfl] at z
          cases z
        exact ⟨_, _, rfl, gx6.same s7, s7 _ _ hsl6, s7 _ _ hol6⟩
      · rintro σ H5 ⟨v10, v13, rfl, gx5, hsl5, hol5⟩
        exact ⟨_, _, _, rfl, gx5, hsl5⟩
    · rintro σ H2 ⟨v8, v10, v13, rfl, gx, hsl⟩
      exact ⟨eD, f, c, r, hs, bs, wr, fm, late, _, _, _, _, _, _, _, _, rfl, gx⟩
  case tail5 =>
    rintro D' σ' H1 ⟨eD, f, c, r, hs, bs, wr, fm, late, v6, v7, v8, v9, v10, v11, v12, v13, rfl, gx⟩
    obtain ⟨ha, ba, hv, bv, er, eh, eb, alh, alb⟩ := id gx.R.ex
    have lhv := alh.length
    have lh := gx.ok.hands
    refine ⟨_, rfl, r, _, _, _, rfl, rfl, SqT.of er, atI_nat (j := 0) rfl, ha, rfl, ⟨_, SqT.of eh⟩, fun D nD => lc_tup (K := K) (a := ha) (xs := hv) (fun i H5 => ∃ vs : List Int, vs.length = i ∧ H5 D = some (.lst (vs.map V.int)) ∧ Gx PT H5 f c r hs bs ∧ But f H1 H5) ⟨[], rfl, upd_same, gx.same (same_new nD), But.refl.new nD⟩ (fun i H5 _ ⟨_, _, _, g5, b5⟩ => SqT.of (TK.but gx.fl b5 _ _ eh)) ?_ ?_⟩
    · rintro i x H5 hx ⟨vs, lv, hD, g5, b5⟩
      obtain ⟨hh, eb2, ⟨t2, g, rfl, e1, e2⟩⟩ := (alh.imp fun _ _ z => z.keep (TK.but gx.fl b5)).getL hx
      have il := (List.getElem?_eq_some_iff.mp hx).1
      have gh := gx.ok.good _ (List.mem_of_getElem? eb2)
      have mf : D ≠ f := gx.fl.ne nD
      have mc : D ≠ c := gx.fl.nec nD
      refine ⟨rfl, yes_in ⟨_, rfl, f, c, 4, rfl, by decide, by decide +kernel, g5.fl, fun pk H6 _ _ F6 B6 => ?_⟩⟩
      have g6 := g5.but F6 B6
      have hD6 := B6 _ _ hD mf
      have k6 := TK.but g5.fl B6
      refine ⟨_, _, rfl, rfl, _, rfl, t2, _, _, _, rfl, rfl, SqT.of (k6 _ _ e1), atI_nat (j := 0) rfl, (by show 1 ≤ sizeLine; decide), fun o1 no1 => ?_⟩
      have s7 := same_new (o := .tup [V.str "in"]) no1
      have hD7 := s7 _ _ hD6
      refine ⟨_, _, rule_dp (s7 _ _ (k6 _ _ e2)), .tup (SqT.of upd_same) (.cons (.str _) .nil), rule_shaped gh.lay, one_shaped (by decide +kernel), ?_⟩
      refine .inr ⟨_, rfl, _, _, rfl, rfl, _, hD7, by rw [List.length_map, lv]; exact small1000 (by omega), vs ++ [pk - 1 - (if PyData.eqv (.tuple (ruleD hh)) (.tuple [.str "in"]) = true then 1 else 0)], by rw [List.length_append, lv]; rfl, ?_, (g6.same s7).lst hD7 mf mc, ((b5.trans B6).same s7).own nD⟩
      rw [upd_same, List.map_append]
      rfl
    · rintro H5 ⟨vs, lv, hD, g5, b5⟩
      rw [lhv] at lv
      refine ⟨D, _, rfl, .inl ⟨SqL.of hD, fun tp ntp => ?_⟩⟩
      have s6 := same_new (o := .tup (vs.map V.int)) ntp
      have htp : (upd H5 tp (.tup (vs.map V.int))) tp = some (.tup (levL hs.length fun k => vs.getD k 0)) := by rw [upd_same, lev_of38 lv]
      have g6 := g5.same s6
      generalize upd H5 tp _ = H6 at htp g6 ⊢
      refine ⟨_, rfl, _, rfl, r, tp, hs, bs, none, 400, _, rfl, g6.R, g6.ok, g6.pos, htp, g6.tb, fun cc H7 hc ext tb => ?_⟩
      have g7 := g6.ext ext tb
      have htp7 := ExtN.tk ext _ _ htp
      refine ⟨_, rfl, _, rfl, r, tp, hs, bs, none, 400, _, rfl, g7.R, g7.ok, g7.pos, htp7, fun c2 H8 hc2 s8 => ?_⟩
      have ecc : cc = c2 := by
        have := hc.trans hc2.symm
        cases cc <;> cases c2 <;> simp_all
      subst ecc
      refine ⟨rfl, ?_⟩
      show D'.rt (.bl (decide (V.bl cc = V.bl cc))) H8
      rw [decide_eq_true rfl, eD]
      exact q H8
  refine ⟨_, rfl, a, ns, rfl, hS, fun f c H1 nf nc F1 s1 => ?_⟩
  have tb1 := tabs_same tabs s1
  refine ⟨(by show 4 ≤ sizeLine; decide), fun ml nml => ?_⟩
  have F2 := F1.new (o := .lst [V.int 0, V.int 0, V.int 1, V.int 2]) nml
  have s2 := same_new (o := .lst [V.int 0, V.int 0, V.int 1, V.int 2]) nml
  have hml : (upd H1 ml (.lst [V.int 0, V.int 0, V.int 1, V.int 2])) ml = some (.lst [V.int 0, V.int 0, V.int 1, V.int 2]) := upd_same
  have mlf : ml ≠ f := F1.ne nml
  have tb2 := tabs_same tb1 s2
  generalize upd H1 ml _ = H2 at F2 s2 hml tb2 ⊢
  refine ⟨_, rfl, f, c, 4, rfl, by decide, by decide +kernel, F2, fun v H3 v0 v1 F3 B3 => ?_⟩
  obtain ⟨wr, hw, w0, w1⟩ : ∃ m : Int, atI [V.int 0, V.int 0, V.int 1, V.int 2] v = some (.int m) ∧ 0 ≤ m ∧ m ≤ 2 := by
    have : v = 0 ∨ v = 1 ∨ v = 2 ∨ v = 3 := by omega
    rcases this with rfl | rfl | rfl | rfl
    · exact ⟨0, rfl, by decide, by decide⟩
    · exact ⟨0, rfl, by decide, by decide⟩
    · exact ⟨1, rfl, by decide, by decide⟩
    · exact ⟨2, rfl, by decide, by decide⟩
  have tb3 := tabs_but tb2 F2 B3
  refine ⟨ml, _, _, _, rfl, rfl, SqL.of (B3 _ _ hml mlf), hw, ?_⟩
  refine ⟨_, rfl, f, c, 4, rfl, by decide, by decide +kernel, F3, fun fm H4 f0 f1 F4 B4 => ?_⟩
  have tb4 := tabs_but tb3 F3 B4
  refine ⟨_, rfl, f, c, 7, rfl, by decide, by decide, F4, fun r hs bs H5 hR ok free _ F5 B5 => ?_⟩
  have pos : 0 < hs.length := by
    obtain ⟨h, hm, _⟩ := free
    exact List.length_pos_of_mem hm
  have gx5 : Gx PT H5 f c r hs bs := ⟨F5, hR, ok, pos, tabs_but tb4 F4 B5⟩
  refine ⟨_, rfl, f, c, rfl, F5, fun late H6 l6 F6 B6 => ?_⟩
  have gx6 := gx5.but F6 B6
  refine ⟨_, rfl, ?_⟩
  cases late with
  | none =>
    refine ⟨_, rfl, rfl, _, rfl, if_bl (fun _ => ?_) (fun z => nomatch z)⟩
    refine ⟨_, rfl, f, c, 4, rfl, by decide, by decide +kernel, F6, fun mt H7 m0 m1 F7 B7 => ?_⟩
    exact ⟨rfl, f, c, r, hs, bs, wr, fm, mt, none, rfl, gx6.but F7 B7, free, w0, w1, f0, by omega, m0, by omega⟩
  | some l =>
    refine ⟨_, rfl, rfl, _, rfl, if_bl (fun z => nomatch z) (fun _ => ?_)⟩
    have := l6 l rfl
    exact ⟨rfl, f, c, r, hs, bs, wr, fm, ((l : Nat) : Int), some l, rfl, gx6, free, w0, w1, f0, by omega, by omega, by omega⟩
end
/-! ### the class of own errors, looked at in the head -/
def oexB (K : PySem.W.Frag) (C : Addr) : Bool := match K.lookup C with
  | some o => (match o.cls, o.data, o.slots.toList with
    | .type t, .cls cd, [_, _, _, _, some (.builtin n), _] => decide (t = "type") && (decide (n = "ValueError.__new__") && (!cd.hasDel && (cd.hasDict && (match cd.mro with
      | .ref C' :: bm => decide (C' = C) && PySem.HandSPX.refsVE bm
      | _ => false))))
    | _, _, _ => false)
  | none => false
theorem oexB_ok {K : PySem.W.Frag} {C : Addr} (h : oexB K C = true) : ∃ nm q N bs bm sn sub ab col dd k0 k1 k2 k3 k5, K.lookup C = some (excClassObj nm q C N bs bm true sn sub ab col dd k0 k1 k2 k3 k5 "ValueError.__new__") ∧ PySem.HandSPX.refsVE bm = true := by
  unfold oexB at h
  split at h
  · rename_i o ho
    split at h
    · rename_i t cd k0 k1 k2 k3 n k5 e1 e2 hs
      simp only [Bool.and_eq_true, decide_eq_true_eq, Bool.not_eq_true'] at h
      obtain ⟨q1, q2, q3, q4, q5⟩ := h
      split at q5
      · rename_i C' bm e3
        simp only [Bool.and_eq_true, decide_eq_true_eq] at q5
        obtain ⟨oc, od, odt, osl⟩ := o
        obtain ⟨nm, bs, mro, ns, qn, hd, sn, sub, ab, col, del⟩ := cd
        obtain ⟨l⟩ := osl
        dsimp only at e1 e2 e3 hs q3 q4
        have hs : l = [k0, k1, k2, k3, some (.builtin n), k5] := hs
        rw [e1, e2, e3, hs, q1, q2, q3, q4, q5.1] at ho
        exact ⟨nm, qn, ns, bs, bm, sn, sub, ab, col, od, k0, k1, k2, k3, k5, ho, q5.2⟩
      · cases q5
    · cases h
  · cases h
/-- all that is asked of the class named x, its __init__ at f -/
def ownB (K : PySem.W.Frag) (C f : Addr) : List Bool := [oexB K C,
  decide (PySem.W.findIn K (.ref C) "__setattr__" = some (some (.builtin "object.__setattr__"))),
  decide (PySem.W.subIn K (.ref C) (.type "BaseException") = some true),
  decide (PySem.W.typeIn K (.ref C) = some (.type "type")),
  PySem.W.keepIn K (.ref C),
  decide (PySem.W.findIn K (.ref C) "__init__" = some (some (.ref f))),
  decide (PySem.W.typeIn K (.ref f) = some (.type "function")),
  decide (PySem.W.findIn K (.ref C) "__getattribute__" = some (some (.builtin "BaseException.__getattribute__"))),
  decide (PySem.W.findIn K (.ref C) "__getattr__" = some none),
  PySem.W.hasDictIn K C,
  decide (PySem.W.findIn K (.ref C) "__class__" = some (some (.builtin "object.__class__"))),
  decide (PySem.W.specialIn K (.builtin "object.__class__") "__get__" = some (some (.builtin "getset_descriptor.__get__"))),
  decide (PySem.W.takesIn K (.builtin "object.__class__") = some true),
  decide (PySem.W.mroIn K C (.type "object") = some true),
  decide (PySem.W.kitOne K (.ref C) (.ref C) = some true),
  decide (PySem.W.kitOne K (.ref C) (.type "ValueError") = some true),
  decide (PySem.W.findIn K (.ref C) "word" = some none),
  decide (PySem.W.findIn K (.ref C) "at" = some none)]
def nsB (K : PySem.W.Frag) : Bool := (ownB K (He.ga K "NoShift") (He.fAd K ("NoShift", some "__init__"))).all id && decide (PySem.W.exmOne K (.ref (He.ga K "NoShift")) (.ref (He.ga K "NoShift")) = some true)
theorem nsB_ok {K : PySem.W.Frag} {mg : Str → Option Value} {fd : FuncData} (h : nsB K = true) (gC : mg "NoShift" = some (.ref (He.ga K "NoShift"))) (gB : mg "BeltError" = some (.ref (He.ga K "BeltError"))) (F : Fun K "__init__" "NoShift.__init__" s_NoShift_init (He.fAd K ("NoShift", some "__init__")) fd) (b : Binds K fd ["self", "word", "at"] []) : NsC K mg (He.ga K "NoShift") (He.ga K "BeltError") (He.fAd K ("NoShift", some "__init__")) fd := by
  unfold nsB at h
  generalize He.ga K "NoShift" = C at *
  generalize He.ga K "BeltError" = CB at *
  generalize He.fAd K ("NoShift", some "__init__") = f at *
  obtain ⟨h, te⟩ := Bool.and_eq_true_iff.mp h
  have all := List.all_eq_true.mp h
  have at_ : ∀ (i : Nat) (z : Bool), (ownB K C f)[i]? = some z → z = true := fun i z e => all z (List.mem_of_getElem? e)
  have d : ∀ {p : Prop} [Decidable p], decide p = true → p := fun h => of_decide_eq_true h
  have w1 := d (at_ 1 _ rfl)
  have w2 := d (at_ 2 _ rfl)
  have w3 := d (at_ 3 _ rfl)
  have w4 := at_ 4 _ rfl
  have w7 := d (at_ 7 _ rfl)
  have w8 := d (at_ 8 _ rfl)
  have w9 := at_ 9 _ rfl
  exact ⟨gC, gB, ⟨oexB_ok (at_ 0 _ rfl), w1, w2, w3, w4⟩, d (at_ 16 _ rfl), d (at_ 17 _ rfl), d (at_ 5 _ rfl), d (at_ 6 _ rfl), F, b, of_decide_eq_true te, ⟨w7, w8, w2, w9⟩, ⟨w7, w8, w2, w9, d (at_ 10 _ rfl), d (at_ 11 _ rfl), d (at_ 12 _ rfl), d (at_ 13 _ rfl)⟩, d (at_ 14 _ rfl), d (at_ 15 _ rfl)⟩
theorem fun_of_D {K : PySem.W.Frag} {x q : Str} {st : Stmt} {f : Addr} {fd : FuncData} (D : FunD K x q (defArgs st) (defBody st) (defScope st) [] [] f fd) : Fun K x q st f fd := by
  obtain ⟨⟨oc, od, dV, kV, doc, pm, an, cdv, ct, osl, e, lk, ci, dfl, _⟩, kp⟩ := D
  have z : dV = .none := by
    rcases dfl with ⟨_, h⟩ | ⟨h, _⟩
    · exact h
    · exact absurd rfl h
  subst z
  exact ⟨⟨oc, od, kV, doc, pm, an, cdv, ct, osl, e, lk, ci⟩, kp⟩
def hd_is_whole : He.DefD := ⟨("is_whole", none), "is_whole", "is_whole", defArgs s_is_whole, defBody s_is_whole, defScope s_is_whole, [], []⟩
def hd_comings : He.DefD := ⟨("comings", none), "comings", "comings", defArgs s_comings, defBody s_comings, defScope s_comings, [], []⟩
def hd_doors_in : He.DefD := ⟨("doors_in", none), "doors_in", "doors_in", defArgs s_doors_in, defBody s_doors_in, defScope s_doors_in, [], []⟩
def hd_doors_out : He.DefD := ⟨("doors_out", none), "doors_out", "doors_out", defArgs s_doors_out, defBody s_doors_out, defScope s_doors_out, [], []⟩
def hd_look_shifts : He.DefD := ⟨("look_shifts", none), "look_shifts", "look_shifts", defArgs s_look_shifts, defBody s_look_shifts, defScope s_look_shifts, [], []⟩
def hd_refuse_shifts : He.DefD := ⟨("refuse_shifts", none), "refuse_shifts", "refuse_shifts", defArgs s_refuse_shifts, defBody s_refuse_shifts, defScope s_refuse_shifts, [], []⟩
def hd_is_shifts : He.DefD := ⟨("is_shifts", none), "is_shifts", "is_shifts", defArgs s_is_shifts, defBody s_is_shifts, defScope s_is_shifts, [], []⟩
def hd_wrong_door : He.DefD := ⟨("wrong_door", none), "wrong_door", "wrong_door", defArgs s_wrong_door, defBody s_wrong_door, defScope s_wrong_door, [], []⟩
def hd_short_belt : He.DefD := ⟨("short_belt", none), "short_belt", "short_belt", defArgs s_short_belt, defBody s_short_belt, defScope s_short_belt, [], []⟩
def hd_trays_moved : He.DefD := ⟨("trays_moved", none), "trays_moved", "trays_moved", defArgs s_trays_moved, defBody s_trays_moved, defScope s_trays_moved, [], []⟩
def hd_work_order : He.DefD := ⟨("work_order", none), "work_order", "work_order", defArgs s_work_order, defBody s_work_order, defScope s_work_order, [], []⟩
def hd_moments_on : He.DefD := ⟨("moments_on", none), "moments_on", "moments_on", defArgs s_moments_on, defBody s_moments_on, defScope s_moments_on, [], []⟩
def hd_time_of : He.DefD := ⟨("time_of", none), "time_of", "time_of", defArgs s_time_of, defBody s_time_of, defScope s_time_of, [], []⟩
def hd_long_way : He.DefD := ⟨("long_way", none), "long_way", "long_way", defArgs s_long_way, defBody s_long_way, defScope s_long_way, [], []⟩
def hd_long_sums : He.DefD := ⟨("long_sums", none), "long_sums", "long_sums", defArgs s_long_sums, defBody s_long_sums, defScope s_long_sums, [], []⟩
def hd_way_back : He.DefD := ⟨("way_back", none), "way_back", "way_back", defArgs s_way_back, defBody s_way_back, defScope s_way_back, [], []⟩
def hd_shifts_hold : He.DefD := ⟨("shifts_hold", none), "shifts_hold", "shifts_hold", defArgs s_shifts_hold, defBody s_shifts_hold, defScope s_shifts_hold, [], []⟩
def hd_own_late : He.DefD := ⟨("own_late", none), "own_late", "own_late", defArgs s_own_late, defBody s_own_late, defScope s_own_late, [], []⟩
def hd_with_trays : He.DefD := ⟨("with_trays", none), "with_trays", "with_trays", defArgs s_with_trays, defBody s_with_trays, defScope s_with_trays, [], []⟩
def hd_law_flow : He.DefD := ⟨("_law_flow", none), "_law_flow", "_law_flow", defArgs s_law_flow, defBody s_law_flow, defScope s_law_flow, [], []⟩
def hd_law_pick : He.DefD := ⟨("_law_pick", none), "_law_pick", "_law_pick", defArgs s_law_pick, defBody s_law_pick, defScope s_law_pick, [], []⟩
def hd_law_thing : He.DefD := ⟨("_law_thing", none), "_law_thing", "_law_thing", defArgs s_law_thing, defBody s_law_thing, defScope s_law_thing, [], []⟩
def hd_law_needs : He.DefD := ⟨("_law_needs", none), "_law_needs", "_law_needs", defArgs s_law_needs, defBody s_law_needs, defScope s_law_needs, [], []⟩
def hd_law_rule : He.DefD := ⟨("_law_rule", none), "_law_rule", "_law_rule", defArgs s_law_rule, defBody s_law_rule, defScope s_law_rule, [], []⟩
def hd_law_shuffled : He.DefD := ⟨("_law_shuffled", none), "_law_shuffled", "_law_shuffled", defArgs s_law_shuffled, defBody s_law_shuffled, defScope s_law_shuffled, [], []⟩
def hd_law_hands : He.DefD := ⟨("_law_hands", none), "_law_hands", "_law_hands", defArgs s_law_hands, defBody s_law_hands, defScope s_law_hands, [], []⟩
def hd_law_room : He.DefD := ⟨("_law_room", none), "_law_room", "_law_room", defArgs s_law_room, defBody s_law_room, defScope s_law_room, [], []⟩
def hd_law_trays : He.DefD := ⟨("_law_trays", none), "_law_trays", "_law_trays", defArgs s_law_trays, defBody s_law_trays, defScope s_law_trays, [], []⟩
def hd_law_shifts : He.DefD := ⟨("_law_shifts", none), "_law_shifts", "_law_shifts", defArgs s_law_shifts, defBody s_law_shifts, defScope s_law_shifts, [], []⟩
def hd_law_time_of : He.DefD := ⟨("_law_time_of", none), "_law_time_of", "_law_time_of", defArgs s_law_time_of, defBody s_law_time_of, defScope s_law_time_of, [], []⟩
def hd_law_let_by : He.DefD := ⟨("_law_let_by", none), "_law_let_by", "_law_let_by", defArgs s_law_let_by, defBody s_law_let_by, defScope s_law_let_by, [], []⟩
def hd_law_reach : He.DefD := ⟨("_law_reach", none), "_law_reach", "_law_reach", defArgs s_law_reach, defBody s_law_reach, defScope s_law_reach, [], []⟩
def hd_law_late : He.DefD := ⟨("_law_late", none), "_law_late", "_law_late", defArgs s_law_late, defBody s_law_late, defScope s_law_late, [], []⟩
def hd_law : He.DefD := ⟨("law", none), "law", "law", defArgs s_law, defBody s_law, defScope s_law, [], []⟩
def hd_NsInit : He.DefD := ⟨("NoShift", some "__init__"), "__init__", "NoShift.__init__", defArgs s_NoShift_init, defBody s_NoShift_init, defScope s_NoShift_init, [], []⟩
def hFn : List He.DefD := [hd_is_whole, hd_comings, hd_doors_in, hd_doors_out, hd_look_shifts, hd_refuse_shifts, hd_is_shifts, hd_wrong_door, hd_short_belt, hd_trays_moved, hd_work_order, hd_moments_on, hd_time_of, hd_long_way, hd_long_sums, hd_way_back, hd_shifts_hold, hd_own_late, hd_with_trays, hd_law_flow, hd_law_pick, hd_law_thing, hd_law_needs, hd_law_rule, hd_law_shuffled, hd_law_hands, hd_law_room, hd_law_trays, hd_law_shifts, hd_law_time_of, hd_law_let_by, hd_law_reach, hd_law_late, hd_law, hd_NsInit]
def hFa : List He.Fa := [.glo "is_whole", .glo "comings", .glo "doors_in", .glo "doors_out", .glo "look_shifts", .glo "refuse_shifts", .glo "is_shifts", .glo "wrong_door", .glo "short_belt", .glo "trays_moved", .glo "work_order", .glo "moments_on", .glo "time_of", .glo "long_way", .glo "long_sums", .glo "way_back", .glo "shifts_hold", .glo "own_late", .glo "with_trays", .glo "_law_flow", .glo "_law_pick", .glo "_law_thing", .glo "_law_needs", .glo "_law_rule", .glo "_law_shuffled", .glo "_law_hands", .glo "_law_room", .glo "_law_trays", .glo "_law_shifts", .glo "_law_time_of", .glo "_law_let_by", .glo "_law_reach", .glo "_law_late", .glo "law", .free "abs", .free "all", .free "any", .free "bool", .free "enumerate", .free "int", .free "isinstance", .free "len", .free "list", .free "max", .free "min", .free "range", .free "sum", .free "tuple", .free "zip", .glo "IN_RULE", .glo "OUT_RULE", .glo "NoShift", .glo "BeltError"]
def hEx (K : PySem.W.Frag) : Bool := He.tupB K "IN_RULE" [.str "in"] && He.tupB K "OUT_RULE" [.str "out"] && nsB K && decide ((He.cT K ("long_way", none)).2 ≠ (He.cT K ("is_shifts", none)).2)
def hTf : List (Str × Option Str) := [("long_way", none), ("is_shifts", none)]
abbrev hR : PySem.W.OpenRow := PySem.W.OpenLaw.row PySem.Challenge.rw_beltshift_k38_shifts_that_reach_a_time
abbrev hk : PySem.W.Hook := He.hookX 4 hFa hFn [] hTf hEx
def hOb (s : PySem.W.SharedT) : He.AlX := He.obsX 4 hFa hFn [] hTf hEx (HandSHeadRun.getT s)
theorem hOb_eq (s : PySem.W.SharedT) : hOb s = hk.obs s.abs := He.obsX_eq (HandSHeadRun.getT_eq s)
def hN0 : List Str := ["BeltError", "NoShift", "is_whole", "IN_RULE", "OUT_RULE", "comings", "doors_in", "doors_out", "look_shifts", "refuse_shifts", "is_shifts", "wrong_door", "short_belt", "trays_moved", "work_order", "moments_on", "time_of", "long_way", "long_sums", "way_back", "shifts_hold", "own_late", "with_trays", "_law_flow", "_law_pick", "_law_thing", "_law_needs", "_law_rule", "_law_shuffled", "_law_hands"]
def hN1 : List Str := ["_law_room", "_law_trays", "_law_shifts", "_law_time_of", "_law_let_by", "_law_reach", "_law_late"]
def hNames : List Str := hN0 ++ hN1
set_option maxHeartbeats 0 in
theorem hRun (w : World) : HandSHeadRun.RunEq hR (PySem.W.view hR.prog [45]) hk hOb 40000 hNames w := by
  intro os
  kernel_rfl
set_option maxHeartbeats 0 in
theorem all_mkX {w : World} {K : PySem.W.Frag} {h : Heap} {mg : Str → Option Value} {fa : Addr} (X : K.In h) (G : h.Ns mainGlobals mg) (hfa : mg "law" = some (.ref fa)) (c : He.SaysX hFa hFn [] hTf hEx w h K) : LamX.LawAtS PySem.Challenge.rw_beltshift_k38_shifts_that_reach_a_time w K CX0 6 63 "_law_script" mg fa h := by
  have cd := c.t.d
  obtain ⟨fd0, D0⟩ := cd.def_ 0 (d := hd_is_whole) rfl
  have F0 : Fun K "is_whole" "is_whole" s_is_whole (He.ga K "is_whole") fd0 := fun_of_D D0
  have g0 : mg "is_whole" = some (.ref (He.ga K "is_whole")) := He.glo_ok X G (cd.fact 0 (f := .glo "is_whole") rfl)
  have b0 := F0.binds (ps := ["thing"]) fun _ _ _ _ _ _ us hl => match us, hl with | [_], _ => rfl
  obtain ⟨fd1, D1⟩ := cd.def_ 1 (d := hd_comings) rfl
  have F1 : Fun K "comings" "comings" s_comings (He.ga K "comings") fd1 := fun_of_D D1
  have g1 : mg "comings" = some (.ref (He.ga K "comings")) := He.glo_ok X G (cd.fact 1 (f := .glo "comings") rfl)
  have b1 := F1.binds (ps := ["room", "hand"]) fun _ _ _ _ _ _ us hl => match us, hl with | [_, _], _ => rfl
  obtain ⟨fd2, D2⟩ := cd.def_ 2 (d := hd_doors_in) rfl
  have F2 : Fun K "doors_in" "doors_in" s_doors_in (He.ga K "doors_in") fd2 := fun_of_D D2
  have g2 : mg "doors_in" = some (.ref (He.ga K "doors_in")) := He.glo_ok X G (cd.fact 2 (f := .glo "doors_in") rfl)
  have b2 := F2.binds (ps := ["room"]) fun _ _ _ _ _ _ us hl => match us, hl with | [_], _ => rfl
  obtain ⟨fd3, D3⟩ := cd.def_ 3 (d := hd_doors_out) rfl
  have F3 : Fun K "doors_out" "doors_out" s_doors_out (He.ga K "doors_out") fd3 := fun_of_D D3
  have g3 : mg "doors_out" = some (.ref (He.ga K "doors_out")) := He.glo_ok X G (cd.fact 3 (f := .glo "doors_out") rfl)
  have b3 := F3.binds (ps := ["room"]) fun _ _ _ _ _ _ us hl => match us, hl with | [_], _ => rfl
  obtain ⟨fd4, D4⟩ := cd.def_ 4 (d := hd_look_shifts) rfl
  have F4 : Fun K "look_shifts" "look_shifts" s_look_shifts (He.ga K "look_shifts") fd4 := fun_of_D D4
  have g4 : mg "look_shifts" = some (.ref (He.ga K "look_shifts")) := He.glo_ok X G (cd.fact 4 (f := .glo "look_shifts") rfl)
  have b4 := F4.binds (ps := ["room", "late", "shifts"]) fun _ _ _ _ _ _ us hl => match us, hl with | [_, _, _], _ => rfl
  obtain ⟨fd5, D5⟩ := cd.def_ 5 (d := hd_refuse_shifts) rfl
  have F5 : Fun K "refuse_shifts" "refuse_shifts" s_refuse_shifts (He.ga K "refuse_shifts") fd5 := fun_of_D D5
  have g5 : mg "refuse_shifts" = some (.ref (He.ga K "refuse_shifts")) := He.glo_ok X G (cd.fact 5 (f := .glo "refuse_shifts") rfl)
  have b5 := F5.binds (ps := ["word", "at"]) fun _ _ _ _ _ _ us hl => match us, hl with | [_, _], _ => rfl
  obtain ⟨fd6, D6⟩ := cd.def_ 6 (d := hd_is_shifts) rfl
  have F6 : Fun K "is_shifts" "is_shifts" s_is_shifts (He.ga K "is_shifts") fd6 := fun_of_D D6
  have g6 : mg "is_shifts" = some (.ref (He.ga K "is_shifts")) := He.glo_ok X G (cd.fact 6 (f := .glo "is_shifts") rfl)
  have b6 := F6.binds (ps := ["room", "thing"]) fun _ _ _ _ _ _ us hl => match us, hl with | [_, _], _ => rfl
  obtain ⟨fd7, D7⟩ := cd.def_ 7 (d := hd_wrong_door) rfl
  have F7 : Fun K "wrong_door" "wrong_door" s_wrong_door (He.ga K "wrong_door") fd7 := fun_of_D D7
  have g7 : mg "wrong_door" = some (.ref (He.ga K "wrong_door")) := He.glo_ok X G (cd.fact 7 (f := .glo "wrong_door") rfl)
  have b7 := F7.binds (ps := ["room", "late", "shifts"]) fun _ _ _ _ _ _ us hl => match us, hl with | [_, _, _], _ => rfl
  obtain ⟨fd8, D8⟩ := cd.def_ 8 (d := hd_short_belt) rfl
  have F8 : Fun K "short_belt" "short_belt" s_short_belt (He.ga K "short_belt") fd8 := fun_of_D D8
  have g8 : mg "short_belt" = some (.ref (He.ga K "short_belt")) := He.glo_ok X G (cd.fact 8 (f := .glo "short_belt") rfl)
  have b8 := F8.binds (ps := ["room", "shifts"]) fun _ _ _ _ _ _ us hl => match us, hl with | [_, _], _ => rfl
  obtain ⟨fd9, D9⟩ := cd.def_ 9 (d := hd_trays_moved) rfl
  have F9 : Fun K "trays_moved" "trays_moved" s_trays_moved (He.ga K "trays_moved") fd9 := fun_of_D D9
  have g9 : mg "trays_moved" = some (.ref (He.ga K "trays_moved")) := He.glo_ok X G (cd.fact 9 (f := .glo "trays_moved") rfl)
  have b9 := F9.binds (ps := ["room", "shifts"]) fun _ _ _ _ _ _ us hl => match us, hl with | [_, _], _ => rfl
  obtain ⟨fd10, D10⟩ := cd.def_ 10 (d := hd_work_order) rfl
  have F10 : Fun K "work_order" "work_order" s_work_order (He.ga K "work_order") fd10 := fun_of_D D10
  have g10 : mg "work_order" = some (.ref (He.ga K "work_order")) := He.glo_ok X G (cd.fact 10 (f := .glo "work_order") rfl)
  have b10 := F10.binds (ps := ["room"]) fun _ _ _ _ _ _ us hl => match us, hl with | [_], _ => rfl
  obtain ⟨fd11, D11⟩ := cd.def_ 11 (d := hd_moments_on) rfl
  have F11 : Fun K "moments_on" "moments_on" s_moments_on (He.ga K "moments_on") fd11 := fun_of_D D11
  have g11 : mg "moments_on" = some (.ref (He.ga K "moments_on")) := He.glo_ok X G (cd.fact 11 (f := .glo "moments_on") rfl)
  have b11 := F11.binds (ps := ["room", "way"]) fun _ _ _ _ _ _ us hl => match us, hl with | [_, _], _ => rfl
  obtain ⟨fd12, D12⟩ := cd.def_ 12 (d := hd_time_of) rfl
  have F12 : Fun K "time_of" "time_of" s_time_of (He.ga K "time_of") fd12 := fun_of_D D12
  have g12 : mg "time_of" = some (.ref (He.ga K "time_of")) := He.glo_ok X G (cd.fact 12 (f := .glo "time_of") rfl)
  have b12 := F12.binds (ps := ["room"]) fun _ _ _ _ _ _ us hl => match us, hl with | [_], _ => rfl
  obtain ⟨fd13, D13⟩ := cd.def_ 13 (d := hd_long_way) rfl
  have F13 : Fun K "long_way" "long_way" s_long_way (He.ga K "long_way") fd13 := fun_of_D D13
  have g13 : mg "long_way" = some (.ref (He.ga K "long_way")) := He.glo_ok X G (cd.fact 13 (f := .glo "long_way") rfl)
  have b13 := F13.binds (ps := ["room"]) fun _ _ _ _ _ _ us hl => match us, hl with | [_], _ => rfl
  obtain ⟨fd14, D14⟩ := cd.def_ 14 (d := hd_long_sums) rfl
  have F14 : Fun K "long_sums" "long_sums" s_long_sums (He.ga K "long_sums") fd14 := fun_of_D D14
  have g14 : mg "long_sums" = some (.ref (He.ga K "long_sums")) := He.glo_ok X G (cd.fact 14 (f := .glo "long_sums") rfl)
  have b14 := F14.binds (ps := ["room"]) fun _ _ _ _ _ _ us hl => match us, hl with | [_], _ => rfl
  obtain ⟨fd15, D15⟩ := cd.def_ 15 (d := hd_way_back) rfl
  have F15 : Fun K "way_back" "way_back" s_way_back (He.ga K "way_back") fd15 := fun_of_D D15
  have g15 : mg "way_back" = some (.ref (He.ga K "way_back")) := He.glo_ok X G (cd.fact 15 (f := .glo "way_back") rfl)
  have b15 := F15.binds (ps := ["room", "end", "last"]) fun _ _ _ _ _ _ us hl => match us, hl with | [_, _, _], _ => rfl
  obtain ⟨fd16, D16⟩ := cd.def_ 16 (d := hd_shifts_hold) rfl
  have F16 : Fun K "shifts_hold" "shifts_hold" s_shifts_hold (He.ga K "shifts_hold") fd16 := fun_of_D D16
  have g16 : mg "shifts_hold" = some (.ref (He.ga K "shifts_hold")) := He.glo_ok X G (cd.fact 16 (f := .glo "shifts_hold") rfl)
  have b16 := F16.binds (ps := ["room", "late", "time", "shifts"]) fun _ _ _ _ _ _ us hl => match us, hl with | [_, _, _, _], _ => rfl
  obtain ⟨fd17, D17⟩ := cd.def_ 17 (d := hd_own_late) rfl
  have F17 : Fun K "own_late" "own_late" s_own_late (He.ga K "own_late") fd17 := fun_of_D D17
  have g17 : mg "own_late" = some (.ref (He.ga K "own_late")) := He.glo_ok X G (cd.fact 17 (f := .glo "own_late") rfl)
  have b17 := F17.binds (ps := ["room", "shifts"]) fun _ _ _ _ _ _ us hl => match us, hl with | [_, _], _ => rfl
  obtain ⟨fd18, D18⟩ := cd.def_ 18 (d := hd_with_trays) rfl
  have F18 : Fun K "with_trays" "with_trays" s_with_trays (He.ga K "with_trays") fd18 := fun_of_D D18
  have g18 : mg "with_trays" = some (.ref (He.ga K "with_trays")) := He.glo_ok X G (cd.fact 18 (f := .glo "with_trays") rfl)
  have b18 := F18.binds (ps := ["room", "trays"]) fun _ _ _ _ _ _ us hl => match us, hl with | [_, _], _ => rfl
  obtain ⟨fd19, D19⟩ := cd.def_ 19 (d := hd_law_flow) rfl
  have F19 : Fun K "_law_flow" "_law_flow" s_law_flow (He.ga K "_law_flow") fd19 := fun_of_D D19
  have g19 : mg "_law_flow" = some (.ref (He.ga K "_law_flow")) := He.glo_ok X G (cd.fact 19 (f := .glo "_law_flow") rfl)
  have b19 := F19.binds (ps := ["_law_script"]) fun _ _ _ _ _ _ us hl => match us, hl with | [_], _ => rfl
  obtain ⟨fd20, D20⟩ := cd.def_ 20 (d := hd_law_pick) rfl
  have F20 : Fun K "_law_pick" "_law_pick" s_law_pick (He.ga K "_law_pick") fd20 := fun_of_D D20
  have g20 : mg "_law_pick" = some (.ref (He.ga K "_law_pick")) := He.glo_ok X G (cd.fact 20 (f := .glo "_law_pick") rfl)
  have b20 := F20.binds (ps := ["_law_flow_here", "_law_many"]) fun _ _ _ _ _ _ us hl => match us, hl with | [_, _], _ => rfl
  obtain ⟨fd21, D21⟩ := cd.def_ 21 (d := hd_law_thing) rfl
  have F21 : Fun K "_law_thing" "_law_thing" s_law_thing (He.ga K "_law_thing") fd21 := fun_of_D D21
  have g21 : mg "_law_thing" = some (.ref (He.ga K "_law_thing")) := He.glo_ok X G (cd.fact 21 (f := .glo "_law_thing") rfl)
  have b21 := F21.binds (ps := ["_law_flow_here"]) fun _ _ _ _ _ _ us hl => match us, hl with | [_], _ => rfl
  obtain ⟨fd22, D22⟩ := cd.def_ 22 (d := hd_law_needs) rfl
  have F22 : Fun K "_law_needs" "_law_needs" s_law_needs (He.ga K "_law_needs") fd22 := fun_of_D D22
  have g22 : mg "_law_needs" = some (.ref (He.ga K "_law_needs")) := He.glo_ok X G (cd.fact 22 (f := .glo "_law_needs") rfl)
  have b22 := F22.binds (ps := ["_law_rule_here"]) fun _ _ _ _ _ _ us hl => match us, hl with | [_], _ => rfl
  obtain ⟨fd23, D23⟩ := cd.def_ 23 (d := hd_law_rule) rfl
  have F23 : Fun K "_law_rule" "_law_rule" s_law_rule (He.ga K "_law_rule") fd23 := fun_of_D D23
  have g23 : mg "_law_rule" = some (.ref (He.ga K "_law_rule")) := He.glo_ok X G (cd.fact 23 (f := .glo "_law_rule") rfl)
  have b23 := F23.binds (ps := ["_law_flow_here", "_law_most"]) fun _ _ _ _ _ _ us hl => match us, hl with | [_, _], _ => rfl
  obtain ⟨fd24, D24⟩ := cd.def_ 24 (d := hd_law_shuffled) rfl
  have F24 : Fun K "_law_shuffled" "_law_shuffled" s_law_shuffled (He.ga K "_law_shuffled") fd24 := fun_of_D D24
  have g24 : mg "_law_shuffled" = some (.ref (He.ga K "_law_shuffled")) := He.glo_ok X G (cd.fact 24 (f := .glo "_law_shuffled") rfl)
  have b24 := F24.binds (ps := ["_law_flow_here", "_law_some"]) fun _ _ _ _ _ _ us hl => match us, hl with | [_, _], _ => rfl
  obtain ⟨fd25, D25⟩ := cd.def_ 25 (d := hd_law_hands) rfl
  have F25 : Fun K "_law_hands" "_law_hands" s_law_hands (He.ga K "_law_hands") fd25 := fun_of_D D25
  have g25 : mg "_law_hands" = some (.ref (He.ga K "_law_hands")) := He.glo_ok X G (cd.fact 25 (f := .glo "_law_hands") rfl)
  have b25 := F25.binds (ps := ["_law_flow_here", "_law_many"]) fun _ _ _ _ _ _ us hl => match us, hl with | [_, _], _ => rfl
  obtain ⟨fd26, D26⟩ := cd.def_ 26 (d := hd_law_room) rfl
  have F26 : Fun K "_law_room" "_law_room" s_law_room (He.ga K "_law_room") fd26 := fun_of_D D26
  have g26 : mg "_law_room" = some (.ref (He.ga K "_law_room")) := He.glo_ok X G (cd.fact 26 (f := .glo "_law_room") rfl)
  have b26 := F26.binds (ps := ["_law_flow_here", "_law_most"]) fun _ _ _ _ _ _ us hl => match us, hl with | [_, _], _ => rfl
  obtain ⟨fd27, D27⟩ := cd.def_ 27 (d := hd_law_trays) rfl
  have F27 : Fun K "_law_trays" "_law_trays" s_law_trays (He.ga K "_law_trays") fd27 := fun_of_D D27
  have g27 : mg "_law_trays" = some (.ref (He.ga K "_law_trays")) := He.glo_ok X G (cd.fact 27 (f := .glo "_law_trays") rfl)
  have b27 := F27.binds (ps := ["_law_room_here", "_law_shifts_here"]) fun _ _ _ _ _ _ us hl => match us, hl with | [_, _], _ => rfl
  obtain ⟨fd28, D28⟩ := cd.def_ 28 (d := hd_law_shifts) rfl
  have F28 : Fun K "_law_shifts" "_law_shifts" s_law_shifts (He.ga K "_law_shifts") fd28 := fun_of_D D28
  have g28 : mg "_law_shifts" = some (.ref (He.ga K "_law_shifts")) := He.glo_ok X G (cd.fact 28 (f := .glo "_law_shifts") rfl)
  have b28 := F28.binds (ps := ["_law_flow_here", "_law_room_here", "_law_late_here", "_law_many"]) fun _ _ _ _ _ _ us hl => match us, hl with | [_, _, _, _], _ => rfl
  obtain ⟨fd29, D29⟩ := cd.def_ 29 (d := hd_law_time_of) rfl
  have F29 : Fun K "_law_time_of" "_law_time_of" s_law_time_of (He.ga K "_law_time_of") fd29 := fun_of_D D29
  have g29 : mg "_law_time_of" = some (.ref (He.ga K "_law_time_of")) := He.glo_ok X G (cd.fact 29 (f := .glo "_law_time_of") rfl)
  have b29 := F29.binds (ps := ["_law_room_here", "_law_trays_here"]) fun _ _ _ _ _ _ us hl => match us, hl with | [_, _], _ => rfl
  obtain ⟨fd30, D30⟩ := cd.def_ 30 (d := hd_law_let_by) rfl
  have F30 : Fun K "_law_let_by" "_law_let_by" s_law_let_by (He.ga K "_law_let_by") fd30 := fun_of_D D30
  have g30 : mg "_law_let_by" = some (.ref (He.ga K "_law_let_by")) := He.glo_ok X G (cd.fact 30 (f := .glo "_law_let_by") rfl)
  have b30 := F30.binds (ps := ["_law_room_here", "_law_late_here", "_law_shifts_here"]) fun _ _ _ _ _ _ us hl => match us, hl with | [_, _, _], _ => rfl
  obtain ⟨fd31, D31⟩ := cd.def_ 31 (d := hd_law_reach) rfl
  have F31 : Fun K "_law_reach" "_law_reach" s_law_reach (He.ga K "_law_reach") fd31 := fun_of_D D31
  have g31 : mg "_law_reach" = some (.ref (He.ga K "_law_reach")) := He.glo_ok X G (cd.fact 31 (f := .glo "_law_reach") rfl)
  have b31 := F31.binds (ps := ["_law_room_here", "_law_late_here", "_law_time", "_law_shifts_here"]) fun _ _ _ _ _ _ us hl => match us, hl with | [_, _, _, _], _ => rfl
  obtain ⟨fd32, D32⟩ := cd.def_ 32 (d := hd_law_late) rfl
  have F32 : Fun K "_law_late" "_law_late" s_law_late (He.ga K "_law_late") fd32 := fun_of_D D32
  have g32 : mg "_law_late" = some (.ref (He.ga K "_law_late")) := He.glo_ok X G (cd.fact 32 (f := .glo "_law_late") rfl)
  have b32 := F32.binds (ps := ["_law_flow_here"]) fun _ _ _ _ _ _ us hl => match us, hl with | [_], _ => rfl
  obtain ⟨fd33, D33⟩ := cd.def_ 33 (d := hd_law) rfl
  have F33 : Fun K "law" "law" s_law (He.ga K "law") fd33 := fun_of_D D33
  have g33 : mg "law" = some (.ref (He.ga K "law")) := He.glo_ok X G (cd.fact 33 (f := .glo "law") rfl)
  have ex := c.more
  unfold hEx at ex
  simp only [Bool.and_eq_true] at ex
  obtain ⟨⟨⟨ex0, ex1⟩, ex2⟩, ex3⟩ := ex
  have ne : (He.cT K ("long_way", none)).2 ≠ (He.cT K ("is_shifts", none)).2 := of_decide_eq_true ex3
  obtain ⟨fdNs, DNs⟩ := cd.def_ 34 (d := hd_NsInit) rfl
  have FNs : Fun K "__init__" "NoShift.__init__" s_NoShift_init (He.fAd K ("NoShift", some "__init__")) fdNs := fun_of_D DNs
  have bNs := FNs.binds (ps := ["self", "word", "at"]) fun _ _ _ _ _ _ us hl => match us, hl with | [_, _, _], _ => rfl
  have gNs : mg "NoShift" = some (.ref (He.ga K "NoShift")) := He.glo_ok X G (cd.fact 51 (f := .glo "NoShift") rfl)
  have gBe : mg "BeltError" = some (.ref (He.ga K "BeltError")) := He.glo_ok X G (cd.fact 52 (f := .glo "BeltError") rfl)
  have T : Top K mg := ⟨⟨_, fd0, F0, b0, g0⟩, ⟨_, fd1, F1, b1, g1⟩, ⟨_, fd2, F2, b2, g2⟩, ⟨_, fd3, F3, b3, g3⟩, ⟨_, fd4, F4, b4, g4⟩, ⟨_, fd5, F5, b5, g5⟩, ⟨_, fd6, F6, b6, g6⟩, ⟨_, fd7, F7, b7, g7⟩, ⟨_, fd8, F8, b8, g8⟩, ⟨_, fd9, F9, b9, g9⟩, ⟨_, fd10, F10, b10, g10⟩, ⟨_, fd11, F11, b11, g11⟩, ⟨_, fd12, F12, b12, g12⟩, ⟨_, fd13, F13, b13, g13⟩, ⟨_, fd14, F14, b14, g14⟩, ⟨_, fd15, F15, b15, g15⟩, ⟨_, fd16, F16, b16, g16⟩, ⟨_, fd17, F17, b17, g17⟩, ⟨_, fd18, F18, b18, g18⟩, ⟨_, fd19, F19, b19, g19⟩, ⟨_, fd20, F20, b20, g20⟩, ⟨_, fd21, F21, b21, g21⟩, ⟨_, fd22, F22, b22, g22⟩, ⟨_, fd23, F23, b23, g23⟩, ⟨_, fd24, F24, b24, g24⟩, ⟨_, fd25, F25, b25, g25⟩, ⟨_, fd26, F26, b26, g26⟩, ⟨_, fd27, F27, b27, g27⟩, ⟨_, fd28, F28, b28, g28⟩, ⟨_, fd29, F29, b29, g29⟩, ⟨_, fd30, F30, b30, g30⟩, ⟨_, fd31, F31, b31, g31⟩, ⟨_, fd32, F32, b32, g32⟩, He.free_ok X G (cd.fact 34 (f := .free "abs") rfl), He.free_ok X G (cd.fact 35 (f := .free "all") rfl), He.free_ok X G (cd.fact 36 (f := .free "any") rfl), He.free_ok X G (cd.fact 37 (f := .free "bool") rfl), He.free_ok X G (cd.fact 38 (f := .free "enumerate") rfl), He.free_ok X G (cd.fact 39 (f := .free "int") rfl), He.free_ok X G (cd.fact 40 (f := .free "isinstance") rfl), He.free_ok X G (cd.fact 41 (f := .free "len") rfl), He.free_ok X G (cd.fact 42 (f := .free "list") rfl), He.free_ok X G (cd.fact 43 (f := .free "max") rfl), He.free_ok X G (cd.fact 44 (f := .free "min") rfl), He.free_ok X G (cd.fact 45 (f := .free "range") rfl), He.free_ok X G (cd.fact 46 (f := .free "sum") rfl), He.free_ok X G (cd.fact 47 (f := .free "tuple") rfl), He.free_ok X G (cd.fact 48 (f := .free "zip") rfl), ⟨_, He.glo_ok X G (cd.fact 49 (f := .glo "IN_RULE") rfl), fun H => He.tupB_ok ex0 H⟩, ⟨_, He.glo_ok X G (cd.fact 50 (f := .glo "OUT_RULE") rfl), fun H => He.tupB_ok ex1 H⟩, ⟨_, nsB_ok ex2 gNs gBe FNs bNs⟩⟩
  have e := hfa.symm.trans g33
  cases e
  have law_b : ∀ (s : Shared) (v : Value), BindsTo s fd33 ⟨[v], []⟩ [("_law_script", v)] := fun s v => by
    obtain ⟨_, _, _, _, _, _, _, _, _, rfl, _, _⟩ := F33.ex
    exact .of_eq rfl
  refine ⟨fd33, [He.cT K ("long_way", none), He.cT K ("is_shifts", none)], sp_law K ((He.cT K ("long_way", none)).2, (He.cT K ("is_shifts", none)).2), fun p hp => ?_, fun p hp => ?_, fun p hp => ?_, law_b, fun H a ns hl _ hT hS => ⟨a, ns, rfl, hS, hl, (fun p hp => by
    rcases List.mem_cons.mp hp with rfl | hp
    · exact LamX.TabS.nil (hT _ (List.mem_cons_self ..))
    · rw [List.mem_singleton.mp hp]; exact LamX.TabS.nil (hT _ (List.mem_cons_of_mem _ (List.mem_cons_self ..)))), fun _ => rfl⟩, fun base _ _ TB => ?_⟩
  · have hin : ∀ p ∈ [He.cT K ("long_way", none), He.cT K ("is_shifts", none)], ∃ q ∈ hTf, p = He.cT K q := fun p hp => by
      rcases List.mem_cons.mp hp with rfl | hp
      · exact ⟨_, List.mem_cons_self .., rfl⟩
      rcases List.mem_cons.mp hp with rfl | hp
      · exact ⟨_, (List.mem_cons_of_mem _ (List.mem_cons_self ..)), rfl⟩
      cases hp
    obtain ⟨q, hq, rfl⟩ := hin p hp
    exact c.empty _ hq
  · have hin : ∀ p ∈ [He.cT K ("long_way", none), He.cT K ("is_shifts", none)], ∃ q ∈ hTf, p = He.cT K q := fun p hp => by
      rcases List.mem_cons.mp hp with rfl | hp
      · exact ⟨_, List.mem_cons_self .., rfl⟩
      rcases List.mem_cons.mp hp with rfl | hp
      · exact ⟨_, (List.mem_cons_of_mem _ (List.mem_cons_self ..)), rfl⟩
      cases hp
    obtain ⟨q, hq, rfl⟩ := hin p hp
    exact c.out _ hq
  · have hin : ∀ p ∈ [He.cT K ("long_way", none), He.cT K ("is_shifts", none)], ∃ q ∈ hTf, p = He.cT K q := fun p hp => by
      rcases List.mem_cons.mp hp with rfl | hp
      · exact ⟨_, List.mem_cons_self .., rfl⟩
      rcases List.mem_cons.mp hp with rfl | hp
      · exact ⟨_, (List.mem_cons_of_mem _ (List.mem_cons_self ..)), rfl⟩
      cases hp
    obtain ⟨q, hq, rfl⟩ := hin p hp
    exact PySem.W.codeHd_of_K X (c.hd _ hq)
  have TB0 := TB _ (List.mem_cons_self ..)
  have TC0 := TB0
  haveI : TabL K mg base _ ((He.cT K ("long_way", none)).2, (He.cT K ("is_shifts", none)).2) := ⟨TC0, fun f fd F m => by
    have e := m.symm.trans g13
    cases e
    obtain ⟨_, _, _, _, _, _, cdv, _, _, rfl, lk, ci⟩ := F.ex
    obtain ⟨c0, rfl⟩ := He.codeIn_ref ci
    exact congrArg Value.ref (He.codeOf_eq (p := ("long_way", none)) lk rfl).symm, ne⟩
  have TB1 := TB _ (List.mem_cons_of_mem _ (List.mem_cons_self ..))
  have TC1 := TB1
  haveI : TabI K mg base _ ((He.cT K ("long_way", none)).2, (He.cT K ("is_shifts", none)).2) := ⟨TC1, fun f fd F m => by
    have e := m.symm.trans g6
    cases e
    obtain ⟨_, _, _, _, _, _, cdv, _, _, rfl, lk, ci⟩ := F.ex
    obtain ⟨c0, rfl⟩ := He.codeIn_ref ci
    exact congrArg Value.ref (He.codeOf_eq (p := ("is_shifts", none)) lk rfl).symm, ne⟩
  exact ok_law F33 T
end Mine
open PySem PySem.W PySem.Calls PyProof.Rows
set_option maxRecDepth 100000 in
set_option maxHeartbeats 0 in
theorem PySem.Challenge.cw_beltshift_k38_shifts_that_reach_a_time_holds : PySem.Challenge.rw_beltshift_k38_shifts_that_reach_a_time.Holds := by
  w_on; o_law
  refine HandSHeadRun.head_any (r := Mine.hR) (q := view Mine.hR.prog [45]) (H := Mine.hk) (ob := Mine.hOb) (M := 40000) (loose := Mine.hNames) (d := HandSHeadRun.topDef Mine.hR.prog 45) (kwd := []) Mine.hOb_eq (by kernel_rfl) (fun s => by kernel_rfl) Mine.hRun (by kernel_rfl) (by kernel_rfl) (by kernel_rfl) (by rfl) (by first | assumption | decide +kernel) (by decide +kernel) ⟨rfl, rfl, rfl, rfl, rfl, by decide +kernel⟩ ?hw ?hc
  case hw => w_witness2
  case hc =>
    refine LamX.walk_ofTsE (l := PySem.Challenge.rw_beltshift_k38_shifts_that_reach_a_time) (n := 63) (k := 6) (x := "_law_script") (CX := fun _ => L2.CX0) rfl (by decide) (by kernel_rfl) ⟨rfl, by decide, by decide⟩ ?F (fun _ _ _ _ _ z => z)
    intro w mg fa h Y G hmg0
    obtain ⟨K, KX, c⟩ := Y
    have hmg : mg ("law" : PySem.Str) = some (.ref fa) := by
      have e : (HandSHeadRun.topDef Mine.hR.prog 45).name = ("law" : PySem.Str) := by kernel_rfl
      rw [← e]
      exact hmg0
    exact ⟨K, KX, Mine.all_mkX KX G hmg c⟩
