import PyProof.Rows.All
import Wide.All
import OpenK.AllK
import Wide.FinOn
import HandS.ForMost
import HandS.Wide
import HandS.Style
import HandS.IsInst
import HandS.TupAny
import HandS.NoneIn
import HandS.SetFor
import HandS.Conv
import HandS.Zip
import HandS.SortKw
import HandS.Deep
import KE.DataMinMax
import KE.GoesMore
import KE.KDictZip
import KE.GoesZip
import KE.GoesEnum
import PySem.Challenge.RW_beltshift_k57_rings_looked_at
set_option Elab.async false
set_option linter.all false
set_option maxRecDepth 100000
namespace Mine
open PySem PyProof.Rows L2
def topS (i : Nat) : Stmt := PySem.Challenge.pw_beltshift_k57_rings_looked_at.main.body.getD i (.Pass ⟨0, 0, 0, 0⟩)
abbrev s_levels_or_ring : Stmt := topS 1
abbrev N_levels_or_ring : List Str := ["many", "steps", "levels", "last", "raised", "turn"]
theorem sc_levels_or_ring : FnScope N_levels_or_ring ["many", "steps"] (defScope s_levels_or_ring) := ⟨rfl, rfl, rfl, by decide +kernel, rfl, by decide +kernel, by decide +kernel⟩
abbrev s_raise_levels : Stmt := topS 2
abbrev N_raise_levels : List Str := ["levels", "last", "steps", "raised", "number", "begin", "end", "need"]
theorem sc_raise_levels : FnScope N_raise_levels ["levels", "last", "steps"] (defScope s_raise_levels) := ⟨rfl, rfl, rfl, by decide +kernel, rfl, by decide +kernel, by decide +kernel⟩
abbrev s_ring_behind : Stmt := topS 3
abbrev N_ring_behind : List Str := ["place", "last", "steps", "turn", "ring", "here"]
theorem sc_ring_behind : FnScope N_ring_behind ["place", "last", "steps"] (defScope s_ring_behind) := ⟨rfl, rfl, rfl, by decide +kernel, rfl, by decide +kernel, by decide +kernel⟩
abbrev s_doors_in : Stmt := topS 7
abbrev N_doors_in : List Str := ["room", "number", "hand"]
theorem sc_doors_in : FnScope N_doors_in ["room"] (defScope s_doors_in) := ⟨rfl, rfl, rfl, by decide +kernel, rfl, by decide +kernel, by decide +kernel⟩
abbrev s_doors_out : Stmt := topS 8
abbrev N_doors_out : List Str := ["room", "number", "hand"]
theorem sc_doors_out : FnScope N_doors_out ["room"] (defScope s_doors_out) := ⟨rfl, rfl, rfl, by decide +kernel, rfl, by decide +kernel, by decide +kernel⟩
abbrev s_trays_on : Stmt := topS 10
abbrev N_trays_on : List Str := ["room", "way", "number"]
theorem sc_trays_on : FnScope N_trays_on ["room", "way"] (defScope s_trays_on) := ⟨rfl, rfl, rfl, by decide +kernel, rfl, by decide +kernel, by decide +kernel⟩
abbrev s_way_end : Stmt := topS 11
abbrev N_way_end : List Str := ["room", "pair", "hands", "belts", "end", "numbers", "number"]
theorem sc_way_end : FnScope N_way_end ["room", "pair"] (defScope s_way_end) := ⟨rfl, rfl, rfl, by decide +kernel, rfl, by decide +kernel, by decide +kernel⟩
abbrev s_jumps : Stmt := topS 13
abbrev N_jumps : List Str := ["room", "late", "door", "other"]
theorem sc_jumps : FnScope N_jumps ["room", "late"] (defScope s_jumps) := ⟨rfl, rfl, rfl, by decide +kernel, rfl, by decide +kernel, by decide +kernel⟩
abbrev s_shifts_by : Stmt := topS 14
abbrev N_shifts_by : List Str := ["room", "late", "levels", "ins", "outs", "highest", "door", "told", "free", "ground", "shifts", "level"]
theorem sc_shifts_by : FnScope N_shifts_by ["room", "late", "levels"] (defScope s_shifts_by) := ⟨rfl, rfl, rfl, by decide +kernel, rfl, by decide +kernel, by decide +kernel⟩
abbrev s_walk_trays : Stmt := topS 16
abbrev N_walk_trays : List Str := ["room", "late", "walk", "ends", "way", "steps", "end"]
theorem sc_walk_trays : FnScope N_walk_trays ["room", "late", "walk"] (defScope s_walk_trays) := ⟨rfl, rfl, rfl, by decide +kernel, rfl, by decide +kernel, by decide +kernel⟩
abbrev s_closed_trays : Stmt := topS 17
abbrev N_closed_trays : List Str := ["room", "late", "walk", "trays", "closing"]
theorem sc_closed_trays : FnScope N_closed_trays ["room", "late", "walk"] (defScope s_closed_trays) := ⟨rfl, rfl, rfl, by decide +kernel, rfl, by decide +kernel, by decide +kernel⟩
abbrev s_step_trays : Stmt := topS 18
abbrev N_step_trays : List Str := ["room", "late", "end", "begin"]
theorem sc_step_trays : FnScope N_step_trays ["room", "late", "end", "begin"] (defScope s_step_trays) := ⟨rfl, rfl, rfl, by decide +kernel, rfl, by decide +kernel, by decide +kernel⟩
abbrev s_full_shifts : Stmt := topS 20
abbrev N_full_shifts : List Str := ["room", "late", "hands", "belts", "steps", "giver", "taker", "things", "levels", "ring", "number"]
theorem sc_full_shifts : FnScope N_full_shifts ["room", "late"] (defScope s_full_shifts) := ⟨rfl, rfl, rfl, by decide +kernel, rfl, by decide +kernel, by decide +kernel⟩
abbrev s_ring_holds : Stmt := topS 21
abbrev N_ring_holds : List Str := ["room", "late", "ring", "trays", "begin", "numbers"]
theorem sc_ring_holds : FnScope N_ring_holds ["room", "late", "ring"] (defScope s_ring_holds) := ⟨rfl, rfl, rfl, by decide +kernel, rfl, by decide +kernel, by decide +kernel⟩
abbrev s_law_flow : Stmt := topS 23
abbrev N_law_flow : List Str := ["_law_script"]
theorem sc_law_flow : FnScope N_law_flow ["_law_script"] (defScope s_law_flow) := ⟨rfl, rfl, rfl, by decide +kernel, rfl, by decide +kernel, by decide +kernel⟩
abbrev s_law_pick : Stmt := topS 24
abbrev N_law_pick : List Str := ["_law_flow_here", "_law_many", "_law_cell", "_law_digit"]
theorem sc_law_pick : FnScope N_law_pick ["_law_flow_here", "_law_many"] (defScope s_law_pick) := ⟨rfl, rfl, rfl, by decide +kernel, rfl, by decide +kernel, by decide +kernel⟩
abbrev s_law_thing : Stmt := topS 25
abbrev N_law_thing : List Str := ["_law_flow_here"]
theorem sc_law_thing : FnScope N_law_thing ["_law_flow_here"] (defScope s_law_thing) := ⟨rfl, rfl, rfl, by decide +kernel, rfl, by decide +kernel, by decide +kernel⟩
abbrev s_law_needs : Stmt := topS 26
abbrev N_law_needs : List Str := ["_law_rule_here"]
theorem sc_law_needs : FnScope N_law_needs ["_law_rule_here"] (defScope s_law_needs) := ⟨rfl, rfl, rfl, by decide +kernel, rfl, by decide +kernel, by decide +kernel⟩
abbrev s_law_rule : Stmt := topS 27
abbrev N_law_rule : List Str := ["_law_flow_here", "_law_most", "_law_words", "_law_word"]
theorem sc_law_rule : FnScope N_law_rule ["_law_flow_here", "_law_most"] (defScope s_law_rule) := ⟨rfl, rfl, rfl, by decide +kernel, rfl, by decide +kernel, by decide +kernel⟩
abbrev s_law_shuffled : Stmt := topS 28
abbrev N_law_shuffled : List Str := ["_law_flow_here", "_law_some", "_law_left", "_law_k"]
theorem sc_law_shuffled : FnScope N_law_shuffled ["_law_flow_here", "_law_some"] (defScope s_law_shuffled) := ⟨rfl, rfl, rfl, by decide +kernel, rfl, by decide +kernel, by decide +kernel⟩
abbrev s_law_hands : Stmt := topS 29
abbrev N_law_hands : List Str := ["_law_flow_here", "_law_many", "_law_sorts", "_law_left", "_law_hands_here", "_law_k", "_law_sort", "_law_behind", "_law_other", "_law_rule_here"]
theorem sc_law_hands : FnScope N_law_hands ["_law_flow_here", "_law_many"] (defScope s_law_hands) := ⟨rfl, rfl, rfl, by decide +kernel, rfl, by decide +kernel, by decide +kernel⟩
abbrev s_law_room : Stmt := topS 30
abbrev N_law_room : List Str := ["_law_flow_here", "_law_most", "_law_hands_here", "_law_ranks", "_law_givers", "_law_k", "_law_takers", "_law_belts_here", "_law_to", "_law_one", "_law_trays_here"]
theorem sc_law_room : FnScope N_law_room ["_law_flow_here", "_law_most"] (defScope s_law_room) := ⟨rfl, rfl, rfl, by decide +kernel, rfl, by decide +kernel, by decide +kernel⟩
abbrev s_law_alike : Stmt := topS 31
abbrev N_law_alike : List Str := ["_law_found", "_law_due", "_law_one", "_law_other"]
theorem sc_law_alike : FnScope N_law_alike ["_law_found", "_law_due"] (defScope s_law_alike) := ⟨rfl, rfl, rfl, by decide +kernel, rfl, by decide +kernel, by decide +kernel⟩
abbrev s_law_doors_room : Stmt := topS 32
abbrev N_law_doors_room : List Str := ["_law_flow_here", "_law_ins", "_law_outs", "_law_sorts", "_law_givers", "_law_k", "_law_sort", "_law_belts_here", "_law_things", "_law_j"]
theorem sc_law_doors_room : FnScope N_law_doors_room ["_law_flow_here"] (defScope s_law_doors_room) := ⟨rfl, rfl, rfl, by decide +kernel, rfl, by decide +kernel, by decide +kernel⟩
abbrev s_law_any_room : Stmt := topS 33
abbrev N_law_any_room : List Str := ["_law_flow_here", "_law_form", "_law_found"]
theorem sc_law_any_room : FnScope N_law_any_room ["_law_flow_here"] (defScope s_law_any_room) := ⟨rfl, rfl, rfl, by decide +kernel, rfl, by decide +kernel, by decide +kernel⟩
abbrev s_law_end : Stmt := topS 34
abbrev N_law_end : List Str := ["_law_room_here", "_law_pair", "_law_here", "_law_b"]
theorem sc_law_end : FnScope N_law_end ["_law_room_here", "_law_pair"] (defScope s_law_end) := ⟨rfl, rfl, rfl, by decide +kernel, rfl, by decide +kernel, by decide +kernel⟩
abbrev s_law_trays : Stmt := topS 35
abbrev N_law_trays : List Str := ["_law_room_here", "_law_way", "_law_b"]
theorem sc_law_trays : FnScope N_law_trays ["_law_room_here", "_law_way"] (defScope s_law_trays) := ⟨rfl, rfl, rfl, by decide +kernel, rfl, by decide +kernel, by decide +kernel⟩
abbrev s_law_walk_trays : Stmt := topS 36
abbrev N_law_walk_trays : List Str := ["_law_room_here", "_law_late_here", "_law_walk", "_law_closed", "_law_way", "_law_found", "_law_later", "_law_other", "_law_end_here"]
theorem sc_law_walk_trays : FnScope N_law_walk_trays ["_law_room_here", "_law_late_here", "_law_walk", "_law_closed"] (defScope s_law_walk_trays) := ⟨rfl, rfl, rfl, by decide +kernel, rfl, by decide +kernel, by decide +kernel⟩
abbrev s_law_belts : Stmt := topS 37
abbrev N_law_belts : List Str := ["_law_walk", "_law_way"]
theorem sc_law_belts : FnScope N_law_belts ["_law_walk"] (defScope s_law_belts) := ⟨rfl, rfl, rfl, by decide +kernel, rfl, by decide +kernel, by decide +kernel⟩
abbrev s_law_any_way : Stmt := topS 38
abbrev N_law_any_way : List Str := ["_law_flow_here", "_law_room_here", "_law_most", "_law_here", "_law_start", "_law_belts_here", "_law_turn", "_law_some", "_law_b", "_law_belt"]
theorem sc_law_any_way : FnScope N_law_any_way ["_law_flow_here", "_law_room_here", "_law_most"] (defScope s_law_any_way) := ⟨rfl, rfl, rfl, by decide +kernel, rfl, by decide +kernel, by decide +kernel⟩
abbrev s_law_way_otherwise : Stmt := topS 39
abbrev N_law_way_otherwise : List Str := ["_law_flow_here", "_law_room_here", "_law_way", "_law_form", "_law_at", "_law_b"]
theorem sc_law_way_otherwise : FnScope N_law_way_otherwise ["_law_flow_here", "_law_room_here", "_law_way"] (defScope s_law_way_otherwise) := ⟨rfl, rfl, rfl, by decide +kernel, rfl, by decide +kernel, by decide +kernel⟩
abbrev s_law_walk_otherwise : Stmt := topS 40
abbrev N_law_walk_otherwise : List Str := ["_law_flow_here", "_law_room_here", "_law_walk", "_law_form", "_law_at"]
theorem sc_law_walk_otherwise : FnScope N_law_walk_otherwise ["_law_flow_here", "_law_room_here", "_law_walk"] (defScope s_law_walk_otherwise) := ⟨rfl, rfl, rfl, by decide +kernel, rfl, by decide +kernel, by decide +kernel⟩
abbrev s_law_is_small : Stmt := topS 41
abbrev N_law_is_small : List Str := ["_law_walk"]
theorem sc_law_is_small : FnScope N_law_is_small ["_law_walk"] (defScope s_law_is_small) := ⟨rfl, rfl, rfl, by decide +kernel, rfl, by decide +kernel, by decide +kernel⟩
abbrev s_law_rings : Stmt := topS 42
abbrev N_law_rings : List Str := ["_law_room_here", "_law_found", "_law_start", "_law_here", "_law_turn", "_law_longer", "_law_hand", "_law_belts_here", "_law_met", "_law_b", "_law_belt"]
theorem sc_law_rings : FnScope N_law_rings ["_law_room_here"] (defScope s_law_rings) := ⟨rfl, rfl, rfl, by decide +kernel, rfl, by decide +kernel, by decide +kernel⟩
abbrev s_law_ring_holds : Stmt := topS 43
abbrev N_law_ring_holds : List Str := ["_law_room_here", "_law_late_here", "_law_ring", "_law_trays_here"]
theorem sc_law_ring_holds : FnScope N_law_ring_holds ["_law_room_here", "_law_late_here", "_law_ring"] (defScope s_law_ring_holds) := ⟨rfl, rfl, rfl, by decide +kernel, rfl, by decide +kernel, by decide +kernel⟩
abbrev s_law_late : Stmt := topS 44
abbrev N_law_late : List Str := ["_law_flow_here"]
theorem sc_law_late : FnScope N_law_late ["_law_flow_here"] (defScope s_law_late) := ⟨rfl, rfl, rfl, by decide +kernel, rfl, by decide +kernel, by decide +kernel⟩
abbrev s_law_begun : Stmt := topS 45
abbrev N_law_begun : List Str := ["_law_flow_here", "_law_room_here", "_law_late_here", "_law_told", "_law_rings_here", "_law_k"]
theorem sc_law_begun : FnScope N_law_begun ["_law_flow_here", "_law_room_here", "_law_late_here"] (defScope s_law_begun) := ⟨rfl, rfl, rfl, by decide +kernel, rfl, by decide +kernel, by decide +kernel⟩
abbrev s_law : Stmt := topS 46
abbrev N_law : List Str := ["_law_script", "_law_flow_here", "_law_room_here", "_law_late_here", "_law_other", "_law_ring", "_law_sought", "_law_turn", "_law_walk", "_law_k", "_law_one"]
theorem sc_law : FnScope N_law ["_law_script"] (defScope s_law) := ⟨rfl, rfl, rfl, by decide +kernel, rfl, by decide +kernel, by decide +kernel⟩

/-- a def of the text stands, binds and is bound -/
def Dd (K : PySem.W.Frag) (mg : Str → Option Value) (name : Str) (st : Stmt) (ps : List Str) : Prop :=
  ∃ (f : Addr) (fd : FuncData), Fun K name name st f fd ∧ Binds K fd ps [] ∧ mg name = some (.ref f)
structure Top (K : PySem.W.Frag) (mg : Str → Option Value) : Prop where
  d_levels_or_ring : Dd K mg "levels_or_ring" s_levels_or_ring ["many", "steps"]
  d_raise_levels : Dd K mg "raise_levels" s_raise_levels ["levels", "last", "steps"]
  d_ring_behind : Dd K mg "ring_behind" s_ring_behind ["place", "last", "steps"]
  d_doors_in : Dd K mg "doors_in" s_doors_in ["room"]
  d_doors_out : Dd K mg "doors_out" s_doors_out ["room"]
  d_trays_on : Dd K mg "trays_on" s_trays_on ["room", "way"]
  d_way_end : Dd K mg "way_end" s_way_end ["room", "pair"]
  d_jumps : Dd K mg "jumps" s_jumps ["room", "late"]
  d_shifts_by : Dd K mg "shifts_by" s_shifts_by ["room", "late", "levels"]
  d_walk_trays : Dd K mg "walk_trays" s_walk_trays ["room", "late", "walk"]
  d_closed_trays : Dd K mg "closed_trays" s_closed_trays ["room", "late", "walk"]
  d_step_trays : Dd K mg "step_trays" s_step_trays ["room", "late", "end", "begin"]
  d_full_shifts : Dd K mg "full_shifts" s_full_shifts ["room", "late"]
  d_ring_holds : Dd K mg "ring_holds" s_ring_holds ["room", "late", "ring"]
  d_law_flow : Dd K mg "_law_flow" s_law_flow ["_law_script"]
  d_law_pick : Dd K mg "_law_pick" s_law_pick ["_law_flow_here", "_law_many"]
  d_law_thing : Dd K mg "_law_thing" s_law_thing ["_law_flow_here"]
  d_law_needs : Dd K mg "_law_needs" s_law_needs ["_law_rule_here"]
  d_law_rule : Dd K mg "_law_rule" s_law_rule ["_law_flow_here", "_law_most"]
  d_law_shuffled : Dd K mg "_law_shuffled" s_law_shuffled ["_law_flow_here", "_law_some"]
  d_law_hands : Dd K mg "_law_hands" s_law_hands ["_law_flow_here", "_law_many"]
  d_law_room : Dd K mg "_law_room" s_law_room ["_law_flow_here", "_law_most"]
  d_law_alike : Dd K mg "_law_alike" s_law_alike ["_law_found", "_law_due"]
  d_law_doors_room : Dd K mg "_law_doors_room" s_law_doors_room ["_law_flow_here"]
  d_law_any_room : Dd K mg "_law_any_room" s_law_any_room ["_law_flow_here"]
  d_law_end : Dd K mg "_law_end" s_law_end ["_law_room_here", "_law_pair"]
  d_law_trays : Dd K mg "_law_trays" s_law_trays ["_law_room_here", "_law_way"]
  d_law_walk_trays : Dd K mg "_law_walk_trays" s_law_walk_trays ["_law_room_here", "_law_late_here", "_law_walk", "_law_closed"]
  d_law_belts : Dd K mg "_law_belts" s_law_belts ["_law_walk"]
  d_law_any_way : Dd K mg "_law_any_way" s_law_any_way ["_law_flow_here", "_law_room_here", "_law_most"]
  d_law_way_otherwise : Dd K mg "_law_way_otherwise" s_law_way_otherwise ["_law_flow_here", "_law_room_here", "_law_way"]
  d_law_walk_otherwise : Dd K mg "_law_walk_otherwise" s_law_walk_otherwise ["_law_flow_here", "_law_room_here", "_law_walk"]
  d_law_is_small : Dd K mg "_law_is_small" s_law_is_small ["_law_walk"]
  d_law_rings : Dd K mg "_law_rings" s_law_rings ["_law_room_here"]
  d_law_ring_holds : Dd K mg "_law_ring_holds" s_law_ring_holds ["_law_room_here", "_law_late_here", "_law_ring"]
  d_law_late : Dd K mg "_law_late" s_law_late ["_law_flow_here"]
  d_law_begun : Dd K mg "_law_begun" s_law_begun ["_law_flow_here", "_law_room_here", "_law_late_here"]
  m_all : mg "all" = none
  m_any : mg "any" = none
  m_bool : mg "bool" = none
  m_enumerate : mg "enumerate" = none
  m_int : mg "int" = none
  m_isinstance : mg "isinstance" = none
  m_len : mg "len" = none
  m_list : mg "list" = none
  m_max : mg "max" = none
  m_min : mg "min" = none
  m_range : mg "range" = none
  m_sum : mg "sum" = none
  m_tuple : mg "tuple" = none
  m_zip : mg "zip" = none
  x_in : ∃ aI : Addr, mg "IN_RULE" = some (.ref aI) ∧ ∀ H : Hp, SqT K H aI [.str "in"]
  x_out : ∃ aO : Addr, mg "OUT_RULE" = some (.ref aO) ∧ ∀ H : Hp, SqT K H aO [.str "out"]

/-! ### heaps -/
def But (f : Addr) (H H' : Hp) : Prop := ∀ b o, H b = some o → b ≠ f → H' b = some o
theorem But.refl {f : Addr} {H : Hp} : But f H H := fun _ _ e _ => e
theorem But.trans {f : Addr} {H H1 H2 : Hp} (a : But f H H1) (b : But f H1 H2) : But f H H2 := fun x o e n => b x o (a x o e n) n
theorem But.upd {f : Addr} {H H1 : Hp} {o : HO} (a : But f H H1) : But f H (upd H1 f o) := fun x u e n => by rw [upd_ne n]; exact a x u e n
theorem But.new {f p : Addr} {H H1 : Hp} {o : HO} (a : But f H H1) (h : H1 p = none) : But f H (L2.upd H1 p o) := fun x u e n => by
  have e1 := a x u e n
  rw [upd_ne (ne_of_none e1 h)]
  exact e1
theorem same_new {H : Hp} {p : Addr} {o : HO} (h : H p = none) : Same H (upd H p o) := fun b u q => by rw [upd_ne (ne_of_none q h)]; exact q
theorem But.same {f : Addr} {H H1 H2 : Hp} (a : But f H H1) (b : Same H1 H2) : But f H H2 := fun x o e n => b x o (a x o e n)
theorem But.seqT {K : PySem.W.Frag} {f a : Addr} {H H1 : Hp} {xs : List V} (b : But f H H1) (h : SqT K H a xs) (n : a ≠ f) : SqT K H1 a xs := by
  rcases h with h | h
  · left
    rcases h with h | ⟨o, h⟩
    · exact .inl (b _ _ h n)
    · exact .inr ⟨o, b _ _ h n⟩
  · exact .inr h
/-- a comprehension without a test -/
theorem yes_in {σ : L2.St} {H : Hp} {A B : Hp → Prop} (h : A H) : tYes σ H (fun b H3 => if b = true then A H3 else B H3) := by
  show (if true = true then A H else B H)
  rw [if_pos rfl]
  exact h
/-! ### the draw -/
/-- the list of the law's draws at f, the script's copy at c -/
def Flow (H : Hp) (f c : Addr) : Prop := ∃ (ns : List Int) (i p q r : Int), H f = some (.lst [.ref c, .int i, .int p, .int q, .int r]) ∧ H c = some (.lst (ns.map V.int)) ∧ 0 ≤ i ∧ 0 ≤ p ∧ 0 ≤ q ∧ q < 2147483647
theorem Flow.new {H : Hp} {f c p : Addr} {o : HO} (h : Flow H f c) (n : H p = none) : Flow (upd H p o) f c := by
  obtain ⟨ns, i, a, q, r, e1, e2, e⟩ := h
  exact ⟨ns, i, a, q, r, same_new n _ _ e1, same_new n _ _ e2, e⟩
theorem Flow.ne {H : Hp} {f c p : Addr} (h : Flow H f c) (n : H p = none) : p ≠ f := by
  obtain ⟨ns, i, a, q, r, e1, _⟩ := h
  exact fun e => by rw [e, e1] at n; cases n
theorem Flow.nec {H : Hp} {f c p : Addr} (h : Flow H f c) (n : H p = none) : p ≠ c := by
  obtain ⟨ns, i, a, q, r, _, e1, _⟩ := h
  exact fun e => by rw [e, e1] at n; cases n
theorem Flow.lst {H : Hp} {f c p : Addr} {o : HO} (h : Flow H f c) (n1 : p ≠ f) (n2 : p ≠ c) : Flow (upd H p o) f c := by
  obtain ⟨ns, i, a, q, r, e1, e2, e⟩ := h
  exact ⟨ns, i, a, q, r, by rw [upd_ne n1.symm]; exact e1, by rw [upd_ne n2.symm]; exact e2, e⟩
theorem Flow.same {H H' : Hp} {f c : Addr} (h : Flow H f c) (s : Same H H') : Flow H' f c := by
  obtain ⟨ns, i, a, q, r, e1, e2, e⟩ := h
  exact ⟨ns, i, a, q, r, s _ _ e1, s _ _ e2, e⟩
theorem Flow.tup {H : Hp} {f c p : Addr} {xs : List V} (h : Flow H f c) (e : H p = some (.tup xs)) : p ≠ f := by
  obtain ⟨ns, i, a, q, r, e1, _⟩ := h
  exact ne_of e e1 (by intro z; cases z)
theorem at_ints {ns : List Int} {i : Int} (h0 : 0 ≤ i) (h1 : i < (ns.length : Int)) : ∃ v : Int, atI (ns.map V.int) i = some (.int v) := by
  have hk : i.toNat < ns.length := by omega
  have ek : i = ((i.toNat : Nat) : Int) := by omega
  have q : atI (ns.map V.int) ((i.toNat : Nat) : Int) = some (.int ns[i.toNat]) := atI_nat (by rw [List.getElem?_map, List.getElem?_eq_getElem hk]; rfl)
  rw [← ek] at q
  exact ⟨_, q⟩
/-- a block by less than it asks -/
theorem PSs.to {X : Cx} {ss : List Stmt} {t : TS} (h : PSs X ss t) (u : TS) (k : ∀ D σ H, u D σ H → t D σ H) : PSs X ss u := ⟨fun pins s σ H D I q => h.run pins s σ H D I (k D σ H q)⟩
theorem if_bl {b : Bool} {A B : Prop} (h1 : b = true → A) (h2 : b = false → B) : if b = true then A else B := by
  cases b
  · rw [if_neg Bool.false_ne_true]; exact h2 rfl
  · rw [if_pos rfl]; exact h1 rfl
/-! ### lists, two by two -/
inductive All2 {α β : Type} (R : α → β → Prop) : List α → List β → Prop
  | nil : All2 R [] []
  | cons {a b as bs} : R a b → All2 R as bs → All2 R (a :: as) (b :: bs)
theorem All2.imp {α β : Type} {R S : α → β → Prop} (h : ∀ a b, R a b → S a b) : ∀ {as bs}, All2 R as bs → All2 S as bs
  | _, _, .nil => .nil
  | _, _, .cons a b => .cons (h _ _ a) (All2.imp h b)
theorem All2.length {α β : Type} {R : α → β → Prop} : ∀ {as bs}, All2 R as bs → as.length = bs.length
  | _, _, .nil => rfl
  | _, _, .cons _ b => congrArg (· + 1) (All2.length b)
theorem All2.snoc {α β : Type} {R : α → β → Prop} {a b} (r : R a b) : ∀ {as bs}, All2 R as bs → All2 R (as ++ [a]) (bs ++ [b])
  | _, _, .nil => .cons r .nil
  | _, _, .cons h t => .cons h (All2.snoc r t)
theorem All2.get {α β : Type} {R : α → β → Prop} {as : List α} {bs : List β} (h : All2 R as bs) : ∀ {i : Nat} {b : β}, bs[i]? = some b → ∃ a, as[i]? = some a ∧ R a b := by
  induction h with
  | nil => intro i b e; cases e
  | cons r t ih =>
    intro i b e
    cases i with
    | zero => cases e; exact ⟨_, rfl, r⟩
    | succ i => exact ih e
theorem All2.getL {α β : Type} {R : α → β → Prop} {as : List α} {bs : List β} (h : All2 R as bs) : ∀ {i : Nat} {a : α}, as[i]? = some a → ∃ b, bs[i]? = some b ∧ R a b := by
  induction h with
  | nil => intro i b e; cases e
  | cons r t ih =>
    intro i b e
    cases i with
    | zero => cases e; exact ⟨_, rfl, r⟩
    | succ i => exact ih e
/-! ### tuples stay -/
def TK (H H' : Hp) : Prop := ∀ b xs, H b = some (.tup xs) → H' b = some (.tup xs)
theorem TK.refl {H : Hp} : TK H H := fun _ _ e => e
theorem TK.trans {H H1 H2 : Hp} (a : TK H H1) (b : TK H1 H2) : TK H H2 := fun x xs e => b x xs (a x xs e)
theorem TK.same {H H' : Hp} (s : Same H H') : TK H H' := fun x xs e => s _ _ e
theorem TK.new {H : Hp} {p : Addr} {o : HO} (n : H p = none) : TK H (upd H p o) := fun x xs e => same_new n _ _ e
theorem TK.lst {H : Hp} {p : Addr} {xs ys : List V} (h : H p = some (.lst xs)) : TK H (upd H p (.lst ys)) := fun x zs e => by
  rw [upd_ne (ne_of e h (by intro z; cases z))]
  exact e
theorem TK.but {H H' : Hp} {f c : Addr} (F : Flow H f c) (b : But f H H') : TK H H' := fun x xs e => b _ _ e (F.tup e)
theorem same_none {H H' : Hp} {p : Addr} (s : Same H H') (n : H' p = none) : H p = none := by
  cases e : H p with
  | none => rfl
  | some o => rw [s _ _ e] at n; cases n
theorem But.none {f p : Addr} {H H' : Hp} (b : But f H H') (n : H' p = Option.none) (h : p ≠ f) : H p = Option.none := by
  cases e : H p with
  | none => rfl
  | some o => rw [b _ _ e h] at n; cases n
theorem But.of {f : Addr} {H H' : Hp} (s : Same H H') : But f H H' := fun _ _ e _ => s _ _ e
/-- a list that was not there is written: what was stays -/
theorem But.own {f p : Addr} {H H1 : Hp} {o : HO} (a : But f H H1) (h : H p = Option.none) : But f H (L2.upd H1 p o) := fun x u e n => by
  rw [upd_ne (ne_of_none e h)]
  exact a x u e n
theorem Same.own {p : Addr} {H H1 : Hp} {o : HO} (a : Same H H1) (h : H p = Option.none) : Same H (L2.upd H1 p o) := fun x u e => by
  rw [upd_ne (ne_of_none e h)]
  exact a x u e
/-! ### loops over any iterator -/
theorem for_it {J : It} {n : Nat} {g : TG} {tb : TS} {D : Ends} {σ : L2.St} {H : Hp} (Pv : Nat → L2.St → Hp → Prop) (h0 : Pv 0 σ H) (go : ∀ i σ H, i < n → Pv i σ H → J.go i H) (st : ∀ σ H, Pv n σ H → J.stop n H)
    (hs : ∀ i x σ H H', i < n → Pv i σ H → J.yld i H x H' → g x σ H' fun σ2 H2 => tb { D with nx := Pv (i + 1), ct := Pv (i + 1), bk := D.nx } σ2 H2) (hd : ∀ σ H, Pv n σ H → D.nx σ H) :
    ∃ W : Nat → Nat → L2.St → Hp → Prop, (∃ m, W 0 m σ H) ∧ ∀ i m σ H, W i m σ H →
      (J.stop i H ∧ D.nx σ H) ∨ (J.go i H ∧ ∃ N : L2.St → Hp → Prop, (∀ σ' H', N σ' H' → ∃ m', m' < m ∧ W (i + 1) m' σ' H') ∧ ∀ x H', J.yld i H x H' → g x σ H' fun σ2 H2 => tb { D with nx := N, ct := N, bk := D.nx } σ2 H2) := by
  refine ⟨fun i m σ H => i + m = n ∧ Pv i σ H, ⟨n, by omega, h0⟩, fun i m σ H ⟨e, p⟩ => ?_⟩
  by_cases k : i < n
  · exact .inr ⟨go i σ H k p, Pv (i + 1), fun σ' H' p' => ⟨m - 1, by omega, by omega, p'⟩, fun x H' y => hs i x σ H H' k p y⟩
  · have z : i = n := by omega
    subst z
    exact .inl ⟨st σ H p, hd σ H p⟩
theorem lc_it {J : It} {n : Nat} {g : TG} {tt : TT} {te : TE} {vs : List Nat} {σ : L2.St} {H1 : Hp} {D : Addr} {Qd : Hp → Prop} (Pv : Nat → Hp → Prop) (h0 : Pv 0 (upd H1 D (.lst []))) (go : ∀ i H, i < n → Pv i H → J.go i H) (st : ∀ H, Pv n H → J.stop n H)
    (hs : ∀ i x H H', i < n → Pv i H → J.yld i H x H' → g x (wipe σ vs) H' fun σ2 H2 => wipe σ2 vs = wipe σ vs ∧ tt σ2 H2 fun b H3 =>
      if b = true then te σ2 H3 fun y H4 => ∃ acc, H4 D = some (.lst acc) ∧ acc.length < sizeLine ∧ Pv (i + 1) (upd H4 D (.lst (acc ++ [y]))) else Pv (i + 1) H3) (hd : ∀ H, Pv n H → Qd H) :
    ∃ W : Nat → Nat → Hp → Prop, (∃ m, W 0 m (upd H1 D (.lst []))) ∧ ∀ i m H, W i m H →
      (J.stop i H ∧ Qd H) ∨ (J.go i H ∧ ∃ Nx : Hp → Prop, (∀ H', Nx H' → ∃ m', m' < m ∧ W (i + 1) m' H') ∧ ∀ x H', J.yld i H x H' → g x (wipe σ vs) H' fun σ2 H2 => wipe σ2 vs = wipe σ vs ∧ tt σ2 H2 fun b H3 =>
        if b = true then te σ2 H3 fun y H4 => ∃ acc, H4 D = some (.lst acc) ∧ acc.length < sizeLine ∧ Nx (upd H4 D (.lst (acc ++ [y]))) else Nx H3) := by
  refine ⟨fun i m H => i + m = n ∧ Pv i H, ⟨n, by omega, h0⟩, fun i m H ⟨e, p⟩ => ?_⟩
  by_cases k : i < n
  · exact .inr ⟨go i H k p, Pv (i + 1), fun H' p' => ⟨m - 1, by omega, by omega, p'⟩, fun x H' y => hs i x H H' k p y⟩
  · have z : i = n := by omega
    subst z
    exact .inl ⟨st H p, hd H p⟩
/-! ### tests -/
theorem if_str {x z : Str} {A B : Prop} (h1 : x = z → A) (h2 : x ≠ z → B) : if decide (V.str x = V.str z) = true then A else B :=
  if_bl (fun e => h1 (V.str.inj (of_decide_eq_true e))) (fun e => h2 (fun q => of_decide_eq_false e (congrArg V.str q)))
theorem inV_strs {x : Str} {zs : List Str} : inV (.str x) (zs.map V.str) = true ↔ x ∈ zs := by
  unfold inV
  induction zs with
  | nil => simp
  | cons z zs ih =>
    rw [List.map_cons, List.any_cons, Bool.or_eq_true, ih, List.mem_cons]
    constructor
    · rintro (h | h)
      · exact .inl (by simpa [eqV] using (show (z == x) = true from h) |> fun k => (eq_of_beq k).symm)
      · exact .inr h
    · rintro (h | h)
      · exact .inl (show (z == x) = true by rw [h]; exact beq_self_eq_true z)
      · exact .inr h
theorem if_in {x : Str} {zs : List Str} {A B : Prop} (h1 : x ∈ zs → A) (h2 : x ∉ zs → B) : if (if false = true then !inV (.str x) (zs.map V.str) else inV (.str x) (zs.map V.str)) = true then A else B := by
  have e : (if false = true then !inV (.str x) (zs.map V.str) else inV (.str x) (zs.map V.str)) = inV (.str x) (zs.map V.str) := if_neg Bool.false_ne_true
  rw [e]
  exact if_bl (fun c => h1 (inV_strs.mp c)) (fun c => h2 (fun k => by rw [inV_strs.mpr k] at c; cases c))
theorem same_seqT {K : PySem.W.Frag} {a : Addr} {H H1 : Hp} {xs : List V} (b : Same H H1) (h : SqT K H a xs) : SqT K H1 a xs := by
  rcases h with h | h
  · left
    rcases h with h | ⟨o, h⟩
    · exact .inl (b _ _ h)
    · exact .inr ⟨o, b _ _ h⟩
  · exact .inr h
theorem little {n : Nat} (h : n ≤ 1000) : n ≤ sizeLine := Nat.le_of_lt (small1000 h)
/-! ### xs[i] op= e -/
def rGetL (K : PySem.W.Frag) : V → V → Hp → VK → Prop := fun o i H Q => ∃ (p : Addr) (xs : List V) (j : Nat) (v : V), o = .ref p ∧ i = .int (j : Nat) ∧ SqL K H p xs ∧ xs[j]? = some v ∧ Q v H
theorem get_list {X : Cx} : PGet X (rGetL X.K) := by
  intro pins st σ H o i ov iv Q J ro ri asked
  obtain ⟨p, xs, j, v, rfl, rfl, hq, hj, now⟩ := asked
  cases ro
  obtain ⟨t, rfl⟩ := ri
  obtain ⟨its, r, pl, hz⟩ := J.list hq
  obtain ⟨u, eu, ru⟩ := r.get hj
  have n1 := (List.getElem?_eq_some_iff.mp hj).1
  have n2 := line63
  exact wpAny_getItem_list pl.isList (by omega) (by omega) (by simpa using eu) ⟨v, H, J, ru, now⟩
/-! ### the same rules, the written part named (so that they fit within comprehensions) -/
section
variable {X : Cx}
theorem ix_listK (K : PySem.W.Frag) (h : X.K = K) : IxR X (rIxL K) := by subst h; exact ix_list
theorem ix_tupK (K : PySem.W.Frag) (h : X.K = K) : IxR X (rIxT K) := by subst h; exact ix_tup
def rLenK (K : PySem.W.Frag) : List V → Hp → VK → Prop := fun xs H Q => ∃ (p : Addr) (ys : List V), xs = [.ref p] ∧ (SqL K H p ys ∨ SqT K H p ys) ∧ Q (.int (ys.length : Nat)) H
theorem call_len_seqK (K : PySem.W.Frag) (h : X.K = K) : CallR X (.builtin "len") (rLenK K) := by subst h; exact call_len_seq
def rListOfK (K : PySem.W.Frag) : List V → Hp → VK → Prop := fun xs H Q => ∃ (p : Addr) (ys : List V), xs = [.ref p] ∧ (SqL K H p ys ∨ SqT K H p ys) ∧ ∀ l, H l = none → Q (.ref l) (upd H l (.lst ys))
theorem call_list_ofK (K : PySem.W.Frag) (h : X.K = K) : CallR X (.type "list") (rListOfK K) := by subst h; exact call_list_of
def rTupOfK (K : PySem.W.Frag) : List V → Hp → VK → Prop := fun xs H Q => ∃ (p : Addr) (ys : List V), xs = [.ref p] ∧ ((SqL K H p ys ∧ ∀ l, H l = none → Q (.ref l) (upd H l (.tup ys))) ∨ (SqT K H p ys ∧ Q (.ref p) H))
theorem call_tuple_ofK (K : PySem.W.Frag) (h : X.K = K) : CallR X (.type "tuple") (rTupOfK K) := by subst h; exact call_tuple_of
theorem op_in_seqK (K : PySem.W.Frag) (h : X.K = K) : OpR X (compareOp .In) (rIn K false) := by subst h; exact op_in_seq
theorem op_notIn_seqK (K : PySem.W.Frag) (h : X.K = K) : OpR X (compareOp .NotIn) (rIn K true) := by subst h; exact op_notIn_seq
theorem sl_listK (K : PySem.W.Frag) (h : X.K = K) : SlR X (rSlL K) := by subst h; exact sl_list
theorem sl_tupAK (K : PySem.W.Frag) (h : X.K = K) : SlR X (rSlA K) := by subst h; exact sl_tupA
theorem op_eqDK (K : PySem.W.Frag) (h : X.K = K) (hu : X.A.units + 64 < cLine) : OpR X (compareOp .Eq) (rEqD K) := by subst h; exact op_eqD hu
theorem op_neDK (K : PySem.W.Frag) (h : X.K = K) (hu : X.A.units + 64 < cLine) : OpR X (compareOp .NotEq) (rNeD K) := by subst h; exact op_neD hu
theorem call_isiKK (K : PySem.W.Frag) (h : X.K = K) : CallR X (.builtin "isinstance") (rIsi K) := by subst h; exact call_isi
theorem cr_allK (K : PySem.W.Frag) (h : X.K = K) (hc : X.calm = true) : CallR X (.builtin "all") (rAll K) := by subst h; exact cr_all hc
theorem cr_anyK (K : PySem.W.Frag) (h : X.K = K) (hc : X.calm = true) : CallR X (.builtin "any") (rAny K) := by subst h; exact cr_any hc
theorem cr_minKK (K : PySem.W.Frag) (h : X.K = K) (hc : X.calm = true) : CallR X (.builtin "min") (rMin K) := by subst h; exact cr_min hc
theorem cr_maxKK (K : PySem.W.Frag) (h : X.K = K) (hc : X.calm = true) : CallR X (.builtin "max") (rMax K) := by subst h; exact cr_max hc
def tTruK (K : PySem.W.Frag) (ta : TE) : TT := fun σ H Q => ta σ H fun x H' => ∃ k, TruV K x H' k ∧ Q k H'
theorem pt_truthK (K : PySem.W.Frag) (h : X.K = K) {a : Expr} {ta : TE} (ha : PE X a ta) (he : ∀ whole, isTrue a X.env whole = (do let v ← whole; standAt a.pos; holding [v] (truthy v))) : PT X a (tTruK K ta) := by subst h; exact pt_truth ha he
theorem get_listK (K : PySem.W.Frag) (h : X.K = K) : PGet X (rGetL K) := by subst h; exact get_list
theorem pg_tupK (K : PySem.W.Frag) (h : X.K = K) {es : List Expr} {k n : Nat} {t : TGs} {pos : Pos} (hc : X.calm = true) (g : PGs X es t)
    (hn : (assignEach es X.env).length = n := by rfl) (hst : (assignEach es X.env).findIdx? (·.1) = none := by rfl) : PG X (.Tuple es k pos) (gTup K n t) := by subst h; exact pg_tup hc g hn hst
theorem pg_unlK (K : PySem.W.Frag) (h : X.K = K) {es : List Expr} {k n : Nat} {t : TGs} {pos : Pos} (hc : X.calm = true) (g : PGs X es t)
    (hn : (assignEach es X.env).length = n := by rfl) (hst : (assignEach es X.env).findIdx? (·.1) = none := by rfl) : PG X (.Tuple es k pos) (gUnl K n t) := by subst h; exact pg_unl hc g hn hst
theorem pi_listK (K : PySem.W.Frag) (h : X.K = K) {tg e : Expr} {te : TE} (he : PE X e te) : PI X tg e (iList K te) := by subst h; exact pi_list he
theorem pi_tupK (K : PySem.W.Frag) (h : X.K = K) {tg e : Expr} {te : TE} (he : PE X e te) : PI X tg e (iTup K te) := by subst h; exact pi_tup he
theorem pe_revLK (K : PySem.W.Frag) (h : X.K = K) {e : Expr} {te : TE} {k : Nat} {p1 p2 p3 pos : Pos} (he : PE X e te) : PE X (.Subscript e (.Slice none none (some (.UnaryOp .USub (.Constant (.int 1) k p1) p2)) p3) pos) (tRevL K te) := by subst h; exact pe_revL he
theorem pe_bmK (K : PySem.W.Frag) (h : X.K = K) {o e : Expr} {es : List Expr} {to : TE} {t : TA} {name : Str} {apos cpos : Pos} {T id : String} {r : V → List V → Hp → VK → Prop}
    (pa : PlainAttrs T) (slot : Slot T name id) (hty : typeOf (.builtin id) = pure (.type "method_descriptor")) (hm : MtR X id r) (ho : PE X o to) (ha : PA X (e :: es) t)
    (n1 : attributeBase o name X.env (eval o X.env) = eval o X.env := by rfl)
    (n2 : ((backTo cpos (starEach (e :: es) X.env)).all (fun x => !x.1) && (backToKw cpos (keywordEach [] X.env)).all (fun x => x.1.isSome) && decide ((e :: es).length + ([] : List Keyword).length + (if ([] : List Keyword).isEmpty then 0 else 1) < 30)) = true := by rfl)
    (n3 : (apos.endLine == cpos.line) = true := by rfl) (n4 : starEach (e :: es) X.env = (false, eval e X.env) :: starEach es X.env := by rfl) (n5 : (backTo cpos (starEach es X.env)).any (·.1) = false := by rfl) :
    PE X (.Call (.Attribute o name apos) (e :: es) [] cpos) (tBM K T r to t) := by subst h; exact pe_bm pa slot hty hm ho ha n1 n2 n3 n4 n5
theorem pe_bm0K (K : PySem.W.Frag) (h : X.K = K) {o : Expr} {to : TE} {name : Str} {apos cpos : Pos} {T id : String} {r : V → List V → Hp → VK → Prop}
    (pa : PlainAttrs T) (slot : Slot T name id) (hty : typeOf (.builtin id) = pure (.type "method_descriptor")) (hm : MtR X id r) (ho : PE X o to)
    (n1 : attributeBase o name X.env (eval o X.env) = eval o X.env := by rfl) (n3 : (apos.endLine == cpos.line) = true := by rfl) : PE X (.Call (.Attribute o name apos) [] [] cpos) (tBM0 K T r to) := by subst h; exact pe_bm0 pa slot hty hm ho n1 n3
theorem op_catAK (K : PySem.W.Frag) (h : X.K = K) : OpR X (binaryOp .Add) (rCatA K) := by subst h; exact op_catA
theorem call_isiTK (K : PySem.W.Frag) (h : X.K = K) : CallR X (.builtin "isinstance") (rIsiT K) := by subst h; exact call_isiT
theorem pi_zipAK (K : PySem.W.Frag) (h : X.K = K) {e e2 : Expr} {ta : TA} {p pos tpos : Pos} {elts : List Expr} {kk : Nat} (hg : Gl X "zip") (hm : X.mg "zip" = none) (ha : PA X [e, e2] ta)
    (hs : starEach [e, e2] X.env = (false, eval e X.env) :: starEach [e2] X.env := by rfl) (hpl : (backTo pos (starEach [e2] X.env)).any (·.1) = false := by rfl) :
    PI X (.Tuple elts kk tpos) (.Call (.Name "zip" p) [e, e2] [] pos) (RZ.iZipA K ta) := by subst h; exact RZ.pi_zipA hg hm ha hs hpl
theorem pi_or {tg e : Expr} {t1 t2 : TI} (h1 : PI X tg e t1) (h2 : PI X tg e t2) : PI X tg e (fun σ H R => t1 σ H R ∨ t2 σ H R) := ⟨fun pins s σ H R I h => h.elim (h1.run pins s σ H R I) (h2.run pins s σ H R I)⟩
end
section
variable {X : Cx}
theorem cr_sumK (K : PySem.W.Frag) (h : X.K = K) (hc : X.calm = true) : CallR X (.builtin "sum") (rSum K) := by subst h; exact cr_sum hc
end
section
variable {X : Cx}
theorem op_ltTK (K : PySem.W.Frag) (h : X.K = K) (hu : X.A.units < cLine) : OpR X (compareOp .Lt) (rLtT K) := by subst h; exact op_ltT hu
end
section
variable {X : Cx}
theorem cr_sortedRevK (K : PySem.W.Frag) (h : X.K = K) {b : Bool} : CallRK X (.builtin "sorted") [Str.ofString "reverse"] (rSortedKw K b [.bl b]) := by subst h; exact cr_sortedRev
theorem op_inDK (K : PySem.W.Frag) (h : X.K = K) (hu : X.A.units + 65 < cLine) : OpR X (compareOp .In) (rInD K) := by subst h; exact op_inD hu
end
theorem hu65 {A : Around} {k : Nat} (hr : Room k A) : A.units + 65 < cLine := by have := hr.un; omega
section
variable {X : Cx}
/-- x not in t, t a tuple of data of any depth -/
def rNotInDT (K : PySem.W.Frag) : R2 := fun x y H Q => ∃ d ds, Dp K H x d ∧ Dp K H y (.tuple ds) ∧ SeqAt.shaped d = true ∧ SeqAt.shaped (.tuple ds) = true ∧ Q (.bl (!ds.any fun z => PyData.eqv z d)) H
theorem op_notInDTK (K : PySem.W.Frag) (same : X.K = K) (room : X.A.units + 65 < cLine) : OpR X (compareOp .NotIn) (rNotInDT K) := by
  subst same
  intro pins st σ H one many ov mv Q J ro rm asked
  have ⟨d, ds, dpO, dpM, shO, shM, done⟩ := asked
  have ⟨_, readO⟩ := Dp.reads J d one ov dpO ro
  have ⟨_, readM⟩ := Dp.reads J (.tuple ds) many mv dpM rm
  exact SeqAt.notIn_tuple_reads readM readO (SeqAt.canLay_of_shaped shM) (SeqAt.canLay_of_shaped shO) (room_in_shaped shO room) ⟨.bl _, H, J, rfl, done⟩
end
/-! ### for x, y in zip(t, l), t a tuple, l a list -/
def IzTL (K : PySem.W.Frag) (a b : Addr) (xs ys : List V) : It :=
  ⟨fun i H => SqT K H a xs ∧ SqL K H b ys ∧ i < xs.length ∧ i < ys.length, fun i H v H' => ∃ T x y, v = .ref T ∧ H T = none ∧ H' = upd H T (.tup [x, y]) ∧ xs[i]? = some x ∧ ys[i]? = some y, fun i H => SqT K H a xs ∧ SqL K H b ys ∧ i ≤ xs.length ∧ i ≤ ys.length ∧ (i = xs.length ∨ i = ys.length)⟩
theorem turn_zipTL {P : Program} {w : World} {K : PySem.W.Frag} {elts : List Expr} {kk : Nat} {tpos : Pos} {a b z TI TO i1 i2 : Addr} (S : ZipSep2 z TI TO i1 i2 [i1, a] [i2, b]) (na : a ≠ i1) (nb : b ≠ i2) (xs ys : List V) :
    Turn P w K (.Tuple elts kk tpos) (IzTL K a b xs ys) [z, TI, TO, i1, i2] z (fun i h => IsZip h z TI TO .none ∧ IsTupOf2 h TI (.ref i1) (.ref i2) ∧ (∃ x y, IsTupOf2 h TO x y) ∧ h.IsTupleIter i1 a i ∧ h.IsListIter i2 b i) where
  mem := by simp
  obj := fun i h stt c hc => by
    obtain ⟨hz, hI, ⟨x, y, hO⟩, ⟨o1, e1, _, d1⟩, ⟨o2, e2, _, d2⟩⟩ := stt
    have any : c = z ∨ c = TI ∨ c = TO ∨ c = i1 ∨ c = i2 := by simpa using hc
    rcases any with q | q | q | q | q <;> subst q
    · exact ⟨_, hz, fun v q => nomatch q⟩
    · exact ⟨_, hI, fun v q => nomatch q⟩
    · exact ⟨_, hO, fun v q => nomatch q⟩
    · exact ⟨o1, e1, fun v q => by rw [d1] at q; cases q⟩
    · exact ⟨o2, e2, fun v q => by rw [d2] at q; cases q⟩
  keep := fun i h h' stt k => by
    obtain ⟨hz, hI, ⟨x, y, hO⟩, k1, k2⟩ := stt
    exact ⟨k z (by simp) _ hz, k TI (by simp) _ hI, ⟨x, y, k TO (by simp) _ hO⟩, k1.at fun o q => k i1 (by simp) o q, k2.at fun o q => k i2 (by simp) o q⟩
  item := by
    intro X hP hw hK hc i pins st σ H E J hf stt going
    subst hP hw hK
    obtain ⟨hz, hI, ⟨x0, y0, hO⟩, k1, k2⟩ := stt
    obtain ⟨hq1, hq2, l1, l2⟩ := going
    obtain ⟨its, rv, tup, _⟩ := J.tuple hq1
    obtain ⟨its2, rv2, lst, _⟩ := J.list hq2
    have len1 := rv.length
    have len2 := rv2.length
    have zl : z < st.heap.objs.size := Heap.lt_size hz
    have D1 := Draws.tuple (prog := X.prog) (w := X.w) (A := X.A.in1) (J.ok.hd hc) i1 a na its.toArray
    have D2 := Draws.list (prog := X.prog) (w := X.w) (A := X.A.in1) (J.ok.hd hc) i2 b nb its2.toArray
    refine wpAny_pyNext_zipD2_item S D1 D2 hz hI hO ⟨k1, tup⟩ ⟨k2, lst.isList⟩ (by rw [List.size_toArray]; omega) (by rw [List.size_toArray]; omega) fun u1 u2 h' tk p1 p2 out hO' s1 s2 new size kp => ?_
    refine ⟨_, rfl, wpAny_letOwnedTupleGo_zip (s := { st with heap := h', toks := tk }) out fun h'' out' sb => ?_⟩
    obtain ⟨x, hx⟩ : ∃ x, xs[i]? = some x := ⟨_, List.getElem?_eq_getElem l1⟩
    obtain ⟨y, hy⟩ : ∃ y, ys[i]? = some y := ⟨_, List.getElem?_eq_getElem l2⟩
    obtain ⟨w1, hw1, r1⟩ := rv.get hx
    obtain ⟨w2, hw2, r2⟩ := rv2.get hy
    have e1 : w1 = u1 := by
      have p1 : its.toArray[i]? = some u1 := p1
      rw [List.getElem?_toArray, hw1] at p1
      exact Option.some.inj p1
    have e2 : w2 = u2 := by
      have p2 : its2.toArray[i]? = some u2 := p2
      rw [List.getElem?_toArray, hw2] at p2
      exact Option.some.inj p2
    subst e1 e2
    have there : h''.get? st.heap.objs.size = some { cls := .type "tuple", data := .seq #[w1, w2] } := (sb.2 _ (Nat.ne_of_gt zl)).trans new
    have good : ObjOk X.prog X.w (upd H st.heap.objs.size (.tup [x, y])) h'' st.heap.objs.size (.tup [x, y]) :=
      ⟨by show 2 ≤ sizeLine; decide, [w1, w2], .cons r1 (.cons r2 .nil), ⟨_, there, rfl, _, rfl⟩⟩
    have J1 : Inv X pins σ (upd H st.heap.objs.size (.tup [x, y])) { st with heap := h'', toks := tk } :=
      J.turnedNew (ch := [z, TI, TO, i1, i2]) (fun c o hb q => (sb.2 c (fun q' => hb (by simp [q']))).trans (kp c o (fun q' => hb (by simp [q'])) (fun q' => hb (by simp [q'])) (fun q' => hb (by simp [q'])) (fun q' => hb (by simp [q'])) q)) hf (Nat.le_refl _) good
    have i1z : i1 ≠ z := fun q => S.zf1 (by simp [q])
    have i2z : i2 ≠ z := fun q => S.zf2 (by simp [q])
    refine ⟨.ref st.heap.objs.size, _, J1, rfl, ⟨_, x, y, rfl, J.hok.fresh (Nat.le_refl _), rfl, hx, hy⟩, ⟨out', ?_, ⟨w1, w2, ?_⟩, ?_, ?_⟩, fun c hcm => ?_⟩
    · exact (sb.2 _ S.TIz).trans (kp _ _ S.TIz S.TITO S.TIi1 S.TIi2 hI)
    · exact (sb.2 _ S.TOz).trans hO'
    · exact s1.1.at fun o q => (sb.2 _ i1z).trans q
    · exact s2.1.at fun o q => (sb.2 _ i2z).trans q
    · have low : c < st.heap.objs.size := by
        have any : c = z ∨ c = TI ∨ c = TO ∨ c = i1 ∨ c = i2 := by simpa using hcm
        rcases any with q | q | q | q | q
        · rw [q]; exact zl
        · rw [q]; exact Heap.lt_size hI
        · rw [q]; exact Heap.lt_size hO
        · rw [q]; obtain ⟨_, q1, _⟩ := k1; exact Heap.lt_size q1
        · rw [q]; obtain ⟨_, q2, _⟩ := k2; exact Heap.lt_size q2
      rw [upd_ne (Nat.ne_of_lt low)]
      exact (hf c hcm).1
  done := by
    intro X hP hw hK hc i pins st σ H E J hf stt over
    subst hP hw hK
    obtain ⟨hz, hI, ⟨x0, y0, hO⟩, k1, k2⟩ := stt
    obtain ⟨hq1, hq2, l1, l2, fin⟩ := over
    obtain ⟨its, rv, tup, _⟩ := J.tuple hq1
    obtain ⟨its2, rv2, lst, _⟩ := J.list hq2
    have len1 := rv.length
    have len2 := rv2.length
    have D1 := Draws.tuple (prog := X.prog) (w := X.w) (A := X.A.in1) (J.ok.hd hc) i1 a na its.toArray
    have D2 := Draws.list (prog := X.prog) (w := X.w) (A := X.A.in1) (J.ok.hd hc) i2 b nb its2.toArray
    refine wpAny_pyNext_zipD2_end S D1 D2 hz hI hO ⟨k1, tup⟩ ⟨k2, lst.isList⟩ (by rw [List.size_toArray]; omega) (by rw [List.size_toArray]; omega) (by rw [List.size_toArray, List.size_toArray]; omega) fun h' tk kp => ⟨rfl, ?_⟩
    exact J.turnedL (t' := tk) (ch := [z, TI, TO, i1, i2]) (fun c o hb q => kp c o (fun q' => hb (by simp [q'])) (fun q' => hb (by simp [q'])) (fun q' => hb (by simp [q'])) (fun q' => hb (by simp [q'])) q) hf
  self := fun A i st Q E stt now => wpAny_pyIter_zip stt.1 now
def iZipTL (K : PySem.W.Frag) (ta : TA) : TI := fun σ H R => ta σ H fun vs H1 => ∃ a b xs ys, vs = [.ref a, .ref b] ∧ SqT K H1 a xs ∧ SqL K H1 b ys ∧ R (IzTL K a b xs ys) H1
theorem pi_zipTL (K : PySem.W.Frag) {X : Cx} (hk : X.K = K) {e e2 : Expr} {ta : TA} {p pos tpos : Pos} {elts : List Expr} {kk : Nat} (hg : Gl X "zip") (hm : X.mg "zip" = none) (ha : PA X [e, e2] ta)
    (hs : starEach [e, e2] X.env = (false, eval e X.env) :: starEach [e2] X.env := by rfl) (hpl : (backTo pos (starEach [e2] X.env)).any (·.1) = false := by rfl) : PI X (.Tuple elts kk tpos) (.Call (.Name "zip" p) [e, e2] [] pos) (iZipTL K ta) := by
  subst hk
  refine ⟨fun pins st σ H R J asked => ?_⟩
  refine Call_ (ld_blt J hg hm PyProof.Rows.boot_zip (PyProof.Rows.callWith_type1 (thn (ha.run pos pins st σ H _ J asked) fun us st1 ⟨vs, H1, J1, rel, now⟩ => ?_) hs hpl))
  obtain ⟨a, b, xs, ys, ex, hq1, hq2, now⟩ := now
  subst ex
  obtain ⟨u1, u2, rfl, r1, r2⟩ := vals2 rel
  obtain rfl : u1 = Value.ref a := r1
  obtain rfl : u2 = Value.ref b := r2
  obtain ⟨its, rv, tup, _⟩ := J1.tuple hq1
  obtain ⟨its2, rv2, lst, _⟩ := J1.list hq2
  have al : a < st1.heap.objs.size := by obtain ⟨o, ho, _⟩ := id tup; exact Heap.lt_size ho
  have bl : b < st1.heap.objs.size := by obtain ⟨o, ho, _⟩ := id lst.isList; exact Heap.lt_size ho
  refine zip_begins2 (begins_tuple a its.toArray) (begins_list b its2.toArray) tup lst.isList fun h' hz hI hO g1 g2 size kp => wpAny_pyIter_zip hz ?_
  have J2 : Inv X pins σ H1 { st1 with heap := h' } := J1.kept (t' := st1.toks) kp
  generalize hn : st1.heap.objs.size = n at *
  have S : ZipSep2 (n + 4) (n + 2) (n + 3) n (n + 1) [n, a] [n + 1, b] :=
    zip_sep2 (fun c hc => by rw [List.mem_singleton.mp hc]; exact al) (fun c hc => by rw [List.mem_singleton.mp hc]; exact bl)
  refine ⟨n + 4, [n + 4, n + 2, n + 3, n, n + 1], _, _, H1, rfl, J2, turn_zipTL S (Nat.ne_of_lt al) (Nat.ne_of_lt (Nat.lt_succ_of_lt bl)) xs ys, ⟨hz, hI, ⟨_, _, hO⟩, ⟨_, g1, rfl, rfl⟩, ⟨_, g2, rfl, rfl⟩⟩, fun c hcm => ?_, now⟩
  have low : n ≤ c := by
    have any : c = n + 4 ∨ c = n + 2 ∨ c = n + 3 ∨ c = n ∨ c = n + 1 := by simpa using hcm
    rcases any with q | q | q | q | q <;> rw [q]
    · exact Nat.le_add_right ..
    · exact Nat.le_add_right ..
    · exact Nat.le_add_right ..
    · exact Nat.le_refl _
    · exact Nat.le_add_right ..
  rw [← hn] at low
  exact J1.fpOk low (J1.hok.fresh low)
/-! ### for x, y in zip(l, t), l a list, t a tuple -/
def IzLT (K : PySem.W.Frag) (a b : Addr) (xs ys : List V) : It :=
  ⟨fun i H => SqL K H a xs ∧ SqT K H b ys ∧ i < xs.length ∧ i < ys.length, fun i H v H' => ∃ T x y, v = .ref T ∧ H T = none ∧ H' = upd H T (.tup [x, y]) ∧ xs[i]? = some x ∧ ys[i]? = some y, fun i H => SqL K H a xs ∧ SqT K H b ys ∧ i ≤ xs.length ∧ i ≤ ys.length ∧ (i = xs.length ∨ i = ys.length)⟩
theorem turn_zipLT {P : Program} {w : World} {K : PySem.W.Frag} {elts : List Expr} {kk : Nat} {tpos : Pos} {a b z TI TO i1 i2 : Addr} (S : ZipSep2 z TI TO i1 i2 [i1, a] [i2, b]) (na : a ≠ i1) (nb : b ≠ i2) (xs ys : List V) :
    Turn P w K (.Tuple elts kk tpos) (IzLT K a b xs ys) [z, TI, TO, i1, i2] z (fun i h => IsZip h z TI TO .none ∧ IsTupOf2 h TI (.ref i1) (.ref i2) ∧ (∃ x y, IsTupOf2 h TO x y) ∧ h.IsListIter i1 a i ∧ h.IsTupleIter i2 b i) where
  mem := by simp
  obj := fun i h stt c hc => by
    obtain ⟨hz, hI, ⟨x, y, hO⟩, ⟨o1, e1, _, d1⟩, ⟨o2, e2, _, d2⟩⟩ := stt
    have any : c = z ∨ c = TI ∨ c = TO ∨ c = i1 ∨ c = i2 := by simpa using hc
    rcases any with q | q | q | q | q <;> subst q
    · exact ⟨_, hz, fun v q => nomatch q⟩
    · exact ⟨_, hI, fun v q => nomatch q⟩
    · exact ⟨_, hO, fun v q => nomatch q⟩
    · exact ⟨o1, e1, fun v q => by rw [d1] at q; cases q⟩
    · exact ⟨o2, e2, fun v q => by rw [d2] at q; cases q⟩
  keep := fun i h h' stt k => by
    obtain ⟨hz, hI, ⟨x, y, hO⟩, k1, k2⟩ := stt
    exact ⟨k z (by simp) _ hz, k TI (by simp) _ hI, ⟨x, y, k TO (by simp) _ hO⟩, k1.at fun o q => k i1 (by simp) o q, k2.at fun o q => k i2 (by simp) o q⟩
  item := by
    intro X hP hw hK hc i pins st σ H E J hf stt going
    subst hP hw hK
    obtain ⟨hz, hI, ⟨x0, y0, hO⟩, k1, k2⟩ := stt
    obtain ⟨hq1, hq2, l1, l2⟩ := going
    obtain ⟨its, rv, lst, _⟩ := J.list hq1
    obtain ⟨its2, rv2, tup, _⟩ := J.tuple hq2
    have len1 := rv.length
    have len2 := rv2.length
    have zl : z < st.heap.objs.size := Heap.lt_size hz
    have D1 := Draws.list (prog := X.prog) (w := X.w) (A := X.A.in1) (J.ok.hd hc) i1 a na its.toArray
    have D2 := Draws.tuple (prog := X.prog) (w := X.w) (A := X.A.in1) (J.ok.hd hc) i2 b nb its2.toArray
    refine wpAny_pyNext_zipD2_item S D1 D2 hz hI hO ⟨k1, lst.isList⟩ ⟨k2, tup⟩ (by rw [List.size_toArray]; omega) (by rw [List.size_toArray]; omega) fun u1 u2 h' tk p1 p2 out hO' s1 s2 new size kp => ?_
    refine ⟨_, rfl, wpAny_letOwnedTupleGo_zip (s := { st with heap := h', toks := tk }) out fun h'' out' sb => ?_⟩
    obtain ⟨x, hx⟩ : ∃ x, xs[i]? = some x := ⟨_, List.getElem?_eq_getElem l1⟩
    obtain ⟨y, hy⟩ : ∃ y, ys[i]? = some y := ⟨_, List.getElem?_eq_getElem l2⟩
    obtain ⟨w1, hw1, r1⟩ := rv.get hx
    obtain ⟨w2, hw2, r2⟩ := rv2.get hy
    have e1 : w1 = u1 := by
      have p1 : its.toArray[i]? = some u1 := p1
      rw [List.getElem?_toArray, hw1] at p1
      exact Option.some.inj p1
    have e2 : w2 = u2 := by
      have p2 : its2.toArray[i]? = some u2 := p2
      rw [List.getElem?_toArray, hw2] at p2
      exact Option.some.inj p2
    subst e1 e2
    have there : h''.get? st.heap.objs.size = some { cls := .type "tuple", data := .seq #[w1, w2] } := (sb.2 _ (Nat.ne_of_gt zl)).trans new
    have good : ObjOk X.prog X.w (upd H st.heap.objs.size (.tup [x, y])) h'' st.heap.objs.size (.tup [x, y]) :=
      ⟨by show 2 ≤ sizeLine; decide, [w1, w2], .cons r1 (.cons r2 .nil), ⟨_, there, rfl, _, rfl⟩⟩
    have J1 : Inv X pins σ (upd H st.heap.objs.size (.tup [x, y])) { st with heap := h'', toks := tk } :=
      J.turnedNew (ch := [z, TI, TO, i1, i2]) (fun c o hb q => (sb.2 c (fun q' => hb (by simp [q']))).trans (kp c o (fun q' => hb (by simp [q'])) (fun q' => hb (by simp [q'])) (fun q' => hb (by simp [q'])) (fun q' => hb (by simp [q'])) q)) hf (Nat.le_refl _) good
    have i1z : i1 ≠ z := fun q => S.zf1 (by simp [q])
    have i2z : i2 ≠ z := fun q => S.zf2 (by simp [q])
    refine ⟨.ref st.heap.objs.size, _, J1, rfl, ⟨_, x, y, rfl, J.hok.fresh (Nat.le_refl _), rfl, hx, hy⟩, ⟨out', ?_, ⟨w1, w2, ?_⟩, ?_, ?_⟩, fun c hcm => ?_⟩
    · exact (sb.2 _ S.TIz).trans (kp _ _ S.TIz S.TITO S.TIi1 S.TIi2 hI)
    · exact (sb.2 _ S.TOz).trans hO'
    · exact s1.1.at fun o q => (sb.2 _ i1z).trans q
    · exact s2.1.at fun o q => (sb.2 _ i2z).trans q
    · have low : c < st.heap.objs.size := by
        have any : c = z ∨ c = TI ∨ c = TO ∨ c = i1 ∨ c = i2 := by simpa using hcm
        rcases any with q | q | q | q | q
        · rw [q]; exact zl
        · rw [q]; exact Heap.lt_size hI
        · rw [q]; exact Heap.lt_size hO
        · rw [q]; obtain ⟨_, q1, _⟩ := k1; exact Heap.lt_size q1
        · rw [q]; obtain ⟨_, q2, _⟩ := k2; exact Heap.lt_size q2
      rw [upd_ne (Nat.ne_of_lt low)]
      exact (hf c hcm).1
  done := by
    intro X hP hw hK hc i pins st σ H E J hf stt over
    subst hP hw hK
    obtain ⟨hz, hI, ⟨x0, y0, hO⟩, k1, k2⟩ := stt
    obtain ⟨hq1, hq2, l1, l2, fin⟩ := over
    obtain ⟨its, rv, lst, _⟩ := J.list hq1
    obtain ⟨its2, rv2, tup, _⟩ := J.tuple hq2
    have len1 := rv.length
    have len2 := rv2.length
    have D1 := Draws.list (prog := X.prog) (w := X.w) (A := X.A.in1) (J.ok.hd hc) i1 a na its.toArray
    have D2 := Draws.tuple (prog := X.prog) (w := X.w) (A := X.A.in1) (J.ok.hd hc) i2 b nb its2.toArray
    refine wpAny_pyNext_zipD2_end S D1 D2 hz hI hO ⟨k1, lst.isList⟩ ⟨k2, tup⟩ (by rw [List.size_toArray]; omega) (by rw [List.size_toArray]; omega) (by rw [List.size_toArray, List.size_toArray]; omega) fun h' tk kp => ⟨rfl, ?_⟩
    exact J.turnedL (t' := tk) (ch := [z, TI, TO, i1, i2]) (fun c o hb q => kp c o (fun q' => hb (by simp [q'])) (fun q' => hb (by simp [q'])) (fun q' => hb (by simp [q'])) (fun q' => hb (by simp [q'])) q) hf
  self := fun A i st Q E stt now => wpAny_pyIter_zip stt.1 now
def iZipLT (K : PySem.W.Frag) (ta : TA) : TI := fun σ H R => ta σ H fun vs H1 => ∃ a b xs ys, vs = [.ref a, .ref b] ∧ SqL K H1 a xs ∧ SqT K H1 b ys ∧ R (IzLT K a b xs ys) H1
theorem pi_zipLT (K : PySem.W.Frag) {X : Cx} (hk : X.K = K) {e e2 : Expr} {ta : TA} {p pos tpos : Pos} {elts : List Expr} {kk : Nat} (hg : Gl X "zip") (hm : X.mg "zip" = none) (ha : PA X [e, e2] ta)
    (hs : starEach [e, e2] X.env = (false, eval e X.env) :: starEach [e2] X.env := by rfl) (hpl : (backTo pos (starEach [e2] X.env)).any (·.1) = false := by rfl) : PI X (.Tuple elts kk tpos) (.Call (.Name "zip" p) [e, e2] [] pos) (iZipLT K ta) := by
  subst hk
  refine ⟨fun pins st σ H R J asked => ?_⟩
  refine Call_ (ld_blt J hg hm PyProof.Rows.boot_zip (PyProof.Rows.callWith_type1 (thn (ha.run pos pins st σ H _ J asked) fun us st1 ⟨vs, H1, J1, rel, now⟩ => ?_) hs hpl))
  obtain ⟨a, b, xs, ys, ex, hq1, hq2, now⟩ := now
  subst ex
  obtain ⟨u1, u2, rfl, r1, r2⟩ := vals2 rel
  obtain rfl : u1 = Value.ref a := r1
  obtain rfl : u2 = Value.ref b := r2
  obtain ⟨its, rv, lst, _⟩ := J1.list hq1
  obtain ⟨its2, rv2, tup, _⟩ := J1.tuple hq2
  have al : a < st1.heap.objs.size := by obtain ⟨o, ho, _⟩ := id lst.isList; exact Heap.lt_size ho
  have bl : b < st1.heap.objs.size := by obtain ⟨o, ho, _⟩ := id tup; exact Heap.lt_size ho
  refine zip_begins2 (begins_list a its.toArray) (begins_tuple b its2.toArray) lst.isList tup fun h' hz hI hO g1 g2 size kp => wpAny_pyIter_zip hz ?_
  have J2 : Inv X pins σ H1 { st1 with heap := h' } := J1.kept (t' := st1.toks) kp
  generalize hn : st1.heap.objs.size = n at *
  have S : ZipSep2 (n + 4) (n + 2) (n + 3) n (n + 1) [n, a] [n + 1, b] :=
    zip_sep2 (fun c hc => by rw [List.mem_singleton.mp hc]; exact al) (fun c hc => by rw [List.mem_singleton.mp hc]; exact bl)
  refine ⟨n + 4, [n + 4, n + 2, n + 3, n, n + 1], _, _, H1, rfl, J2, turn_zipLT S (Nat.ne_of_lt al) (Nat.ne_of_lt (Nat.lt_succ_of_lt bl)) xs ys, ⟨hz, hI, ⟨_, _, hO⟩, ⟨_, g1, rfl, rfl⟩, ⟨_, g2, rfl, rfl⟩⟩, fun c hcm => ?_, now⟩
  have low : n ≤ c := by
    have any : c = n + 4 ∨ c = n + 2 ∨ c = n + 3 ∨ c = n ∨ c = n + 1 := by simpa using hcm
    rcases any with q | q | q | q | q <;> rw [q]
    · exact Nat.le_add_right ..
    · exact Nat.le_add_right ..
    · exact Nat.le_add_right ..
    · exact Nat.le_refl _
    · exact Nat.le_add_right ..
  rw [← hn] at low
  exact J1.fpOk low (J1.hok.fresh low)
/-! ### for i, x in enumerate(t), t a tuple -/
section
open Sem (wp)
open AutoSeq1 (wpAny_loadPart')
theorem enum_of_tup (t : Addr) (its : Array Value) (n : Nat) (dct : Option Addr) (sl : Array (Option Value)) :
    Meets (Builtin.«enumerate.__new__» ⟨[.type "enumerate", .ref t], []⟩) (fun _ R st => st.heap.get? t = some { cls := .type "tuple", dict := dct, data := .seq its n, slots := sl } ∧
      R (.ok (.ret (.ref (st.heap.push { cls := .type "tuple_iterator", data := .fields #[.ref t, .int 0 0] }).objs.size)))
        { st with heap := (st.heap.push { cls := .type "tuple_iterator", data := .fields #[.ref t, .int 0 0] }).push { cls := .type "enumerate", data := .fields #[.none, .bool false, .ref st.heap.objs.size, rawInt 0, .none, .none] } }) :=
  .of_wp fun prog w A R st asked => by
    obtain ⟨hp, g, d, tk, os⟩ := st; obtain ⟨at_, asked⟩ := asked
    have sub := sub_enumerate
    have hT : Heap.IsTuple (Shared.heap ⟨hp, g, d, tk, os⟩) t its := ⟨_, at_, rfl, n, rfl⟩
    wp_walk using wpAny_loadPart' at_
    refine wpAny_stack_any fun stk => wpAny_pure ?_
    split
    · rename_i c _ _ _ _ _
      cases (c == Value.type "enumerate")
      · wp_walk using wpAny_loadPart' at_, wpAny_pyIter_tuple hT
        exact ⟨_, rfl, asked⟩
      · wp_walk using wpAny_loadPart' at_, wpAny_pyIter_tuple hT
        exact ⟨_, rfl, asked⟩
    · wp_walk using wpAny_loadPart' at_, wpAny_pyIter_tuple hT
      exact ⟨_, rfl, asked⟩
theorem call_enum_tup {prog : Program} {w : World} {A : Around} {E : Value → Shared → Prop} {st : Shared} {t : Addr} {its : Array Value} {Q : Value → Shared → Prop} (hT : st.heap.IsTuple t its)
    (now : ∀ h', IsEnum h' (st.heap.objs.size + 1) st.heap.objs.size 0 .none → h'.IsTupleIter st.heap.objs.size t 0 → h'.objs.size = st.heap.objs.size + 2 →
      (∀ b o, st.heap.get? b = some o → h'.get? b = some o) → Q (.ref (st.heap.objs.size + 1)) { st with heap := h' }) :
    wpAny (model prog w) A (call (.type "enumerate") [.ref t]) Q E st := by
  obtain ⟨⟨c, dct, dt, sl⟩, at_, hc, n, hd⟩ := hT
  replace hc : c = .type "tuple" := hc
  replace hd : dt = .seq its n := hd
  subst hc hd
  refine callType_new F.called_enumerate (by decide) (F.typeCall_enumerate_1 _) (F.newCall_enumerate_1 _) (fun obj => F.args_object_init_2 obj _) F.entry_enumerate_new (enum_of_tup t its n dct sl) ⟨at_, ?_⟩
  have size1 : (st.heap.push { cls := .type "tuple_iterator", data := .fields #[.ref t, .int 0 0] }).objs.size = st.heap.objs.size + 1 := Heap.size_push ..
  show _ ∧ _
  rw [size1]
  have made := Heap.get?_push_size (st.heap.push { cls := .type "tuple_iterator", data := .fields #[.ref t, .int 0 0] }) (o := { cls := .type "enumerate", data := .fields #[.none, .bool false, .ref st.heap.objs.size, rawInt 0, .none, .none] }) rfl
  rw [size1] at made
  exact ⟨⟨_, made, rfl⟩, now _ made ⟨_, Heap.get?_push_of_some _ (Heap.get?_push_size _ rfl), rfl, rfl⟩ (by rw [Heap.size_push, size1]) fun b o e => Heap.get?_push_of_some _ (Heap.get?_push_of_some _ e)⟩
end
/-- the tuple at a, each item in a new pair -/
def IteT (K : PySem.W.Frag) (a : Addr) (xs : List V) : It :=
  ⟨fun i H => SqT K H a xs ∧ i < xs.length, fun i H v H' => ∃ T x, v = .ref T ∧ H T = none ∧ H' = upd H T (.tup [.int (i : Nat), x]) ∧ xs[i]? = some x, fun i H => SqT K H a xs ∧ i = xs.length⟩
theorem turn_enumT {P : Program} {w : World} {K : PySem.W.Frag} {elts : List Expr} {kk : Nat} {tpos : Pos} (a e it : Addr) (xs : List V) :
    Turn P w K (.Tuple elts kk tpos) (IteT K a xs) [e, it] e (fun i h => (∃ old, IsEnum h e it ((i : Nat) : Int) old) ∧ h.IsTupleIter it a i ∧ e ≠ it ∧ a ≠ it ∧ a ≠ e) where
  mem := by simp
  obj := fun i h st b hb => by
    obtain ⟨⟨old, he⟩, ⟨o, ho, hc, hd⟩, _⟩ := st
    have either : b = e ∨ b = it := by simpa using hb
    rcases either with z | z
    · rw [z]; exact ⟨_, he, fun v q => nomatch q⟩
    · rw [z]; exact ⟨o, ho, fun v q => by rw [hd] at q; cases q⟩
  keep := fun i h h' st k => let ⟨⟨old, he⟩, hi, apart⟩ := st; ⟨⟨old, k e (by simp) _ he⟩, hi.at fun o q => k it (by simp) o q, apart⟩
  item := by
    intro X hP hw hK hc i pins st σ H E J hf stt going
    subst hP hw hK
    obtain ⟨⟨old, he⟩, hit, n1, n2, n3⟩ := stt
    obtain ⟨hq, hi⟩ := going
    obtain ⟨its, rv, tup, hz⟩ := J.tuple hq
    have len := rv.length
    have el : e < st.heap.objs.size := Heap.lt_size he
    have il : it < st.heap.objs.size := by obtain ⟨_, q, _⟩ := hit; exact Heap.lt_size q
    have D := Draws.tuple (prog := X.prog) (w := X.w) (A := X.A.in1) (J.ok.hd hc) it a n2 its.toArray
    refine wpAny_pyNext_enum_itemD D he ⟨hit, tup⟩ (by rw [List.size_toArray]; omega) n1 (by simp [n1, n3.symm]) fun u h' tk px out stt' new size kp => ?_
    refine ⟨_, rfl, wpAny_letOwnedTupleGo_enum (s := { st with heap := h', toks := tk + 1 }) out fun h'' he' sb => ?_⟩
    obtain ⟨x, hx⟩ : ∃ x, xs[i]? = some x := ⟨_, List.getElem?_eq_getElem hi⟩
    obtain ⟨u', hu', ru⟩ := rv.get hx
    have eu : u' = u := by
      have px : its.toArray[i]? = some u := px
      rw [List.getElem?_toArray, hu'] at px
      exact Option.some.inj px
    subst eu
    have there : h''.get? st.heap.objs.size = some { cls := .type "tuple", data := .seq #[.int i tk, u'] } := (sb.2 _ (Nat.ne_of_gt el)).trans new
    have ok2 : ObjOk X.prog X.w (upd H st.heap.objs.size (.tup [.int (i : Nat), x])) h'' st.heap.objs.size (.tup [.int (i : Nat), x]) :=
      ⟨by show 2 ≤ sizeLine; decide, [.int i tk, u'], .cons ⟨_, rfl⟩ (.cons ru .nil), ⟨_, there, rfl, _, rfl⟩⟩
    have J1 : Inv X pins σ (upd H st.heap.objs.size (.tup [.int (i : Nat), x])) { st with heap := h'', toks := tk + 1 } :=
      J.turnedNew (ch := [e, it]) (fun b ob hb q => (sb.2 b (fun z => hb (by simp [z]))).trans (kp b ob (fun z => hb (by simp [z])) (fun z => hb (by simp [z])) q)) hf (Nat.le_refl _) ok2
    refine ⟨.ref st.heap.objs.size, _, J1, rfl, ⟨_, x, rfl, J.hok.fresh (Nat.le_refl _), rfl, hx⟩, ⟨⟨u', ?_⟩, stt'.1.at fun o q => (sb.2 it (Ne.symm n1)).trans q, n1, n2, n3⟩, fun b hb => ?_⟩
    · rw [show ((i + 1 : Nat) : Int) = (i : Int) + 1 by omega]
      exact he'
    · have bl : b < st.heap.objs.size := by
        have either : b = e ∨ b = it := by simpa using hb
        rcases either with z | z
        · rw [z]; exact el
        · rw [z]; exact il
      rw [upd_ne (Nat.ne_of_lt bl)]
      exact (hf b hb).1
  done := by
    intro X hP hw hK hc i pins st σ H E J hf stt over
    subst hP hw hK
    obtain ⟨⟨old, he⟩, hit, n1, n2, n3⟩ := stt
    obtain ⟨hq, hi⟩ := over
    obtain ⟨its, rv, tup, hz⟩ := J.tuple hq
    obtain ⟨f0, f1, f2, f3, f4, f5⟩ := hf it (by simp)
    have len := rv.length
    have D := Draws.tuple (prog := X.prog) (w := X.w) (A := X.A.in1) (J.ok.hd hc) it a n2 its.toArray
    have ei : its.toArray.size = i := by rw [List.size_toArray]; omega
    exact wpAny_pyNext_enum_endD D he ⟨by rw [ei]; exact hit, tup⟩ fun h' eb => ⟨rfl, J.turned (t' := st.toks) (fun b o hb q => eb b o hb q) f0 f1 f3 f4 f5⟩
  self := fun A i st Q E stt now => let ⟨⟨_, he⟩, _⟩ := stt; wpAny_pyIter_enum he now
def iEnumT (K : PySem.W.Frag) (ta : TA) : TI := fun σ H R => ta σ H fun vs H1 => ∃ a xs, vs = [.ref a] ∧ SqT K H1 a xs ∧ R (IteT K a xs) H1
theorem pi_enumT (K : PySem.W.Frag) {X : Cx} (hk : X.K = K) {e : Expr} {ta : TA} {p pos tpos : Pos} {elts : List Expr} {kk : Nat} (hg : Gl X "enumerate") (hm : X.mg "enumerate" = none) (ha : PA X [e] ta) (hs : starEach [e] X.env = [(false, eval e X.env)] := by rfl) :
    PI X (.Tuple elts kk tpos) (.Call (.Name "enumerate" p) [e] [] pos) (iEnumT K ta) := by
  subst hk
  refine ⟨fun pins st σ H R J asked => ?_⟩
  refine Call_ (ld_blt J hg hm boot_enumerate (PyProof.Rows.callWith_type1 (thn (ha.run pos pins st σ H _ J asked) fun us st1 ⟨vs, H1, J1, rel, now⟩ => ?_) hs rfl))
  obtain ⟨a, xs, ex, hq, now⟩ := now
  subst ex
  obtain ⟨u, rfl, ru⟩ := vals1 rel
  obtain rfl : u = Value.ref a := ru
  obtain ⟨its, rv, tup, hz⟩ := J1.tuple hq
  have al : a < st1.heap.objs.size := by obtain ⟨o, ho, _⟩ := tup; exact Heap.lt_size ho
  refine call_enum_tup tup fun h' he hit size kp => wpAny_pyIter_enum he ?_
  have J2 : Inv X pins σ H1 { st1 with heap := h' } := J1.kept (t' := st1.toks) kp
  refine ⟨st1.heap.objs.size + 1, [st1.heap.objs.size + 1, st1.heap.objs.size], _, _, H1, rfl, J2, turn_enumT a (st1.heap.objs.size + 1) st1.heap.objs.size xs, ⟨⟨.none, he⟩, hit, Nat.succ_ne_self _, Nat.ne_of_lt al, Nat.ne_of_lt (Nat.lt_succ_of_lt al)⟩, fun b hb => ?_, now⟩
  have either : b = st1.heap.objs.size + 1 ∨ b = st1.heap.objs.size := by simpa using hb
  have low : st1.heap.objs.size ≤ b := by
    rcases either with z | z
    · rw [z]; exact Nat.le_add_right _ _
    · rw [z]; exact Nat.le_refl _
  exact J1.fpOk low (J1.hok.fresh low)
theorem one_at {K : PySem.W.Frag} {a : Addr} {od : Option Addr} {z : Str} {t1 : Tok} {n : Nat} {sl : Array (Option Value)} (l : K.lookup a = some ⟨.type "tuple", od, .seq #[.str z t1] n, sl⟩) (H : Hp) : SqT K H a [.str z] :=
  .inr ⟨_, _, _, l, rfl, rfl, (show 1 ≤ sizeLine by decide), .cons ⟨_, rfl⟩ .nil⟩
/-! ### how many things a set of equal numbers has -/
theorem firstMet_rep (c : Int) (n : Nat) : ∀ i, i ≤ n → PyProof.Rows.firstMet (fun j => (List.replicate n c).getD j 0) i = List.replicate (min 1 i) c
  | 0, _ => rfl
  | i + 1, h => by
    have e : (List.replicate n c).getD i 0 = c := by
      rw [List.getD_eq_getElem?_getD, List.getElem?_replicate, if_pos (by omega)]
      rfl
    have ih := firstMet_rep c n i (by omega)
    rw [PyProof.Rows.firstMet_succ, ih]
    show PyProof.Rows.step_dedup _ ((List.replicate n c).getD i 0) = _
    rw [e]
    unfold PyProof.Rows.step_dedup
    cases i with
    | zero => rfl
    | succ j =>
      rw [show min 1 (j + 1) = 1 by omega, show min 1 (j + 1 + 1) = 1 by omega]
      simp
theorem ints_of_vals {c : Int} : ∀ {n : Nat} {us : List Value}, Vals (List.replicate n (V.int c)) us → PyProof.Rows.IntsAre us (List.replicate n c)
  | 0, _, .nil => .nil
  | n + 1, _, .cons r t => by
    obtain ⟨k, rfl⟩ := r
    exact .cons c k (ints_of_vals t)
def tLenSetE (K : PySem.W.Frag) (ta : TE) : TE := fun σ H Q => ta σ H fun x H1 => ∃ (l : Addr) (c : Int) (n : Nat), x = .ref l ∧ SqL K H1 l (List.replicate n (V.int c)) ∧ n ≤ 100 ∧ Q (.int ((min 1 n : Nat) : Int)) H1
theorem pe_lenSetE (K : PySem.W.Frag) {X : Cx} (same : X.K = K) {a : Expr} {ta : TE} {p p2 q pos : Pos} (hg : Gl X "len") (hm : X.mg "len" = none) (hg2 : Gl X "set") (hm2 : X.mg "set" = none) (ha : PE X a ta) (hc : X.calm = true := by rfl)
    (na : starEach [a] X.env = (false, eval a X.env) :: starEach [] X.env := by rfl) : PE X (.Call (.Name "len" p) [.Call (.Name "set" p2) [a] [] q] [] pos) (tLenSetE K ta) := by
  subst same
  constructor
  intro pins s σ H Q I h
  refine Call_
    (ld_blt I hg hm boot_len ?_)
  refine PyProof.Rows.callWith_builtin1
    (PyProof.Rows.args_cons ?_ rfl) rfl rfl
  refine Call_
    (ld_blt I hg2 hm2 boot_set ?_)
  refine PyProof.Rows.callWith_type1
    (PyProof.Rows.args_cons (thn (ha.run pins s σ H _ I h) ?_) na) na rfl
  rintro v s1 ⟨x, H1, I1, r1, l, c, n, rfl, hq, hl, q1⟩
  refine PyProof.Rows.args_nil ?_
  cases r1
  have ⟨its, r, pl, _⟩ := I1.list hq
  have big : its.toArray.size = n := by rw [List.size_toArray, ← r.length, List.length_replicate]
  refine call_set_list (ns := List.replicate n c) (I1.ok.hd hc) pl.isList (by simpa using ints_of_vals r) (by unfold scanBound; omega) ?_
  intro h' tk hS hk
  refine PyProof.Rows.args_nil ?_
  rw [big, firstMet_rep c n n (Nat.le_refl n)] at hS
  have ⟨o, es, ep, t, ho, hex, hd, _, _, _, hf, hn⟩ := hS
  have I2 : Inv X pins σ H1 { s1 with heap := h', toks := tk } := I1.kept fun b o e => hk b o (Heap.lt_size e) e
  rw [List.length_replicate] at hn
  refine call_len_set ho hex hd hf (by rw [hn]; omega) ?_
  exact ⟨.int ((min 1 n : Nat) : Int), H1, I2.tok _, ⟨_, by rw [hn]⟩, q1⟩
theorem op_notB {X : Cx} : OpR X (compareOp .IsNot) (fun x y H Q => ∃ a b : Bool, x = .bl a ∧ y = .bl b ∧ Q (.bl (!decide (a = b))) H) := by
  intro pins s σ H x y v u Q I rx ry h
  obtain ⟨a, b, rfl, rfl, q⟩ := h
  obtain rfl : v = Value.bool a := rx
  obtain rfl : u = Value.bool b := ry
  exact wpAny_isNot_plain rfl (fin_bl I q (by cases a <;> cases b <;> rfl))
theorem op_isB {X : Cx} : OpR X (compareOp .Is) (fun x y H Q => ∃ a b : Bool, x = .bl a ∧ y = .bl b ∧ Q (.bl (decide (a = b))) H) := by
  intro pins s σ H x y v u Q I rx ry h
  obtain ⟨a, b, rfl, rfl, q⟩ := h
  obtain rfl : v = Value.bool a := rx
  obtain rfl : u = Value.bool b := ry
  exact wpAny_is_plain rfl (fin_bl I q (by cases a <;> cases b <;> rfl))
section
variable {P : Program} {w : World} {K : PySem.W.Frag} {mg : Str → Option Value} {base : Heap}
def sp_law_flow (K : PySem.W.Frag) : Sp := fun vs H Q _ => ∃ (a : Addr) (ns : List Int), vs = [.ref a] ∧ SqL K H a (ns.map V.int) ∧ ∀ (f c : Addr) (H' : Hp), H f = none → H c = none → Flow H' f c → Same H H' → Q (.ref f) H'
theorem ok_law_flow {f : Addr} {fd : FuncData} (F : Fun K "_law_flow" "_law_flow" s_law_flow f fd) (T : Top K mg) : FnOk P w K mg base CX0 1 f fd ["_law_script"] (sp_law_flow K) := by
  refine F.ok sc_law_flow (fun vs H Q E h => ?_) (fun cdv A outer s H vs Q E hr h => ?_)
  · obtain ⟨a, ns, rfl, _⟩ := h
    rfl
  obtain ⟨a, ns, rfl, hS, q⟩ := h
  refine ⟨_, (pss_one (ps_ret (pe_lst (pa_cons (pe_callTy (call_list_ofK K rfl) (by rfl) T.m_list (by decide +kernel) (pa_cons (pv 0) pa_nil)) (pa_cons pe_int (pa_cons pe_int (pa_cons pe_int (pa_cons pe_int pa_nil)))))))), ?_⟩
  refine ⟨_, rfl, a, _, rfl, .inl hS, fun c hc => ?_⟩
  refine ⟨(by show 5 ≤ sizeLine; decide), fun f hf => ?_⟩
  have nf : H f = none := by
    cases e : H f with
    | none => rfl
    | some o => rw [same_new hc _ _ e] at hf; cases hf
  have s1 := same_new (o := .lst (ns.map V.int)) hc
  refine q f c _ nf hc ⟨ns, 0, 0, 1, 0, upd_same, same_new hf _ _ upd_same, by decide, by decide, by decide, by decide⟩ fun b o e => same_new hf _ _ (s1 _ _ e)
def sp_law_pick (K : PySem.W.Frag) : Sp := fun vs H Q _ => ∃ (f c : Addr) (m : Int), vs = [.ref f, .int m] ∧ 0 < m ∧ m.natAbs.log2 < 9000 ∧ Flow H f c ∧
  ∀ (v : Int) (H' : Hp), 0 ≤ v → v < m → Flow H' f c → But f H H' → Q (.int v) H'
theorem ok_law_pick {f : Addr} {fd : FuncData} (F : Fun K "_law_pick" "_law_pick" s_law_pick f fd) (T : Top K mg) : FnOk P w K mg base CX0 1 f fd ["_law_flow_here", "_law_many"] (sp_law_pick K) := by
  refine F.ok sc_law_pick (fun vs H Q E h => ?_) (fun cdv A outer s H vs Q E hr h => ?_)
  · obtain ⟨f, c, m, rfl, _⟩ := h
    rfl
  obtain ⟨f, c, m, rfl, m0, m9, hF, q⟩ := h
  obtain ⟨ns, i, p, z, r, hf, hc, hi, hp, hz, hz2⟩ := hF
  have ncf : c ≠ f := ne_of hc hf (by intro e; injection e with e; cases ns with | nil => cases e | cons x l => cases e)
  let R1 : TS := fun D' σ' H' => D'.rt = Q ∧ ∃ x2 : Option V, σ' = [some (.ref f), some (.int m), x2, none] ∧ (∃ (i p z r : Int), H' f = some (.lst [.ref c, .int i, .int p, .int z, .int r]) ∧ H' c = some (.lst (ns.map V.int)) ∧ 0 ≤ i ∧ 0 ≤ p ∧ 0 ≤ z ∧ z < 2147483647) ∧ But f H H'
  refine ⟨_, (pss_cons (ps_if (PW.pt (pw_and (pt_cmpR op_eq (pe_ix (ix_listK K rfl) (pv 0) pe_int (fun _ _ => rfl)) pe_int (nomark _)) (pw_and1 (pt_cmpR op_lt (pe_ix (ix_listK K rfl) (pv 0) pe_int (fun _ _ => rfl)) (pe_callB (call_len_seqK K rfl) (by rfl) T.m_len (by decide +kernel) (pa_cons (pe_ix (ix_listK K rfl) (pv 0) pe_int (fun _ _ => rfl)) pa_nil)) (nomark _))))) (pss_cons (ps_set (i := 2) sc_law_pick.nd rfl (Or.inl rfl) (pe_ix (ix_listK K rfl) (pe_ix (ix_listK K rfl) (pv 0) pe_int (fun _ _ => rfl)) (pe_ix (ix_listK K rfl) (pv 0) pe_int (fun _ _ => rfl)) (fun _ _ => rfl)))
      (pss_cons (ps_asg (pe_op op_add (pe_ix (ix_listK K rfl) (pv 0) pe_int (fun _ _ => rfl)) pe_int) (pg_sub (pv 0) pe_int set_list))
      (pss_one (ps_if (pt_cmpR op_ge (pv 2) (pe_op op_pow pe_int pe_int) (nomark _)) (pss_one (ps_asg (pv 2) (pg_sub (pv 0) pe_int set_list))) (pss_one (ps_asg (pe_op op_mod (pe_op op_add (pe_op op_add (pe_op op_mul (pe_ix (ix_listK K rfl) (pv 0) pe_int (fun _ _ => rfl)) pe_int) (pe_op op_mod (pv 2) pe_int)) pe_int) pe_int) (pg_sub (pv 0) pe_int set_list))))))) pss_nil)
      (PSs.to (pss_cons (ps_if (pt_cmpR op_gt (pe_ix (ix_listK K rfl) (pv 0) pe_int (fun _ _ => rfl)) pe_int (nomark _)) (pss_cons (ps_set (i := 3) sc_law_pick.nd rfl (Or.inl rfl) (pe_op op_mod (pe_ix (ix_listK K rfl) (pv 0) pe_int (fun _ _ => rfl)) (pv 1)))
      (pss_cons (ps_asg (pe_op op_fdivW (pe_ix (ix_listK K rfl) (pv 0) pe_int (fun _ _ => rfl)) (pv 1)) (pg_sub (pv 0) pe_int set_list))
      (pss_one (ps_ret (pv 3))))) pss_nil)
      (pss_cons (ps_asg (pe_op op_add (pe_ix (ix_listK K rfl) (pv 0) pe_int (fun _ _ => rfl)) pe_int) (pg_sub (pv 0) pe_int set_list))
      (pss_cons (ps_asg (pe_op op_mod (pe_op op_add (pe_op op_add (pe_op op_mul (pe_ix (ix_listK K rfl) (pv 0) pe_int (fun _ _ => rfl)) pe_int) pe_int) (pe_ix (ix_listK K rfl) (pv 0) pe_int (fun _ _ => rfl))) pe_int) (pg_sub (pv 0) pe_int set_list))
      (pss_one (ps_ret (pe_op op_mod (pe_op op_fdiv (pe_op op_mod (pe_op op_mul (pe_op op_add (pe_op op_mod (pe_ix (ix_listK K rfl) (pv 0) pe_int (fun _ _ => rfl)) pe_int) pe_int) (pe_op op_add (pe_op op_fdiv (pe_ix (ix_listK K rfl) (pv 0) pe_int (fun _ _ => rfl)) pe_int) pe_int)) pe_int) pe_int) (pv 1))))))) R1 ?tail1)), ?_⟩
  case tail1 =>
    rintro D' σ' H1 ⟨eD, x2, rfl, ⟨i, p, z, r, hf, hc, hi, hp, hz, hz2⟩, bt⟩
    refine ⟨_, rfl, f, _, _, _, rfl, rfl, SqL.of hf, atI_nat (j := 2) rfl, _, _, rfl, rfl, _, rfl, if_bl (fun c1 => ?_) (fun c1 => ?_)⟩
    · refine ⟨_, rfl, f, _, _, _, rfl, rfl, SqL.of hf, atI_nat (j := 2) rfl, _, rfl, _, _, rfl, rfl, m0, ?_⟩
      refine ⟨_, rfl, f, _, _, _, rfl, rfl, SqL.of hf, atI_nat (j := 2) rfl, _, rfl, _, _, rfl, rfl, ⟨m0, m9⟩, _, rfl, f, _, _, 2, rfl, rfl, hf, rfl, ?_⟩
      refine ⟨_, rfl, ?_⟩
      rw [eD]
      exact q _ _ (Int.emod_nonneg _ (by omega)) (Int.emod_lt_of_pos _ m0) ⟨ns, i, p / m, z, r, upd_same, (by rw [upd_ne ncf]; exact hc), hi, Int.ediv_nonneg hp (by omega), hz, hz2⟩ bt.upd
    · refine ⟨_, rfl, f, _, _, _, rfl, rfl, SqL.of hf, atI_nat (j := 4) rfl, _, _, rfl, rfl, _, rfl, f, _, _, 4, rfl, rfl, hf, rfl, ?_⟩
      have hf2 : upd H1 f (.lst ([V.ref c, V.int i, V.int p, V.int z, V.int r].set 4 (V.int (r + 1)))) f = some (.lst [.ref c, .int i, .int p, .int z, .int (r + 1)]) := upd_same
      refine ⟨_, rfl, f, _, _, _, rfl, rfl, SqL.of hf2, atI_nat (j := 3) rfl, _, _, rfl, rfl, .inl ⟨by omega, by omega⟩, _, _, rfl, rfl, _, rfl, f, _, _, _, rfl, rfl, SqL.of hf2, atI_nat (j := 4) rfl, _, _, rfl, rfl, _, _, rfl, rfl, (by show (0 : Int) < 2147483647; decide), _, rfl, f, _, _, 3, rfl, rfl, hf2, rfl, ?_⟩
      have z0 : 0 ≤ (z * 48271 + 12820163 + (r + 1)) % 2147483647 := Int.emod_nonneg _ (by decide)
      have z1 : (z * 48271 + 12820163 + (r + 1)) % 2147483647 < 2147483647 := Int.emod_lt_of_pos _ (by decide)
      have hf3 : upd (upd H1 f (.lst ([V.ref c, V.int i, V.int p, V.int z, V.int r].set 4 (V.int (r + 1))))) f (.lst ([V.ref c, V.int i, V.int p, V.int z, V.int (r + 1)].set 3 (V.int ((z * 48271 + 12820163 + (r + 1)) % 2147483647)))) f =
        some (.lst [.ref c, .int i, .int p, .int ((z * 48271 + 12820163 + (r + 1)) % 2147483647), .int (r + 1)]) := upd_same
      have hc3 : upd (upd H1 f (.lst ([V.ref c, V.int i, V.int p, V.int z, V.int r].set 4 (V.int (r + 1))))) f (.lst ([V.ref c, V.int i, V.int p, V.int z, V.int (r + 1)].set 3 (V.int ((z * 48271 + 12820163 + (r + 1)) % 2147483647)))) c = some (.lst (ns.map V.int)) := by
        rw [upd_ne ncf, upd_ne ncf]
        exact hc
      refine ⟨_, rfl, f, _, _, _, rfl, rfl, SqL.of hf3, atI_nat (j := 3) rfl, _, _, rfl, rfl, (by show (0 : Int) < 65521; decide), _, _, rfl, rfl, _, rfl, f, _, _, _, rfl, rfl, SqL.of hf3, atI_nat (j := 3) rfl, _, _, rfl, rfl, ⟨by decide, by decide⟩, _, _, rfl, rfl, _, _, rfl, rfl, .inl ⟨?_, ?_⟩, _, _, rfl, rfl, (by show (0 : Int) < 1000003; decide), _, _, rfl, rfl, ⟨by decide, by decide⟩, _, rfl, _, _, rfl, rfl, m0, ?_⟩
      · omega
      · omega
      · rw [eD]
        exact q _ _ (Int.emod_nonneg _ (by omega)) (Int.emod_lt_of_pos _ m0) ⟨ns, i, p, _, r + 1, hf3, hc3, hi, hp, z0, z1⟩ bt.upd.upd
  refine ⟨_, rfl, f, _, _, _, rfl, rfl, SqL.of hf, atI_nat (j := 2) rfl, rfl, _, rfl, if_bl (fun c1 => ?_) (fun c1 => ?_)⟩
  · refine ⟨_, rfl, f, _, _, _, rfl, rfl, SqL.of hf, atI_nat (j := 1) rfl, _, rfl, f, _, _, _, rfl, rfl, SqL.of hf, atI_nat (j := 0) rfl, c, _, rfl, .inl (SqL.of hc), _, _, rfl, rfl, _, rfl, if_bl (fun c2 => ?_) (fun c2 => ?_)⟩
    · have c3 : i < ((ns.map V.int).length : Int) := of_decide_eq_true c2
      rw [List.length_map] at c3
      obtain ⟨v, hv⟩ := at_ints hi c3
      refine ⟨_, rfl, f, _, _, _, rfl, rfl, SqL.of hf, atI_nat (j := 0) rfl, _, rfl, f, _, _, _, rfl, rfl, SqL.of hf, atI_nat (j := 1) rfl, c, _, i, _, rfl, rfl, SqL.of hc, hv, ?_⟩
      refine ⟨_, rfl, f, _, _, _, rfl, rfl, SqL.of hf, atI_nat (j := 1) rfl, _, _, rfl, rfl, _, rfl, f, _, _, 1, rfl, rfl, hf, rfl, ?_⟩
      have hf2 : upd H f (.lst ([V.ref c, V.int i, V.int p, V.int z, V.int r].set 1 (V.int (i + 1)))) f = some (.lst [.ref c, .int (i + 1), .int p, .int z, .int r]) := upd_same
      refine ⟨_, rfl, _, _, rfl, rfl, ⟨by decide, by decide, by decide⟩, _, _, rfl, rfl, _, rfl, if_bl (fun c4 => ?_) (fun c4 => ?_)⟩
      · have c5 : (10 : Int) ^ (18 : Int).toNat ≤ v := of_decide_eq_true c4
        have c6 : (0 : Int) ≤ (10 : Int) ^ (18 : Int).toNat := by decide
        refine ⟨_, rfl, _, rfl, f, _, _, 2, rfl, rfl, hf2, rfl, rfl, _, rfl, ⟨i + 1, v, z, r, upd_same, ?_, by omega, by omega, hz, hz2⟩, But.refl.upd.upd⟩
        rw [upd_ne ncf, upd_ne ncf]
        exact hc
      · refine ⟨_, rfl, f, _, _, _, rfl, rfl, SqL.of hf2, atI_nat (j := 3) rfl, _, _, rfl, rfl, .inl ⟨by omega, by omega⟩, _, rfl, _, _, rfl, rfl, (by show (0 : Int) < 1000003; decide), _, _, rfl, rfl, _, _, rfl, rfl, _, _, rfl, rfl, (by show (0 : Int) < 2147483647; decide), _, rfl, f, _, _, 3, rfl, rfl, hf2, rfl, rfl, _, rfl, ⟨i + 1, p, _, r, upd_same, ?_, by omega, hp, Int.emod_nonneg _ (by decide), Int.emod_lt_of_pos _ (by decide)⟩, But.refl.upd.upd⟩
        rw [upd_ne ncf, upd_ne ncf]
        exact hc
    · exact ⟨rfl, _, rfl, ⟨i, p, z, r, hf, hc, hi, hp, hz, hz2⟩, But.refl⟩
  · exact ⟨rfl, _, rfl, ⟨i, p, z, r, hf, hc, hi, hp, hz, hz2⟩, But.refl⟩
end
/-! ### rooms: what they are -/
/-- a hand: its rule's word, its number if it has one, its moments -/
structure HR where
  wd : Str
  no : Option Int
  mom : Int
/-- a belt -/
structure BR where
  one : Nat
  to : Nat
  th : List Int
abbrev ruleL (h : HR) : List V := .str h.wd :: (match h.no with | none => [] | some n => [.int n])
def HandAt (H : Hp) (v : V) (h : HR) : Prop := ∃ t r : Addr, v = .ref t ∧ H t = some (.tup [.ref r, .int h.mom]) ∧ H r = some (.tup (ruleL h))
def BeltAt (H : Hp) (v : V) (b : BR) : Prop := ∃ t g : Addr, v = .ref t ∧ H t = some (.tup [.int (b.one : Nat), .int (b.to : Nat), .ref g]) ∧ H g = some (.tup (b.th.map V.int))
theorem HandAt.keep {H H' : Hp} {v : V} {h : HR} (a : HandAt H v h) (k : TK H H') : HandAt H' v h := by
  obtain ⟨t, r, e, e1, e2⟩ := a
  exact ⟨t, r, e, k _ _ e1, k _ _ e2⟩
theorem BeltAt.keep {H H' : Hp} {v : V} {b : BR} (a : BeltAt H v b) (k : TK H H') : BeltAt H' v b := by
  obtain ⟨t, r, e, e1, e2⟩ := a
  exact ⟨t, r, e, k _ _ e1, k _ _ e2⟩
def nine : List Str := ["always", "same", "times", "sum", "gap", "below", "most", "least", "pick"]
def needs (wd : Str) : Int := if wd ∈ (["in", "always"] : List Str) then 0 else if wd ∈ (["out", "same", "times"] : List Str) then 1 else 2 + (if wd = "pick" then 1 else 0)
/-- a rule of one of the nine words -/
structure GoodRule (h : HR) : Prop where
  wd : h.wd ∈ nine
  no : h.no.isSome = true ↔ h.wd = "times" ∨ h.wd = "always"
  big : ∀ n, h.no = some n → -1000000 ≤ n ∧ n ≤ 1000000
def GoodHand (h : HR) : Prop := (GoodRule h ∨ ((h.wd = "in" ∨ h.wd = "out") ∧ h.no = none)) ∧ 0 ≤ h.mom ∧ h.mom ≤ 30
def Small (v : Int) : Prop := -1000000 ≤ v ∧ v ≤ 1000000
section
variable {P : Program} {w : World} {K : PySem.W.Frag} {mg : Str → Option Value} {base : Heap}
def sp_law_thing (K : PySem.W.Frag) : Sp := fun vs H Q _ => ∃ f c : Addr, vs = [.ref f] ∧ Flow H f c ∧ ∀ (v : Int) (H' : Hp), Small v → Flow H' f c → But f H H' → Q (.int v) H'
theorem ok_law_thing {f : Addr} {fd : FuncData} (F : Fun K "_law_thing" "_law_thing" s_law_thing f fd) (T : Top K mg) : FnOk P w K mg base CX0 2 f fd ["_law_flow_here"] (sp_law_thing K) := by
  obtain ⟨f_law_pick, fd_law_pick, F_law_pick, b_law_pick, m_law_pick⟩ := T.d_law_pick
  have G_law_pick := ok_law_pick (P := P) (w := w) (base := base) F_law_pick T
  refine F.ok sc_law_thing (fun vs H Q E h => ?_) (fun cdv A outer s H vs Q E hr h => ?_)
  · obtain ⟨f, c, rfl, _⟩ := h
    rfl
  obtain ⟨f, c, rfl, hF, q⟩ := h
  refine ⟨_, (pss_cons (ps_if (pt_cmpR op_gt (pe_call G_law_pick (hr.mono (by decide)) (by rfl) m_law_pick F_law_pick.kp b_law_pick .nil pass0 (pa_cons (pv 0) (pa_cons pe_int pa_nil))) pe_int (nomark _)) (pss_one (ps_ret (pe_op op_sub (pe_call G_law_pick (hr.mono (by decide)) (by rfl) m_law_pick F_law_pick.kp b_law_pick .nil pass0 (pa_cons (pv 0) (pa_cons pe_int pa_nil))) pe_int))) pss_nil)
      (pss_one (ps_ret (pe_op op_sub (pe_call G_law_pick (hr.mono (by decide)) (by rfl) m_law_pick F_law_pick.kp b_law_pick .nil pass0 (pa_cons (pv 0) (pa_cons pe_int pa_nil))) pe_int)))), ?_⟩
  refine ⟨_, rfl, f, c, 3, rfl, by decide, by decide +kernel, hF, fun v1 H1 a1 b1 F1 B1 => ⟨_, _, rfl, rfl, _, rfl, if_bl (fun _ => ?_) (fun _ => ?_)⟩⟩
  · exact ⟨_, rfl, f, c, 7, rfl, by decide, by decide +kernel, F1, fun v2 H2 a2 b2 F2 B2 => ⟨_, _, rfl, rfl, q _ _ ⟨by omega, by omega⟩ F2 (B1.trans B2)⟩⟩
  · exact ⟨_, rfl, f, c, 2000001, rfl, by decide, by decide +kernel, F1, fun v2 H2 a2 b2 F2 B2 => ⟨_, _, rfl, rfl, q _ _ ⟨by omega, by omega⟩ F2 (B1.trans B2)⟩⟩
def sp_law_needs (K : PySem.W.Frag) : Sp := fun vs H Q _ => ∃ (r : Addr) (wd : Str) (l : List V), vs = [.ref r] ∧ SqT K H r (.str wd :: l) ∧ ∀ H', Same H H' → Q (.int (needs wd)) H'
theorem ok_law_needs {f : Addr} {fd : FuncData} (F : Fun K "_law_needs" "_law_needs" s_law_needs f fd) (T : Top K mg) : FnOk P w K mg base CX0 1 f fd ["_law_rule_here"] (sp_law_needs K) := by
  refine F.ok sc_law_needs (fun vs H Q E h => ?_) (fun cdv A outer s H vs Q E hr h => ?_)
  · obtain ⟨r, wd, l, rfl, _⟩ := h
    rfl
  obtain ⟨r, wd, l, rfl, hR, q⟩ := h
  unfold needs at q
  refine ⟨_, (pss_cons (ps_if (pt_cmpR (op_in_seqK K rfl) (pe_ix (ix_tupK K rfl) (pv 0) pe_int (fun _ _ => rfl)) (pe_tup (pa_cons pe_str (pa_cons pe_str pa_nil))) (by with_unfolding_all rfl)) (pss_one (ps_ret pe_int)) pss_nil)
      (pss_cons (ps_if (pt_cmpR (op_in_seqK K rfl) (pe_ix (ix_tupK K rfl) (pv 0) pe_int (fun _ _ => rfl)) (pe_tup (pa_cons pe_str (pa_cons pe_str (pa_cons pe_str pa_nil)))) (by with_unfolding_all rfl)) (pss_one (ps_ret pe_int)) pss_nil)
      (pss_one (ps_ret (pe_op op_add pe_int (pe_callTy call_int1 (by rfl) T.m_int (by decide +kernel) (pa_cons (pe_cmpR op_eq (pe_ix (ix_tupK K rfl) (pv 0) pe_int (fun _ _ => rfl)) pe_str (nomark _)) pa_nil))))))), ?_⟩
  refine ⟨_, rfl, r, _, _, _, rfl, rfl, hR, atI_nat (j := 0) rfl, (by show 2 ≤ sizeLine; decide), fun p np => ⟨p, _, rfl, .inr (SqT.of upd_same), rfl, rfl, _, rfl, if_in (zs := ["in", "always"]) (fun e => ?_) (fun e => ?_)⟩⟩
  · have q := q _ (same_new (o := .tup [V.str "in", V.str "always"]) np)
    rw [if_pos e] at q
    exact q
  have s1 := same_new (o := .tup [V.str "in", V.str "always"]) np
  refine ⟨_, rfl, r, _, _, _, rfl, rfl, same_seqT s1 hR, atI_nat (j := 0) rfl, (by show 3 ≤ sizeLine; decide), fun p2 np2 => ⟨p2, _, rfl, .inr (SqT.of upd_same), rfl, rfl, _, rfl, if_in (zs := ["out", "same", "times"]) (fun e2 => ?_) (fun e2 => ?_)⟩⟩
  · have q := q _ (s1.trans (same_new (o := .tup [V.str "out", V.str "same", V.str "times"]) np2))
    rw [if_neg e, if_pos e2] at q
    exact q
  have s2 := s1.trans (same_new (o := .tup [V.str "out", V.str "same", V.str "times"]) np2)
  have q := q _ s2
  rw [if_neg e, if_neg e2] at q
  refine ⟨_, rfl, r, _, _, _, rfl, rfl, same_seqT s2 hR, atI_nat (j := 0) rfl, rfl, .inr ⟨_, rfl, _, _, rfl, rfl, ?_⟩⟩
  by_cases k : wd = "pick"
  · rw [if_pos k] at q
    rw [decide_eq_true (show V.str wd = V.str "pick" by rw [k])]
    exact q
  · rw [if_neg k] at q
    rw [decide_eq_false (show ¬ V.str wd = V.str "pick" from fun z => k (V.str.inj z))]
    exact q
theorem nine_at {m : Int} (h0 : 0 ≤ m) (h9 : m < 9) : ∃ wd : Str, wd ∈ nine ∧ atI (nine.map V.str) m = some (.str wd) ∧ (m < 1 → needs wd ≤ 0) ∧ (m < 3 → needs wd ≤ 1) ∧ (m < 8 → needs wd ≤ 2) ∧ needs wd ≤ 3 ∧ 0 ≤ needs wd := by
  have : m = 0 ∨ m = 1 ∨ m = 2 ∨ m = 3 ∨ m = 4 ∨ m = 5 ∨ m = 6 ∨ m = 7 ∨ m = 8 := by omega
  rcases this with rfl | rfl | rfl | rfl | rfl | rfl | rfl | rfl | rfl
  · exact ⟨"always", by decide +kernel, rfl, by decide +kernel, by decide +kernel, by decide +kernel, by decide +kernel, by decide +kernel⟩
  · exact ⟨"same", by decide +kernel, rfl, by decide +kernel, by decide +kernel, by decide +kernel, by decide +kernel, by decide +kernel⟩
  · exact ⟨"times", by decide +kernel, rfl, by decide +kernel, by decide +kernel, by decide +kernel, by decide +kernel, by decide +kernel⟩
  · exact ⟨"sum", by decide +kernel, rfl, by decide +kernel, by decide +kernel, by decide +kernel, by decide +kernel, by decide +kernel⟩
  · exact ⟨"gap", by decide +kernel, rfl, by decide +kernel, by decide +kernel, by decide +kernel, by decide +kernel, by decide +kernel⟩
  · exact ⟨"below", by decide +kernel, rfl, by decide +kernel, by decide +kernel, by decide +kernel, by decide +kernel, by decide +kernel⟩
  · exact ⟨"most", by decide +kernel, rfl, by decide +kernel, by decide +kernel, by decide +kernel, by decide +kernel, by decide +kernel⟩
  · exact ⟨"least", by decide +kernel, rfl, by decide +kernel, by decide +kernel, by decide +kernel, by decide +kernel, by decide +kernel⟩
  · exact ⟨"pick", by decide +kernel, rfl, by decide +kernel, by decide +kernel, by decide +kernel, by decide +kernel, by decide +kernel⟩
def sp_law_rule (K : PySem.W.Frag) : Sp := fun vs H Q _ => ∃ (f c : Addr) (m : Int), vs = [.ref f, .int m] ∧ 0 ≤ m ∧ Flow H f c ∧
  ∀ (r : Addr) (h : HR) (H' : Hp), H' r = some (.tup (ruleL h)) → GoodRule h → needs h.wd ≤ m → 0 ≤ needs h.wd → h.mom = 0 → Flow H' f c → But f H H' → Q (.ref r) H'
theorem ok_law_rule {f : Addr} {fd : FuncData} (F : Fun K "_law_rule" "_law_rule" s_law_rule f fd) (T : Top K mg) : FnOk P w K mg base CX0 3 f fd ["_law_flow_here", "_law_most"] (sp_law_rule K) := by
  obtain ⟨f_law_pick, fd_law_pick, F_law_pick, b_law_pick, m_law_pick⟩ := T.d_law_pick
  have G_law_pick := ok_law_pick (P := P) (w := w) (base := base) F_law_pick T
  obtain ⟨f_law_thing, fd_law_thing, F_law_thing, b_law_thing, m_law_thing⟩ := T.d_law_thing
  have G_law_thing := ok_law_thing (P := P) (w := w) (base := base) F_law_thing T
  refine F.ok sc_law_rule (fun vs H Q E h => ?_) (fun cdv A outer s H vs Q E hr h => ?_)
  · obtain ⟨f, c, m, rfl, _⟩ := h
    rfl
  obtain ⟨f, c, m, rfl, m0, hF, q⟩ := h
  refine ⟨_, (pss_cons (ps_set (i := 2) sc_law_rule.nd rfl (Or.inl rfl) (pe_lst (pa_cons pe_str (pa_cons pe_str (pa_cons pe_str (pa_cons pe_str (pa_cons pe_str (pa_cons pe_str (pa_cons pe_str (pa_cons pe_str (pa_cons pe_str pa_nil)))))))))))
      (pss_cons (ps_set (i := 3) sc_law_rule.nd rfl (Or.inl rfl) (pe_ix (ix_listK K rfl) (pv 2) (pe_call G_law_pick (hr.mono (by decide)) (by rfl) m_law_pick F_law_pick.kp b_law_pick .nil pass0 (pa_cons (pv 0) (pa_cons (pe_ix (ix_listK K rfl) (pe_lst (pa_cons pe_int (pa_cons pe_int (pa_cons pe_int (pa_cons pe_int pa_nil))))) (pe_callB (call_min2 rfl) (by rfl) T.m_min (by decide +kernel) (pa_cons pe_int (pa_cons (pv 1) pa_nil))) (fun _ _ => rfl)) pa_nil))) (fun _ _ => rfl)))
      (pss_cons (ps_if (pt_cmpR op_eq (pv 3) pe_str (nomark _)) (pss_one (ps_ret (pe_tup (pa_cons (pv 3) (pa_cons (pe_op op_sub (pe_call G_law_pick (hr.mono (by decide)) (by rfl) m_law_pick F_law_pick.kp b_law_pick .nil pass0 (pa_cons (pv 0) (pa_cons pe_int pa_nil))) pe_int) pa_nil))))) pss_nil)
      (pss_cons (ps_if (pt_cmpR op_eq (pv 3) pe_str (nomark _)) (pss_one (ps_ret (pe_tup (pa_cons (pv 3) (pa_cons (pe_call G_law_thing (hr.mono (by decide)) (by rfl) m_law_thing F_law_thing.kp b_law_thing .nil pass0 (pa_cons (pv 0) pa_nil)) pa_nil))))) pss_nil)
      (pss_one (ps_ret (pe_tup (pa_cons (pv 3) pa_nil)))))))), ?_⟩
  refine ⟨(by show 9 ≤ sizeLine; decide), fun wl nwl => ?_⟩
  have F1 : Flow (upd H wl (.lst (nine.map V.str))) f c := hF.new nwl
  refine ⟨_, rfl, _, rfl, (by show 4 ≤ sizeLine; decide), fun cl ncl => ?_⟩
  have F2 : Flow (upd (upd H wl (.lst (nine.map V.str))) cl (.lst [V.int 1, V.int 3, V.int 8, V.int 9])) f c := F1.new ncl
  have B2 : But f H (upd (upd H wl (.lst (nine.map V.str))) cl (.lst [V.int 1, V.int 3, V.int 8, V.int 9])) := (But.refl.new nwl).new ncl
  obtain ⟨j, hj, j1, j9, jn⟩ : ∃ j : Int, atI [V.int 1, V.int 3, V.int 8, V.int 9] (if m < 3 then m else 3) = some (.int j) ∧ 1 ≤ j ∧ j ≤ 9 ∧ ((j = 1 ∧ m = 0) ∨ (j = 3 ∧ m = 1) ∨ (j = 8 ∧ m = 2) ∨ (j = 9 ∧ 3 ≤ m)) := by
    by_cases k : m < 3
    · rw [if_pos k]
      have : m = 0 ∨ m = 1 ∨ m = 2 := by omega
      rcases this with rfl | rfl | rfl
      · exact ⟨1, rfl, by decide, by decide, by decide⟩
      · exact ⟨3, rfl, by decide, by decide, by decide⟩
      · exact ⟨8, rfl, by decide, by decide, by decide⟩
    · rw [if_neg k]
      exact ⟨9, rfl, by decide, by decide, by omega⟩
  refine ⟨_, rfl, _, _, rfl, cl, _, _, _, rfl, rfl, SqL.of upd_same, hj, f, c, j, rfl, by omega, ?_, F2, fun v H1 v0 v1 F3 B3 => ?_⟩
  · have : j = 1 ∨ j = 3 ∨ j = 8 ∨ j = 9 := by omega
    rcases this with rfl | rfl | rfl | rfl <;> decide +kernel
  obtain ⟨wd, hw, hat, n1, n3, n8, n9, n0⟩ := nine_at v0 (by omega)
  have hn : needs wd ≤ m := by
    rcases jn with ⟨rfl, rfl⟩ | ⟨rfl, rfl⟩ | ⟨rfl, rfl⟩ | ⟨rfl, k⟩
    · exact n1 v1
    · exact n3 v1
    · exact n8 v1
    · omega
  have hwl : H1 wl = some (.lst (nine.map V.str)) := B3 _ _ (same_new ncl _ _ upd_same) (hF.ne nwl)
  refine ⟨wl, _, _, _, rfl, rfl, SqL.of hwl, hat, ?_⟩
  have BB := B2.trans B3
  refine ⟨_, rfl, rfl, _, rfl, if_str (fun e => ?_) (fun e => ?_)⟩
  · refine ⟨_, rfl, _, rfl, f, c, 19, rfl, by decide, by decide +kernel, F3, fun v2 H2 a2 b2 F4 B4 => ⟨_, _, rfl, rfl, (by show 2 ≤ sizeLine; decide), fun r nr => ?_⟩⟩
    exact q r ⟨wd, some (v2 - 9), 0⟩ _ upd_same ⟨hw, ⟨fun _ => .inl e, fun _ => rfl⟩, fun n en => by cases en; exact ⟨by omega, by omega⟩⟩ hn n0 rfl (F4.new nr) ((BB.trans B4).new nr)
  refine ⟨_, rfl, rfl, _, rfl, if_str (fun e2 => ?_) (fun e2 => ?_)⟩
  · refine ⟨_, rfl, _, rfl, f, c, rfl, F3, fun v2 H2 s2 F4 B4 => ⟨(by show 2 ≤ sizeLine; decide), fun r nr => ?_⟩⟩
    exact q r ⟨wd, some v2, 0⟩ _ upd_same ⟨hw, ⟨fun _ => .inr e2, fun _ => rfl⟩, fun n en => by cases en; exact s2⟩ hn n0 rfl (F4.new nr) ((BB.trans B4).new nr)
  · refine ⟨_, rfl, (by show 1 ≤ sizeLine; decide), fun r nr => ?_⟩
    exact q r ⟨wd, none, 0⟩ _ upd_same ⟨hw, ⟨(fun z => nomatch z), fun z => absurd z (fun z => z.elim e e2)⟩, (fun n en => nomatch en)⟩ hn n0 rfl (F3.new nr) (BB.new nr)
def sp_law_shuffled (K : PySem.W.Frag) : Sp := fun vs H Q _ => ∃ (f c l : Addr) (xs : List V), vs = [.ref f, .ref l] ∧ SqL K H l xs ∧ l ≠ f ∧ xs.length ≤ 500 ∧ Flow H f c ∧
  ∀ (p : Addr) (ys : List V) (H' : Hp), ys.Perm xs → H p = none → H' p = some (.lst ys) → Flow H' f c → But f H H' → Q (.ref p) H'
theorem But.seqL {K : PySem.W.Frag} {f a : Addr} {H H1 : Hp} {xs : List V} (b : But f H H1) (h : SqL K H a xs) (n : a ≠ f) : SqL K H1 a xs := by
  rcases h with h | h
  · left
    rcases h with h | ⟨o, h⟩
    · exact .inl (b _ _ h n)
    · exact .inr ⟨o, b _ _ h n⟩
  · exact .inr h
theorem same_seqL {K : PySem.W.Frag} {a : Addr} {H H1 : Hp} {xs : List V} (b : Same H H1) (h : SqL K H a xs) : SqL K H1 a xs := by
  rcases h with h | h
  · left
    rcases h with h | ⟨o, h⟩
    · exact .inl (b _ _ h)
    · exact .inr ⟨o, b _ _ h⟩
  · exact .inr h
theorem log_small {m : Nat} (h : m ≤ 500) : ((m : Int)).natAbs.log2 < 9000 := by
  rw [Int.natAbs_natCast]
  exact Nat.lt_of_le_of_lt (Nat.log2_le_self m) (by omega)
theorem perm_erase {α : Type} : ∀ {l : List α} {j : Nat} {y : α}, l[j]? = some y → (y :: l.eraseIdx j).Perm l
  | [], _, _, h => nomatch h
  | a :: l, 0, y, h => by
    cases h
    exact List.Perm.refl _
  | a :: l, j + 1, y, h => by
    have ih : (y :: l.eraseIdx j).Perm l := perm_erase h
    exact (List.Perm.swap a y _).trans (ih.cons a)
theorem ok_law_shuffled {f : Addr} {fd : FuncData} (F : Fun K "_law_shuffled" "_law_shuffled" s_law_shuffled f fd) (T : Top K mg) : FnOk P w K mg base CX0 2 f fd ["_law_flow_here", "_law_some"] (sp_law_shuffled K) := by
  obtain ⟨f_law_pick, fd_law_pick, F_law_pick, b_law_pick, m_law_pick⟩ := T.d_law_pick
  have G_law_pick := ok_law_pick (P := P) (w := w) (base := base) F_law_pick T
  refine F.ok sc_law_shuffled (fun vs H Q E h => ?_) (fun cdv A outer s H vs Q E hr h => ?_)
  · obtain ⟨f, c, l, xs, rfl, _⟩ := h
    rfl
  obtain ⟨f, c, l, xs, rfl, hL, nl, hlen, hF, q⟩ := h
  refine ⟨_, (pss_cons (ps_set (i := 2) sc_law_shuffled.nd rfl (Or.inr rfl) (pe_callTy (call_list_ofK K rfl) (by rfl) T.m_list (by decide +kernel) (pa_cons (pv 1) pa_nil)))
      (pss_one (ps_ret (pe_lc (own := [("_law_k", 3)]) (g := gName 3) (tt := tYes) (by rfl) sc_law_shuffled.nd (pi_range1 (by rfl) T.m_range (pa_cons (pe_callB (call_len_seqK K rfl) (by rfl) T.m_len (by decide +kernel) (pa_cons (pv 1) pa_nil)) pa_nil)) (blkOk_by (own := [("_law_k", 3)]) (N := N_law_shuffled) (sc := defScope s_law_shuffled) (by decide +kernel)) (fun _ _ _ _ _ => (pg_name (i := 3) sc_law_shuffled.nd rfl (Or.inl rfl))) (fun _ _ _ _ _ => pts_nil) (fun _ _ _ _ _ => (pe_bmK K rfl PySem.F.plainAttrs_list PySem.F.slot_list_pop PySem.F.type_list_pop mt_popAt (pv 2) (pa_cons (pe_call G_law_pick (hr.mono (by decide)) (by rfl) m_law_pick F_law_pick.kp b_law_pick .nil pass0 (pa_cons (pv 0) (pa_cons (pe_callB (call_len_seqK K rfl) (by rfl) T.m_len (by decide +kernel) (pa_cons (pv 2) pa_nil)) pa_nil))) pa_nil))))))), ?_⟩
  refine ⟨_, rfl, l, _, rfl, .inl hL, fun lf nlf => ?_⟩
  refine ⟨_, rfl, l, _, rfl, .inl (same_seqL (same_new nlf) hL), _, rfl, by omega, (by omega), fun D nD => ?_⟩
  have F1 : Flow (upd H lf (.lst xs)) f c := hF.new nlf
  have dl : D ≠ lf := (ne_of_none upd_same nD).symm
  refine lc_range (lo := 0) (n := xs.length) (fun i H5 => ∃ acc rest : List V, H5 D = some (.lst acc) ∧ H5 lf = some (.lst rest) ∧ acc.length = i ∧ rest.length + i = xs.length ∧ (acc ++ rest).Perm xs ∧ Flow H5 f c ∧ But f H H5)
    ⟨[], xs, upd_same, by rw [upd_ne dl.symm]; exact upd_same, rfl, by omega, List.Perm.refl _, F1.new nD, (But.refl.new nlf).new nD⟩ ?_ ?_
  · rintro i H5 hi ⟨acc, rest, hD, hl, ha, hr2, hp, F5, B5⟩
    refine ⟨rfl, yes_in ?_⟩
    refine ⟨_, rfl, .inl ⟨rfl, _, SqL.of hl⟩, _, rfl, _, rfl, lf, _, rfl, .inl (SqL.of hl), f, c, ((rest.length : Nat) : Int), rfl, by omega, log_small (by omega), F5, fun v H6 v0 v1 F6 B6 => ?_⟩
    have hl6 := B6 _ _ hl (hF.ne nlf)
    have hv : v.toNat < rest.length := by omega
    have e1 : seqIndex? v rest.length = some v.toNat := by
      rw [seqIndex_of v0 (by omega)]
    refine ⟨lf, rest, v, v.toNat, rest[v.toNat], rfl, rfl, hl6, by omega, by omega, e1, List.getElem?_eq_getElem hv, ?_⟩
    have hD6 := B6 _ _ hD (fun e => by rw [e] at nD; rw [show upd H lf (.lst xs) f = H f from upd_ne (hF.ne nlf).symm] at nD; obtain ⟨_, _, _, _, _, e1, _⟩ := hF; rw [e1] at nD; cases nD)
    refine ⟨acc, by rw [upd_ne dl]; exact hD6, small1000 (by omega), acc ++ [rest[v.toNat]], rest.eraseIdx v.toNat, upd_same, by rw [upd_ne dl.symm]; exact upd_same, by rw [List.length_append, ha]; rfl, ?_, ?_, ?_, ?_⟩
    · rw [List.length_eraseIdx, if_pos hv]
      omega
    · refine List.Perm.trans ?_ hp
      rw [List.append_assoc]
      exact List.Perm.append_left acc (perm_erase (List.getElem?_eq_getElem hv))
    · have dc : D ≠ c := fun e => by
        rw [e] at nD
        obtain ⟨_, _, _, _, _, _, e1, _⟩ := F1
        rw [e1] at nD
        cases nD
      exact (F6.lst (hF.ne nlf) (hF.nec nlf)).lst (F1.ne nD) dc
    · exact ((B5.trans B6).own nlf).own (same_none (same_new nlf) nD)
  · rintro H5 ⟨acc, rest, hD, hl, ha, hr2, hp, F5, B5⟩
    have er : rest = [] := by
      cases rest with
      | nil => rfl
      | cons a l => simp at hr2
    subst er
    rw [List.append_nil] at hp
    exact q D acc H5 hp (same_none (same_new nlf) nD) hD F5 B5
end
/-! ### the hands of a drawn room -/
def unS : V → Str
  | .str s => s
  | _ => ""
theorem perm_strs {ys : List V} {zs : List Str} (h : ys.Perm (zs.map V.str)) : ∃ ss : List Str, ys = ss.map V.str ∧ ss.Perm zs := by
  refine ⟨ys.map unS, ?_, ?_⟩
  · rw [List.map_map]
    symm
    refine (List.map_congr_left (g := id) fun y hy => ?_).trans (List.map_id _)
    obtain ⟨z, _, e⟩ := List.mem_map.mp (h.mem_iff.mp hy)
    subst e
    rfl
  · have q := h.map unS
    rw [List.map_map] at q
    have e : zs.map (unS ∘ V.str) = zs := (List.map_congr_left (g := id) fun z _ => rfl).trans (List.map_id _)
    rw [e] at q
    exact q
theorem flat_rep {α : Type} (x : α) : ∀ n : Nat, (List.replicate n [x]).flatten = List.replicate n x
  | 0 => rfl
  | n + 1 => by
    rw [List.replicate_succ, List.flatten_cons, flat_rep x n]
    rfl
def cnt (ss : List Str) : Nat := (ss.filter fun s => !decide (s = ("in" : Str))).length
theorem cnt_le (ss : List Str) : cnt ss ≤ ss.length := List.length_filter_le ..
theorem cut_drop (xs : List V) (k : Nat) : cutV xs (some ((k : Nat) : Int)) none = xs.drop k := by
  unfold cutV
  rw [HT.sIx_nat, HT.sIx_none]
  by_cases h : k ≤ xs.length
  · rw [Nat.min_eq_left h]
    exact List.take_of_length_le (by rw [List.length_drop]; exact Nat.le_refl _)
  · rw [Nat.min_eq_right (by omega), Nat.sub_self, List.take_zero, List.drop_eq_nil_of_le (by omega)]
structure HInv (f c sl hh : Addr) (ss : List Str) (H0 H : Hp) (i : Nat) (vs : List V) (hs : List HR) (left : Int) : Prop where
  fl : Flow H f c
  bt : But f H0 H
  hsl : H sl = some (.lst (ss.map V.str))
  hhh : H hh = some (.lst vs)
  al : All2 (HandAt H) vs hs
  len : hs.length = i
  good : ∀ h ∈ hs, GoodHand h
  lf : (cnt (ss.drop i) : Int) ≤ left
  sum : (hs.map fun h => needs h.wd).sum + left = 20
  nz : ∀ h ∈ hs, 0 ≤ needs h.wd
  one : ("hand" : Str) ∈ ss.take i → ∃ h ∈ hs, h.wd ≠ "out"
  n1 : sl ≠ f
  n2 : sl ≠ hh
  n3 : hh ≠ f
  n4 : hh ≠ c
  n5 : H0 hh = none
section
variable {f c sl hh : Addr} {ss : List Str} {H0 H H' : Hp} {i : Nat} {vs : List V} {hs : List HR} {left : Int}
theorem HInv.but (s : HInv f c sl hh ss H0 H i vs hs left) (F : Flow H' f c) (b : But f H H') : HInv f c sl hh ss H0 H' i vs hs left :=
  { s with fl := F, bt := s.bt.trans b, hsl := b _ _ s.hsl s.n1, hhh := b _ _ s.hhh s.n3, al := s.al.imp fun _ _ k => k.keep (TK.but s.fl b) }
theorem HInv.new {p : Addr} {o : HO} (s : HInv f c sl hh ss H0 H i vs hs left) (n : H p = none) : HInv f c sl hh ss H0 (upd H p o) i vs hs left :=
  { s with fl := s.fl.new n, bt := s.bt.new n, hsl := same_new n _ _ s.hsl, hhh := same_new n _ _ s.hhh, al := s.al.imp fun _ _ k => k.keep (TK.new n) }
theorem HInv.same (s : HInv f c sl hh ss H0 H i vs hs left) (k : Same H H') : HInv f c sl hh ss H0 H' i vs hs left :=
  { s with fl := s.fl.same k, bt := s.bt.same k, hsl := k _ _ s.hsl, hhh := k _ _ s.hhh, al := s.al.imp fun _ _ z => z.keep (TK.same k) }
theorem HInv.step {x : V} {h : HR} {sd : Str} (s : HInv f c sl hh ss H0 H i vs hs left) (hx : HandAt H x h) (g : GoodHand h) (z : 0 ≤ needs h.wd) (k : needs h.wd + (cnt (ss.drop (i + 1)) : Int) ≤ left) (e : ss[i]? = some sd) (o : sd = "hand" → h.wd ≠ "out") :
    HInv f c sl hh ss H0 (upd H hh (.lst (vs ++ [x]))) (i + 1) (vs ++ [x]) (hs ++ [h]) (left - needs h.wd) := by
  refine { s with fl := s.fl.lst s.n3 s.n4, bt := s.bt.own s.n5, hsl := by rw [upd_ne s.n2]; exact s.hsl, hhh := upd_same, al := (s.al.snoc hx).imp fun _ _ z => z.keep (TK.lst s.hhh), len := by rw [List.length_append, s.len]; rfl, good := ?_, lf := by omega, sum := ?_, nz := ?_, one := ?_ }
  · intro y hy
    rcases List.mem_append.mp hy with hy | hy
    · exact s.good y hy
    · obtain rfl : y = h := by simpa using hy
      exact g
  · have := s.sum
    rw [List.map_append, List.sum_append]
    simp only [List.map_cons, List.map_nil, List.sum_cons, List.sum_nil]
    omega
  · intro y hy
    rcases List.mem_append.mp hy with hy | hy
    · exact s.nz y hy
    · obtain rfl : y = h := by simpa using hy
      exact z
  · intro hm
    rw [List.take_add_one, e] at hm
    rcases List.mem_append.mp hm with hm | hm
    · obtain ⟨y, h1, h2⟩ := s.one hm
      exact ⟨y, List.mem_append_left _ h1, h2⟩
    · have e2 : ("hand" : Str) = sd := by simpa using hm
      exact ⟨h, List.mem_append_right _ (by simp), o e2.symm⟩
end
theorem cnt_cons {ss : List Str} {i : Nat} {sd : Str} (e : ss[i]? = some sd) : cnt (ss.drop i) = (if sd = "in" then 0 else 1) + cnt (ss.drop (i + 1)) := by
  have hi := (List.getElem?_eq_some_iff.mp e).1
  have e2 : ss.drop i = sd :: ss.drop (i + 1) := by
    rw [List.drop_eq_getElem_cons hi, (List.getElem?_eq_some_iff.mp e).2]
  rw [e2]
  unfold cnt
  rw [List.filter_cons]
  by_cases k : sd = "in"
  · rw [if_pos k, decide_eq_true k]
    simp
  · rw [if_neg k, decide_eq_false k]
    simp only [Bool.not_false, if_true, List.length_cons]
    omega
section
variable {P : Program} {w : World} {K : PySem.W.Frag} {mg : Str → Option Value} {base : Heap}
structure HandsOk (hs : List HR) : Prop where
  len : hs.length ≤ 12
  good : ∀ h ∈ hs, GoodHand h
  sum : (hs.map fun h => needs h.wd).sum ≤ 20
  nz : ∀ h ∈ hs, 0 ≤ needs h.wd
  one : ∃ h ∈ hs, h.wd ≠ "out"
def sp_law_hands (K : PySem.W.Frag) : Sp := fun vs H Q _ => ∃ (f c : Addr) (m : Int), vs = [.ref f, .int m] ∧ 1 ≤ m ∧ m ≤ 8 ∧ Flow H f c ∧
  ∀ (p : Addr) (xs : List V) (hs : List HR) (H' : Hp), H p = none → H' p = some (.lst xs) → All2 (HandAt H') xs hs → HandsOk hs → Flow H' f c → But f H H' → Q (.ref p) H'
theorem ok_law_hands {f : Addr} {fd : FuncData} (F : Fun K "_law_hands" "_law_hands" s_law_hands f fd) (T : Top K mg) : FnOk P w K mg base CX0 4 f fd ["_law_flow_here", "_law_many"] (sp_law_hands K) := by
  obtain ⟨f_law_shuffled, fd_law_shuffled, F_law_shuffled, b_law_shuffled, m_law_shuffled⟩ := T.d_law_shuffled
  have G_law_shuffled := ok_law_shuffled (P := P) (w := w) (base := base) F_law_shuffled T
  obtain ⟨f_law_rule, fd_law_rule, F_law_rule, b_law_rule, m_law_rule⟩ := T.d_law_rule
  have G_law_rule := ok_law_rule (P := P) (w := w) (base := base) F_law_rule T
  obtain ⟨f_law_needs, fd_law_needs, F_law_needs, b_law_needs, m_law_needs⟩ := T.d_law_needs
  have G_law_needs := ok_law_needs (P := P) (w := w) (base := base) F_law_needs T
  obtain ⟨f_law_pick, fd_law_pick, F_law_pick, b_law_pick, m_law_pick⟩ := T.d_law_pick
  have G_law_pick := ok_law_pick (P := P) (w := w) (base := base) F_law_pick T
  refine F.ok sc_law_hands (fun vs H Q E h => ?_) (fun cdv A outer s H vs Q E hr h => ?_)
  · obtain ⟨f, c, m, rfl, _⟩ := h
    rfl
  obtain ⟨f, c, m, rfl, m1, m8, hF, q⟩ := h
  let R1 : TS := fun D' σ' H' => D'.rt = Q ∧ ∃ (sl : Addr) (ss : List Str), σ' = [some (.ref f), some (.int m), some (.ref sl), none, none, none, none, none, none, none] ∧ H' sl = some (.lst (ss.map V.str)) ∧ sl ≠ f ∧ ss.length ≤ 12 ∧ ("hand" : Str) ∈ ss ∧ (∀ s ∈ ss, s = "in" ∨ s = "out" ∨ s = "hand") ∧ Flow H' f c ∧ But f H H'
  refine ⟨_, (pss_cons (ps_set (i := 2) sc_law_hands.nd rfl (Or.inl rfl) (pe_op op_cat (pe_op op_cat (pe_op op_rep (pe_lst (pa_cons pe_str pa_nil)) (pe_call G_law_pick (hr.mono (by decide)) (by rfl) m_law_pick F_law_pick.kp b_law_pick .nil pass0 (pa_cons (pv 0) (pa_cons pe_int pa_nil)))) (pe_op op_rep (pe_lst (pa_cons pe_str pa_nil)) (pe_call G_law_pick (hr.mono (by decide)) (by rfl) m_law_pick F_law_pick.kp b_law_pick .nil pass0 (pa_cons (pv 0) (pa_cons pe_int pa_nil))))) (pe_op op_rep (pe_lst (pa_cons pe_str pa_nil)) (pv 1))))
      (pss_cons (ps_set (i := 2) sc_law_hands.nd rfl (Or.inl rfl) (pe_call G_law_shuffled (hr.mono (by decide)) (by rfl) m_law_shuffled F_law_shuffled.kp b_law_shuffled .nil pass0 (pa_cons (pv 0) (pa_cons (pv 2) pa_nil))))
      (PSs.to (pss_cons (ps_set (i := 3) sc_law_hands.nd rfl (Or.inl rfl) pe_int)
      (pss_cons (ps_set (i := 4) sc_law_hands.nd rfl (Or.inl rfl) (pe_lst pa_nil))
      (pss_cons (ps_for PassesOwn.never rfl (pi_enum (by rfl) T.m_enumerate (pa_cons (pv 2) pa_nil)) (pg_tupK K rfl rfl (pgs_cons (pg_name (i := 5) sc_law_hands.nd rfl (Or.inl rfl)) (pgs_cons (pg_name (i := 6) sc_law_hands.nd rfl (Or.inl rfl)) pgs_nil)))
        (pss_cons (ps_if (pt_cmpR op_eq (pv 6) pe_str (nomark _)) (pss_cons (ps_set (i := 7) sc_law_hands.nd rfl (Or.inl rfl) (pe_callB (call_len_seqK K rfl) (by rfl) T.m_len (by decide +kernel) (pa_cons (pe_lc (own := [("_law_other", 8)]) (g := gName 8) (by rfl) sc_law_hands.nd (pi_listK K rfl (pe_slice (sl_listK K rfl) (pv 2) (po_some (pe_op op_add (pv 5) pe_int)) po_none)) (blkOk_by (own := [("_law_other", 8)]) (N := N_law_hands) (sc := defScope s_law_hands) (by decide +kernel)) (fun _ _ _ _ _ => (pg_name (i := 8) sc_law_hands.nd rfl (Or.inl rfl))) (fun _ _ _ _ _ => pts_one (pt_cmpR op_ne (pv 8) pe_str (nomark _))) (fun _ _ _ _ _ => (pv 8))) pa_nil)))
      (pss_cons (ps_set (i := 9) sc_law_hands.nd rfl (Or.inl rfl) (pe_call G_law_rule (hr.mono (by decide)) (by rfl) m_law_rule F_law_rule.kp b_law_rule .nil pass0 (pa_cons (pv 0) (pa_cons (pe_op op_sub (pv 3) (pv 7)) pa_nil))))
      (pss_one (ps_expr (pe_bmK K rfl PySem.F.plainAttrs_list PySem.F.slot_list_append PySem.F.type_list_append mt_append (pv 4) (pa_cons (pe_tup (pa_cons (pv 9) (pa_cons (pe_call G_law_pick (hr.mono (by decide)) (by rfl) m_law_pick F_law_pick.kp b_law_pick .nil pass0 (pa_cons (pv 0) (pa_cons (pe_ix (ix_listK K rfl) (pe_lst (pa_cons pe_int (pa_cons pe_int (pa_cons pe_int pa_nil)))) (pe_call G_law_pick (hr.mono (by decide)) (by rfl) m_law_pick F_law_pick.kp b_law_pick .nil pass0 (pa_cons (pv 0) (pa_cons pe_int pa_nil))) (fun _ _ => rfl)) pa_nil))) pa_nil))) pa_nil)))))) (pss_one (ps_expr (pe_bmK K rfl PySem.F.plainAttrs_list PySem.F.slot_list_append PySem.F.type_list_append mt_append (pv 4) (pa_cons (pe_tup (pa_cons (pe_tup (pa_cons (pv 6) pa_nil)) (pa_cons pe_int pa_nil))) pa_nil)))))
      (pss_one (ps_set (i := 3) sc_law_hands.nd rfl (Or.inl rfl) (pe_op op_sub (pv 3) (pe_call G_law_needs (hr.mono (by decide)) (by rfl) m_law_needs F_law_needs.kp b_law_needs .nil pass0 (pa_cons (pe_ix (ix_tupK K rfl) (pe_ix (ix_listK K rfl) (pv 4) (pe_un un_neg pe_int) (fun _ _ => rfl)) pe_int (fun _ _ => rfl)) pa_nil)))))))
      (pss_one (ps_ret (pv 4)))))) R1 ?tail1))), ?_⟩
  case tail1 =>
    rintro D' σ' H1 ⟨eD, sl, ss, rfl, hsl, nsl, hlen, hhand, hall, F1, B1⟩
    refine ⟨(by show 0 ≤ sizeLine; decide), fun hh nhh => ?_⟩
    have I0 : HInv f c sl hh ss H (upd H1 hh (.lst [])) 0 [] [] 20 :=
      { fl := F1.new nhh, bt := B1.new nhh, hsl := same_new nhh _ _ hsl, hhh := upd_same, al := .nil, len := rfl, good := (fun _ h => nomatch h), lf := by have := cnt_le (ss.drop 0); rw [List.length_drop] at this; omega, sum := rfl, nz := (fun _ h => nomatch h), one := (fun h => nomatch h), n1 := nsl, n2 := ne_of_none hsl nhh, n3 := F1.ne nhh, n4 := F1.nec nhh, n5 := B1.none nhh (F1.ne nhh) }
    refine ⟨_, rfl, sl, _, rfl, SqL.of I0.hsl, for_it (n := ss.length) (fun i σ H2 => ∃ (vs : List V) (hs : List HR) (left : Int) (v5 v6 v7 v8 v9 : Option V), σ = [some (.ref f), some (.int m), some (.ref sl), some (.int left), some (.ref hh), v5, v6, v7, v8, v9] ∧ HInv f c sl hh ss H H2 i vs hs left)
      ⟨[], [], 20, none, none, none, none, none, rfl, I0⟩ ?_ ?_ ?_ ?_⟩
    · rintro i σ H2 hi ⟨vs, hs, left, v5, v6, v7, v8, v9, rfl, I⟩
      exact ⟨_, _, SqL.of I.hsl, by rw [List.getElem?_map, List.getElem?_eq_getElem hi]; rfl⟩
    · rintro σ H2 ⟨vs, hs, left, v5, v6, v7, v8, v9, rfl, I⟩
      exact ⟨_, SqL.of I.hsl, by rw [List.length_map]; exact Nat.le_refl _⟩
    · rintro i x σ H2 H3 hi ⟨vs, hs, left, v5, v6, v7, v8, v9, rfl, I⟩ ⟨t, y, rfl, nt, rfl, fy⟩
      have ei : ss[i]? = some ss[i] := List.getElem?_eq_getElem hi
      obtain ⟨sd, hsd⟩ : ∃ sd, sd = ss[i] := ⟨_, rfl⟩
      rw [← hsd] at ei
      have ey : y = V.str sd := by
        have := fy _ (SqL.of I.hsl)
        rw [List.getElem?_map, ei] at this
        exact (Option.some.inj this).symm
      subst ey
      have I1 := I.new (o := .tup [V.int ((i : Nat) : Int), V.str sd]) nt
      have hc1 := cnt_cons ei
      have hl := I.lf
      have sz : vs.length < sizeLine := small1000 (by rw [I.al.length, I.len]; omega)
      refine ⟨t, _, rfl, SqT.of upd_same, rfl, _, _, rfl, _, _, rfl, rfl, ?_⟩
      refine ⟨_, rfl, rfl, _, rfl, if_str (fun e => ?_) (fun e => ?_)⟩
      · -- a hand
        refine ⟨_, rfl, _, rfl, _, _, rfl, rfl, _, rfl, sl, _, rfl, SqL.of I1.hsl, fun cp ncp => ?_⟩
        have I2 := I1.new (o := .lst (cutV (ss.map V.str) (some (((i : Nat) : Int) + 1)) none)) ncp
        have ecut : cutV (ss.map V.str) (some (((i : Nat) : Int) + 1)) none = (ss.drop (i + 1)).map V.str := by
          rw [show ((i : Nat) : Int) + 1 = ((i + 1 : Nat) : Int) by omega, cut_drop, List.map_drop]
        refine ⟨cp, rfl, ⟨_, SqL.of upd_same⟩, fun D nD => lc_list (K := K) (a := cp) (xs := cutV (ss.map V.str) (some (((i : Nat) : Int) + 1)) none) (fun j H5 => ∃ acc : List V, H5 D = some (.lst acc) ∧ acc.length = cnt ((ss.drop (i + 1)).take j) ∧ H5 cp = some (.lst (cutV (ss.map V.str) (some (((i : Nat) : Int) + 1)) none)) ∧ HInv f c sl hh ss H H5 i vs hs left ∧ D ≠ cp ∧ D ≠ f ∧ D ≠ c ∧ D ≠ sl ∧ D ≠ hh ∧ H D = Option.none)
          ⟨[], upd_same, rfl, same_new nD _ _ upd_same, I2.new nD, (ne_of_none upd_same nD).symm, I2.fl.ne nD, I2.fl.nec nD, (ne_of_none I2.hsl nD).symm, (ne_of_none I2.hhh nD).symm, I2.bt.none nD (I2.fl.ne nD)⟩ (fun j H5 _ ⟨_, _, _, h, _⟩ => SqL.of h) ?_ ?_⟩
        · rintro j z H5 hz ⟨acc, hD, hacc, hcp, I5, d1, d2, d3, d4, d5, d6⟩
          rw [ecut, List.getElem?_map] at hz
          cases ez : (ss.drop (i + 1))[j]? with
          | none => rw [ez] at hz; cases hz
          | some so =>
            rw [ez] at hz
            obtain rfl : V.str so = z := Option.some.inj hz
            refine ⟨rfl, _, rfl, rfl, _, rfl, if_bl (fun k => ?_) (fun k => ?_)⟩
            · have k2 : ¬ so = "in" := fun y => by
                rw [y] at k
                exact absurd k (by decide +kernel)
              refine ⟨_, rfl, acc, hD, ?_, acc ++ [V.str so], upd_same, ?_, by rw [upd_ne d1.symm]; exact hcp, ?_, d1, d2, d3, d4, d5, d6⟩
              · rw [hacc]
                have := cnt_le ((ss.drop (i + 1)).take j)
                rw [List.length_take, List.length_drop] at this
                exact small1000 (by omega)
              · rw [List.length_append, hacc, List.take_add_one, ez]
                unfold cnt
                rw [List.filter_append, List.length_append]
                simp [k2]
              · exact { I5 with fl := I5.fl.lst d2 d3, bt := I5.bt.own d6, hsl := by rw [upd_ne d4.symm]; exact I5.hsl, hhh := by rw [upd_ne d5.symm]; exact I5.hhh, al := I5.al.imp fun _ _ y => y.keep (TK.lst hD) }
            · have k2 : so = "in" := by
                by_cases y : so = "in"
                · exact y
                · have k3 : (!decide (V.str so = V.str "in")) = false := k
                  rw [decide_eq_false (fun y2 => y (V.str.inj y2))] at k3
                  cases k3
              refine ⟨acc, hD, ?_, hcp, I5, d1, d2, d3, d4, d5, d6⟩
              rw [hacc, List.take_add_one, ez]
              unfold cnt
              rw [List.filter_append, List.length_append]
              simp [k2]
        · rintro H5 ⟨acc, hD, hacc, hcp, I5, d1, d2, d3, d4, d5, d6⟩
          have hacc2 : acc.length = cnt (ss.drop (i + 1)) := by
            rw [hacc, List.take_of_length_le]
            rw [ecut, List.length_map]
            exact Nat.le_refl _
          have hm0 : 0 ≤ left - ((acc.length : Nat) : Int) := by
            have hne : ¬ sd = "in" := by rw [e]; decide +kernel
            rw [hacc2]
            rw [hc1, if_neg hne] at hl
            omega
          refine ⟨D, _, rfl, .inl (SqL.of hD), ?_⟩
          refine ⟨_, rfl, _, rfl, _, rfl, _, _, rfl, rfl, f, c, _, rfl, hm0, I5.fl, fun r hR H6 hr6 gR n1 n0 mo F6 B6 => ?_⟩
          have I6 := I5.but F6 B6
          refine ⟨_, rfl, .inl ⟨rfl, _, SqL.of I6.hhh⟩, _, rfl, _, rfl, (by show 3 ≤ sizeLine; decide), fun ml nml => ?_⟩
          have I7 := I6.new (o := .lst [V.int 5, V.int 5, V.int 31]) nml
          refine ⟨_, rfl, f, c, 3, rfl, by decide, by decide +kernel, I7.fl, fun z H8 z0 z3 F8 B8 => ?_⟩
          have I8 := I7.but F8 B8
          have hml := B8 _ _ upd_same (I6.fl.ne nml)
          obtain ⟨mm, hmm, mk⟩ : ∃ mm : Int, atI [V.int 5, V.int 5, V.int 31] z = some (.int mm) ∧ (mm = 5 ∨ mm = 31) := by
            have : z = 0 ∨ z = 1 ∨ z = 2 := by omega
            rcases this with rfl | rfl | rfl
            · exact ⟨5, rfl, .inl rfl⟩
            · exact ⟨5, rfl, .inl rfl⟩
            · exact ⟨31, rfl, .inr rfl⟩
          refine ⟨ml, _, _, _, rfl, rfl, SqL.of hml, hmm, f, c, mm, rfl, by omega, (by rcases mk with rfl | rfl <;> decide +kernel), I8.fl, fun mo2 H9 o0 o1 F9 B9 => ?_⟩
          have I9 := I8.but F9 B9
          refine ⟨(by show 2 ≤ sizeLine; decide), fun t2 nt2 => ?_⟩
          have I10 := I9.new (o := .tup [V.ref r, V.int mo2]) nt2
          have sz10 : vs.length < sizeLine := sz
          refine ⟨hh, _, _, rfl, rfl, I10.hhh, sz10, ?_⟩
          have k9 : TK H6 H9 := ((TK.new nml).trans (TK.but I7.fl B8)).trans (TK.but I8.fl B9)
          have hx : HandAt (upd H9 t2 (.tup [V.ref r, V.int mo2])) (V.ref t2) ⟨hR.wd, hR.no, mo2⟩ := ⟨t2, r, rfl, upd_same, TK.new nt2 _ _ (k9 _ _ hr6)⟩
          have gd : GoodHand ⟨hR.wd, hR.no, mo2⟩ := ⟨.inl ⟨gR.wd, gR.no, gR.big⟩, o0, (show mo2 ≤ 30 by omega)⟩
          have nout : hR.wd ≠ "out" := fun y => by
            have := gR.wd
            rw [y] at this
            exact absurd this (by decide +kernel)
          have I11 := I10.step (h := ⟨hR.wd, hR.no, mo2⟩) hx gd n0 (by show needs hR.wd + _ ≤ left; rw [hacc2] at n1; omega) ei (fun _ => nout)
          refine ⟨_, rfl, _, rfl, 1, rfl, hh, _, -1, _, rfl, rfl, SqL.of I11.hhh, atI_last _ _, t2, _, _, _, rfl, rfl, SqT.of (TK.lst I10.hhh _ _ upd_same), atI_nat (j := 0) rfl, r, hR.wd, _, rfl, SqT.of (TK.lst I10.hhh _ _ (TK.new nt2 _ _ (k9 _ _ hr6))), fun H12 s12 => ⟨_, _, rfl, rfl, ?_⟩⟩
          exact ⟨_, _, _, _, _, _, _, _, rfl, I11.same s12⟩
      · -- a door
        refine ⟨_, rfl, .inl ⟨rfl, _, SqL.of I1.hhh⟩, _, rfl, (by show 1 ≤ sizeLine; decide), fun r nr => ⟨(by show 2 ≤ sizeLine; decide), fun t2 nt2 => ?_⟩⟩
        have I2 := (I1.new (o := .tup [V.str sd]) nr).new (o := .tup [V.ref r, V.int 0]) nt2
        refine ⟨hh, _, _, rfl, rfl, I2.hhh, sz, ?_⟩
        have hsd2 : sd = "in" ∨ sd = "out" := by
          rcases hall sd (List.mem_of_getElem? ei) with y | y | y
          · exact .inl y
          · exact .inr y
          · exact absurd y e
        have hn : needs sd = (if sd = "in" then 0 else 1) := by
          rcases hsd2 with y | y <;> rw [y] <;> decide +kernel
        have hx : HandAt (upd (upd (upd H2 t (.tup [V.int ((i : Nat) : Int), V.str sd])) r (.tup [V.str sd])) t2 (.tup [V.ref r, V.int 0])) (V.ref t2) ⟨sd, none, 0⟩ := ⟨t2, r, rfl, upd_same, same_new nt2 _ _ upd_same⟩
        have I3 := I2.step (h := ⟨sd, none, 0⟩) hx ⟨.inr ⟨hsd2, rfl⟩, (show (0 : Int) ≤ 0 by decide), (show (0 : Int) ≤ 30 by decide)⟩ (by show 0 ≤ needs sd; rw [hn]; split <;> decide) (by
          show needs sd + _ ≤ left
          rw [hn]
          rw [hc1] at hl
          by_cases y : sd = "in"
          · rw [if_pos y] at hl ⊢; omega
          · rw [if_neg y] at hl ⊢; omega) ei (fun y => absurd y e)
        refine ⟨_, rfl, _, rfl, 1, rfl, hh, _, -1, _, rfl, rfl, SqL.of I3.hhh, atI_last _ _, t2, _, _, _, rfl, rfl, SqT.of (TK.lst I2.hhh _ _ upd_same), atI_nat (j := 0) rfl, r, sd, _, rfl, SqT.of (TK.lst I2.hhh _ _ (same_new nt2 _ _ upd_same)), fun H12 s12 => ⟨_, _, rfl, rfl, ?_⟩⟩
        exact ⟨_, _, _, _, _, _, _, _, rfl, I3.same s12⟩
    · rintro σ H2 ⟨vs, hs, left, v5, v6, v7, v8, v9, rfl, I⟩
      refine ⟨_, rfl, ?_⟩
      rw [eD]
      refine q hh vs hs H2 I.n5 I.hhh I.al ⟨by rw [I.len]; exact hlen, I.good, ?_, I.nz, I.one (by rw [List.take_length]; exact hhand)⟩ I.fl I.bt
      have := I.sum
      have := I.lf
      omega
  refine ⟨(by show 1 ≤ sizeLine; decide), fun l1 nl1 => ?_⟩
  refine ⟨_, rfl, f, c, 3, rfl, by decide, by decide +kernel, hF.new nl1, fun v1 H1 a1 b1 F1 B1 => ?_⟩
  have g1 := B1 _ _ upd_same (hF.ne nl1)
  have small : ∀ v : Int, 0 ≤ v → v ≤ 8 → [V.str "in"].length * v.toNat ≤ sizeLine := fun v v0 v8 => little (by show 1 * v.toNat ≤ 1000; omega)
  refine ⟨l1, v1, _, rfl, rfl, g1, by omega, by omega, small v1 a1 (by omega), fun p1 np1 => ?_⟩
  rw [flat_rep]
  have F2 := F1.new (o := .lst (List.replicate v1.toNat (V.str "in"))) np1
  refine ⟨(by show 1 ≤ sizeLine; decide), fun l2 nl2 => ?_⟩
  refine ⟨_, rfl, f, c, 3, rfl, by decide, by decide +kernel, F2.new nl2, fun v2 H3 a2 b2 F3 B3 => ?_⟩
  have g2 := B3 _ _ upd_same (F2.ne nl2)
  have h1 := B3 _ _ (same_new nl2 _ _ upd_same) (F1.ne np1)
  refine ⟨l2, v2, _, rfl, rfl, g2, by omega, by omega, small v2 a2 (by omega), fun p2 np2 => ?_⟩
  rw [flat_rep]
  have F4 := F3.new (o := .lst (List.replicate v2.toNat (V.str "out"))) np2
  refine ⟨p1, p2, _, _, rfl, rfl, same_new np2 _ _ h1, upd_same, ?_, fun p3 np3 => ?_⟩
  · rw [List.length_replicate, List.length_replicate]; exact little (by omega)
  have F5 := F4.new (o := .lst (List.replicate v1.toNat (V.str "in") ++ List.replicate v2.toNat (V.str "out"))) np3
  refine ⟨(by show 1 ≤ sizeLine; decide), fun l4 nl4 => ⟨_, rfl, l4, m, _, rfl, rfl, upd_same, by omega, by omega, small m (by omega) m8, fun p5 np5 => ?_⟩⟩
  rw [flat_rep]
  have F6 := F5.new (o := .lst [V.str "hand"]) nl4
  have F7 := F6.new (o := .lst (List.replicate m.toNat (V.str "hand"))) np5
  refine ⟨p3, p5, _, _, rfl, rfl, same_new np5 _ _ (same_new nl4 _ _ upd_same), upd_same, ?_, fun p6 np6 => ?_⟩
  · rw [List.length_append, List.length_replicate, List.length_replicate, List.length_replicate]; exact little (by omega)
  refine ⟨_, rfl, _, rfl, f, c, p6, _, rfl, SqL.of upd_same, F7.ne np6, ?_, F7.new np6, fun p ys H8 hp np hy F8 B8 => ?_⟩
  · rw [List.length_append, List.length_append, List.length_replicate, List.length_replicate, List.length_replicate]; omega
  have ez : (List.replicate v1.toNat (V.str "in") ++ List.replicate v2.toNat (V.str "out")) ++ List.replicate m.toNat (V.str "hand") = ((List.replicate v1.toNat ("in" : Str) ++ List.replicate v2.toNat ("out" : Str)) ++ List.replicate m.toNat ("hand" : Str)).map V.str := by
    rw [List.map_append, List.map_append, List.map_replicate, List.map_replicate, List.map_replicate]
  rw [ez] at hp
  obtain ⟨ss, rfl, hss⟩ := perm_strs hp
  have pf : p ≠ f := fun y => by
    rw [y] at np
    obtain ⟨_, _, _, _, _, e1, _⟩ := F7.new (o := .lst ((List.replicate v1.toNat (V.str "in") ++ List.replicate v2.toNat (V.str "out")) ++ List.replicate m.toNat (V.str "hand"))) np6
    rw [e1] at np
    cases np
  refine ⟨rfl, p, ss, rfl, hy, pf, ?_, ?_, ?_, F8, But.trans ((((((((((But.refl.new nl1).trans B1).new np1).new nl2).trans B3).new np2).new np3).new nl4).new np5).new np6) B8⟩
  · rw [hss.length_eq, List.length_append, List.length_append, List.length_replicate, List.length_replicate, List.length_replicate]; omega
  · refine hss.mem_iff.mpr (List.mem_append_right _ (List.mem_replicate.mpr ⟨by omega, rfl⟩))
  · intro s hs
    rcases List.mem_append.mp (hss.mem_iff.mp hs) with hs | hs
    · rcases List.mem_append.mp hs with hs | hs
      · exact .inl (List.mem_replicate.mp hs).2
      · exact .inr (.inl (List.mem_replicate.mp hs).2)
    · exact .inr (.inr (List.mem_replicate.mp hs).2)
end
/-! ### rules as data -/
abbrev ruleD (h : HR) : List PyData := .str h.wd :: (match h.no with | none => [] | some n => [.int n])
theorem rule_dp {K : PySem.W.Frag} {H : Hp} {r : Addr} {h : HR} (e : H r = some (.tup (ruleL h))) : Dp K H (.ref r) (.tuple (ruleD h)) := by
  obtain ⟨wd, no, mom⟩ := h
  cases no with
  | none => exact .tup (SqT.of e) (.cons (.str _) .nil)
  | some n => exact .tup (SqT.of e) (.cons (.str _) (.cons (.int _) .nil))
theorem rule_shaped {h : HR} (k : PyData.canLay0 (.str h.wd) = true) : SeqAt.shaped (.tuple (ruleD h)) = true := by
  obtain ⟨wd, no, mom⟩ := h
  have k : PyData.canLay0 (.str wd) = true := k
  cases no <;> simp [SeqAt.shaped, PyData.canLay0, PyData.canLayAll0, PyData.depth, PyData.depthAll] <;> simpa [PyData.canLay0] using k
theorem GoodHand.lay {h : HR} (g : GoodHand h) : PyData.canLay0 (.str h.wd) = true := by
  have : h.wd ∈ nine ∨ h.wd = "in" ∨ h.wd = "out" := g.1.elim (fun k => .inl k.wd) (fun k => .inr k.1)
  rcases this with k | k | k
  · unfold nine at k
    simp only [List.mem_cons, List.not_mem_nil, or_false] at k
    rcases k with k | k | k | k | k | k | k | k | k <;> rw [k] <;> decide +kernel
  · rw [k]; decide +kernel
  · rw [k]; decide +kernel
theorem one_shaped {z : Str} (k : PyData.canLay0 (.str z) = true) : SeqAt.shaped (.tuple [.str z]) = true := rule_shaped (h := ⟨z, none, 0⟩) k
theorem at0 {xs : List V} {i : Nat} {v : V} (h : xs[i]? = some v) : atI xs (0 + ((i : Nat) : Int)) = some v := by
  rw [Int.zero_add]
  exact atI_nat h
theorem rule_eqv (h : HR) (z : Str) : PyData.eqv (.tuple (ruleD h)) (.tuple [.str z]) = (decide (h.wd = z) && h.no.isNone) := by
  obtain ⟨wd, no, mom⟩ := h
  have e : (wd == z) = decide (wd = z) := by
    by_cases k : wd = z
    · rw [k, decide_eq_true rfl]; exact beq_self_eq_true z
    · rw [decide_eq_false k]; exact beq_eq_false_iff_ne.mpr k
  cases no with
  | none =>
    show (wd == z && true) = (decide (wd = z) && true)
    rw [e]
  | some n =>
    show (wd == z && false) = (decide (wd = z) && false)
    rw [Bool.and_false, Bool.and_false]
theorem GoodHand.door {h : HR} (g : GoodHand h) (z : Str) (hz : z = "in" ∨ z = "out") : (decide (h.wd = z) && h.no.isNone) = decide (h.wd = z) := by
  by_cases k : h.wd = z
  · rw [decide_eq_true k, Bool.true_and]
    rcases g.1 with g | g
    · have := g.wd
      rw [k] at this
      rcases hz with rfl | rfl <;> exact absurd this (by decide +kernel)
    · rw [g.2]; rfl
  · rw [decide_eq_false k]; rfl
/-! ### numbers in lists -/
abbrev nV (n : Nat) : V := .int (n : Nat)
def unN : V → Nat
  | .int i => i.toNat
  | _ => 0
def unI : V → Int
  | .int i => i
  | _ => 0
theorem perm_inv {α : Type} {f : α → V} {g : V → α} (k : ∀ a, g (f a) = a) {ys : List V} {zs : List α} (h : ys.Perm (zs.map f)) : ∃ ss : List α, ys = ss.map f ∧ ss.Perm zs := by
  refine ⟨ys.map g, ?_, ?_⟩
  · rw [List.map_map]
    symm
    refine (List.map_congr_left (g := id) fun y hy => ?_).trans (List.map_id _)
    obtain ⟨z, _, e⟩ := List.mem_map.mp (h.mem_iff.mp hy)
    subst e
    show f (g (f z)) = f z
    rw [k]
  · have q := h.map g
    rw [List.map_map] at q
    have e : zs.map (g ∘ f) = zs := (List.map_congr_left (g := id) fun z _ => k z).trans (List.map_id _)
    rw [e] at q
    exact q
def nd (hs : List HR) (j : Nat) : Nat := match hs[j]? with | some h => (needs h.wd).toNat | none => 0
def tkTo (hs : List HR) : Nat → List Nat
  | 0 => []
  | n + 1 => tkTo hs n ++ List.replicate (nd hs n) n
theorem tk_count (hs : List HR) (k : Nat) : ∀ n, (tkTo hs n).count k = if k < n then nd hs k else 0
  | 0 => by simp [tkTo]
  | n + 1 => by
    unfold tkTo
    rw [List.count_append, tk_count hs k n, List.count_replicate]
    by_cases h1 : k < n
    · have h2 : ¬ (n == k) = true := by simp; omega
      rw [if_pos h1, if_neg h2, if_pos (show k < n + 1 by omega), Nat.add_zero]
    · by_cases h2 : n = k
      · subst h2
        rw [if_neg h1, if_pos (beq_self_eq_true n), if_pos (show n < n + 1 by omega), Nat.zero_add]
      · have h3 : ¬ (n == k) = true := by simpa using h2
        rw [if_neg h1, if_neg h3, if_neg (show ¬ k < n + 1 by omega)]
theorem tk_mem (hs : List HR) : ∀ n k, k ∈ tkTo hs n → k < n
  | 0, k, h => nomatch h
  | n + 1, k, h => by
    rcases List.mem_append.mp h with h | h
    · exact Nat.lt_succ_of_lt (tk_mem hs n k h)
    · rw [(List.mem_replicate.mp h).2]; exact Nat.lt_succ_self n
theorem tk_len (hs : List HR) (z : ∀ h ∈ hs, 0 ≤ needs h.wd) : ∀ n, n ≤ hs.length → ((tkTo hs n).length : Int) = ((hs.take n).map fun h => needs h.wd).sum
  | 0, _ => rfl
  | n + 1, hn => by
    have e : hs[n]? = some hs[n] := List.getElem?_eq_getElem (by omega)
    unfold tkTo
    rw [List.length_append, List.length_replicate, List.take_add_one, e, List.map_append, List.sum_append, Int.natCast_add, tk_len hs z n (by omega)]
    unfold nd
    rw [e]
    have := z hs[n] (List.getElem_mem _)
    simp only [Option.toList, List.map_cons, List.map_nil, List.sum_cons, List.sum_nil]
    omega
structure RoomOk (hs : List HR) (bs : List BR) : Prop where
  hands : hs.length ≤ 12
  good : ∀ h ∈ hs, GoodHand h
  ends : ∀ b ∈ bs, b.one < hs.length ∧ b.to < hs.length
  out : ∀ b ∈ bs, ∀ h, hs[b.one]? = some h → h.wd ≠ "out"
  th : ∀ b ∈ bs, b.th.length ≤ 6 ∧ ∀ x ∈ b.th, Small x
  rank : ∃ rk : Nat → Int, ∀ b ∈ bs, b.th = [] → rk b.one < rk b.to
  count : ∀ k h, hs[k]? = some h → (((bs.map BR.to).count k : Nat) : Int) = needs h.wd
  many : bs.length ≤ 20
structure RoomAt (H : Hp) (r : Addr) (hs : List HR) (bs : List BR) : Prop where
  ex : ∃ (ha ba : Addr) (hv bv : List V), H r = some (.tup [.ref ha, .ref ba]) ∧ H ha = some (.tup hv) ∧ H ba = some (.tup bv) ∧ All2 (HandAt H) hv hs ∧ All2 (BeltAt H) bv bs
theorem RoomAt.keep {H H' : Hp} {r : Addr} {hs : List HR} {bs : List BR} (a : RoomAt H r hs bs) (k : TK H H') : RoomAt H' r hs bs := by
  obtain ⟨ha, ba, hv, bv, e1, e2, e3, a1, a2⟩ := a.ex
  exact ⟨ha, ba, hv, bv, k _ _ e1, k _ _ e2, k _ _ e3, a1.imp fun _ _ z => z.keep k, a2.imp fun _ _ z => z.keep k⟩
section
variable {P : Program} {w : World} {K : PySem.W.Frag} {mg : Str → Option Value} {base : Heap}
def sp_law_room (K : PySem.W.Frag) : Sp := fun vs H Q _ => ∃ (f c : Addr) (m : Int), vs = [.ref f, .int m] ∧ 1 ≤ m ∧ m ≤ 8 ∧ Flow H f c ∧
  ∀ (r : Addr) (hs : List HR) (bs : List BR) (H' : Hp), RoomAt H' r hs bs → RoomOk hs bs → 0 < hs.length → Flow H' f c → But f H H' → Q (.ref r) H'
/-- what stands while a room is drawn: the draws, the list of its hands -/
structure RI (f c hh : Addr) (H0 H : Hp) (xs : List V) (hs : List HR) : Prop where
  fl : Flow H f c
  bt : But f H0 H
  lh : H hh = some (.lst xs)
  al : All2 (HandAt H) xs hs
  n1 : hh ≠ f
  n2 : H0 hh = none
section
variable {f c hh : Addr} {H0 H H' : Hp} {xs : List V} {hs : List HR}
theorem RI.but (s : RI f c hh H0 H xs hs) (F : Flow H' f c) (b : But f H H') : RI f c hh H0 H' xs hs :=
  { s with fl := F, bt := s.bt.trans b, lh := b _ _ s.lh s.n1, al := s.al.imp fun _ _ k => k.keep (TK.but s.fl b) }
theorem RI.new {p : Addr} {o : HO} (s : RI f c hh H0 H xs hs) (n : H p = none) : RI f c hh H0 (upd H p o) xs hs :=
  { s with fl := s.fl.new n, bt := s.bt.new n, lh := same_new n _ _ s.lh, al := s.al.imp fun _ _ k => k.keep (TK.new n) }
theorem RI.same (s : RI f c hh H0 H xs hs) (k : Same H H') : RI f c hh H0 H' xs hs :=
  { s with fl := s.fl.same k, bt := s.bt.same k, lh := k _ _ s.lh, al := s.al.imp fun _ _ z => z.keep (TK.same k) }
theorem RI.lst {D : Addr} {as bs : List V} (s : RI f c hh H0 H xs hs) (h : H D = some (.lst as)) (d1 : D ≠ f) (d2 : D ≠ c) (d3 : D ≠ hh) (d4 : H0 D = none) : RI f c hh H0 (upd H D (.lst bs)) xs hs :=
  { s with fl := s.fl.lst d1 d2, bt := s.bt.own d4, lh := by rw [upd_ne d3.symm]; exact s.lh, al := s.al.imp fun _ _ z => z.keep (TK.lst h) }
end
theorem ok_law_room {f : Addr} {fd : FuncData} (F : Fun K "_law_room" "_law_room" s_law_room f fd) (T : Top K mg) : FnOk P w K mg base CX0 5 f fd ["_law_flow_here", "_law_most"] (sp_law_room K) := by
  obtain ⟨f_law_hands, fd_law_hands, F_law_hands, b_law_hands, m_law_hands⟩ := T.d_law_hands
  have G_law_hands := ok_law_hands (P := P) (w := w) (base := base) F_law_hands T
  obtain ⟨f_law_shuffled, fd_law_shuffled, F_law_shuffled, b_law_shuffled, m_law_shuffled⟩ := T.d_law_shuffled
  have G_law_shuffled := ok_law_shuffled (P := P) (w := w) (base := base) F_law_shuffled T
  obtain ⟨f_law_pick, fd_law_pick, F_law_pick, b_law_pick, m_law_pick⟩ := T.d_law_pick
  have G_law_pick := ok_law_pick (P := P) (w := w) (base := base) F_law_pick T
  obtain ⟨f_law_needs, fd_law_needs, F_law_needs, b_law_needs, m_law_needs⟩ := T.d_law_needs
  have G_law_needs := ok_law_needs (P := P) (w := w) (base := base) F_law_needs T
  obtain ⟨f_law_thing, fd_law_thing, F_law_thing, b_law_thing, m_law_thing⟩ := T.d_law_thing
  have G_law_thing := ok_law_thing (P := P) (w := w) (base := base) F_law_thing T
  refine F.ok sc_law_room (fun vs H Q E h => ?_) (fun cdv A outer s H vs Q E hr h => ?_)
  · obtain ⟨f, c, m, rfl, _⟩ := h
    rfl
  obtain ⟨f, c, m, rfl, m1, m8, hF, q⟩ := h
  have hm9 : m.natAbs.log2 < 9000 := by
    obtain ⟨j, rfl⟩ : ∃ j : Nat, m = (j : Int) := ⟨m.toNat, by omega⟩
    exact log_small (by omega)
  let R1 : TS := fun D' σ' H' => D'.rt = Q ∧ ∃ (hh rk gv : Addr) (xs : List V) (hs : List HR) (is : List Int) (gs : List Nat), σ' = [some (.ref f), some (.int m), some (.ref hh), some (.ref rk), some (.ref gv), none, none, none, none, none, none] ∧ RI f c hh H H' xs hs ∧ HandsOk hs ∧ H' rk = some (.lst (is.map V.int)) ∧ is.length = hs.length ∧ H' gv = some (.lst (gs.map nV)) ∧ gs ≠ [] ∧ gs.length ≤ 12 ∧ (∀ k ∈ gs, ∃ h, hs[k]? = some h ∧ h.wd ≠ "out") ∧ rk ≠ f ∧ gv ≠ f
  let R2 : TS := fun D' σ' H' => D'.rt = Q ∧ ∃ (hh rk gv tk : Addr) (xs : List V) (hs : List HR) (is : List Int) (gs ts : List Nat) (v5 : Option V), σ' = [some (.ref f), some (.int m), some (.ref hh), some (.ref rk), some (.ref gv), v5, some (.ref tk), none, none, none, none] ∧ RI f c hh H H' xs hs ∧ HandsOk hs ∧ H' rk = some (.lst (is.map V.int)) ∧ is.length = hs.length ∧ H' gv = some (.lst (gs.map nV)) ∧ gs ≠ [] ∧ gs.length ≤ 12 ∧ (∀ k ∈ gs, ∃ h, hs[k]? = some h ∧ h.wd ≠ "out") ∧ rk ≠ f ∧ gv ≠ f ∧ tk ≠ f ∧ H' tk = some (.lst (ts.map nV)) ∧ ts = tkTo hs hs.length
  refine ⟨_, (pss_cons (ps_set (i := 2) sc_law_room.nd rfl (Or.inr rfl) (pe_call G_law_hands (hr.mono (by decide)) (by rfl) m_law_hands F_law_hands.kp b_law_hands .nil pass0 (pa_cons (pv 0) (pa_cons (pe_op op_add pe_int (pe_call G_law_pick (hr.mono (by decide)) (by rfl) m_law_pick F_law_pick.kp b_law_pick .nil pass0 (pa_cons (pv 0) (pa_cons (pv 1) pa_nil)))) pa_nil))))
      (pss_cons (ps_set (i := 3) sc_law_room.nd rfl (Or.inl rfl) (pe_call G_law_shuffled (hr.mono (by decide)) (by rfl) m_law_shuffled F_law_shuffled.kp b_law_shuffled .nil pass0 (pa_cons (pv 0) (pa_cons (pe_listRg rfl (by rfl) T.m_list (prg_1 (by rfl) T.m_range (pe_callB (call_len_seqK K rfl) (by rfl) T.m_len (by decide +kernel) (pa_cons (pv 2) pa_nil)))) pa_nil))))
      (pss_cons (ps_setLc (i := 4) (own := [("_law_k", 5)]) (g := gName 5) (by rfl) sc_law_room.nd rfl rfl (sw_true rfl rfl rfl (by decide +kernel)) (pi_range1 (by rfl) T.m_range (pa_cons (pe_callB (call_len_seqK K rfl) (by rfl) T.m_len (by decide +kernel) (pa_cons (pv 2) pa_nil)) pa_nil)) (blkOk_by (own := [("_law_k", 5)]) (N := N_law_room) (sc := defScope s_law_room) (by decide +kernel)) (fun _ _ _ _ _ => (pg_name (i := 5) sc_law_room.nd rfl (Or.inl rfl))) (fun _ _ _ _ _ => pts_one (pt_cmpR (op_neDK K rfl hr.units) (pe_ix (ix_tupK K rfl) (pe_ix (ix_listK K rfl) (pv 2) (pv 5) (fun _ _ => rfl)) pe_int (fun _ _ => rfl)) (pe_tup (pa_cons pe_str pa_nil)) (nomark _))) (fun _ _ _ _ _ => (pv 5)))
      (PSs.to (pss_cons (ps_set (i := 6) sc_law_room.nd rfl (Or.inl rfl) (pe_lst pa_nil))
      (pss_cons (ps_for PassesOwn.never rfl (pi_range1 (by rfl) T.m_range (pa_cons (pe_callB (call_len_seqK K rfl) (by rfl) T.m_len (by decide +kernel) (pa_cons (pv 2) pa_nil)) pa_nil)) (pg_name (i := 5) sc_law_room.nd rfl (Or.inl rfl))
        (pss_one (ps_set (i := 6) sc_law_room.nd rfl (Or.inl rfl) (pe_op op_cat (pv 6) (pe_op op_rep (pe_lst (pa_cons (pv 5) pa_nil)) (pe_call G_law_needs (hr.mono (by decide)) (by rfl) m_law_needs F_law_needs.kp b_law_needs .nil pass0 (pa_cons (pe_ix (ix_tupK K rfl) (pe_ix (ix_listK K rfl) (pv 2) (pv 5) (fun _ _ => rfl)) pe_int (fun _ _ => rfl)) pa_nil)))))))
      (PSs.to (pss_cons (ps_set (i := 7) sc_law_room.nd rfl (Or.inl rfl) (pe_lst pa_nil))
      (pss_cons (ps_for PassesOwn.never rfl (pi_listK K rfl (pe_call G_law_shuffled (hr.mono (by decide)) (by rfl) m_law_shuffled F_law_shuffled.kp b_law_shuffled .nil pass0 (pa_cons (pv 0) (pa_cons (pv 6) pa_nil)))) (pg_name (i := 8) sc_law_room.nd rfl (Or.inl rfl))
        (pss_cons (ps_set (i := 9) sc_law_room.nd rfl (Or.inl rfl) (pe_ix (ix_listK K rfl) (pv 4) (pe_call G_law_pick (hr.mono (by decide)) (by rfl) m_law_pick F_law_pick.kp b_law_pick .nil pass0 (pa_cons (pv 0) (pa_cons (pe_callB (call_len_seqK K rfl) (by rfl) T.m_len (by decide +kernel) (pa_cons (pv 4) pa_nil)) pa_nil))) (fun _ _ => rfl)))
      (pss_cons (ps_set (i := 10) sc_law_room.nd rfl (Or.inl rfl) (pe_ix (ix_listK K rfl) (pe_lst (pa_cons pe_int (pa_cons pe_int (pa_cons pe_int (pa_cons pe_int (pa_cons pe_int (pa_cons pe_int (pa_cons pe_int (pa_cons pe_int pa_nil))))))))) (pe_call G_law_pick (hr.mono (by decide)) (by rfl) m_law_pick F_law_pick.kp b_law_pick .nil pass0 (pa_cons (pv 0) (pa_cons pe_int pa_nil))) (fun _ _ => rfl)))
      (pss_cons (ps_if (pt_cmpR op_ge (pe_ix (ix_listK K rfl) (pv 3) (pv 9) (fun _ _ => rfl)) (pe_ix (ix_listK K rfl) (pv 3) (pv 8) (fun _ _ => rfl)) (nomark _)) (pss_one (ps_set (i := 10) sc_law_room.nd rfl (Or.inl rfl) (pe_callB (call_max2 rfl) (by rfl) T.m_max (by decide +kernel) (pa_cons pe_int (pa_cons (pv 10) pa_nil))))) pss_nil)
      (pss_one (ps_expr (pe_bmK K rfl PySem.F.plainAttrs_list PySem.F.slot_list_append PySem.F.type_list_append mt_append (pv 7) (pa_cons (pe_tup (pa_cons (pv 9) (pa_cons (pv 8) (pa_cons (pe_callTy (call_tuple_ofK K rfl) (by rfl) T.m_tuple (by decide +kernel) (pa_cons (pe_lc (own := [("_law_k", 5)]) (g := gName 5) (tt := tYes) (by rfl) sc_law_room.nd (pi_range1 (by rfl) T.m_range (pa_cons (pv 10) pa_nil)) (blkOk_by (own := [("_law_k", 5)]) (N := N_law_room) (sc := defScope s_law_room) (by decide +kernel)) (fun _ _ _ _ _ => (pg_name (i := 5) sc_law_room.nd rfl (Or.inl rfl))) (fun _ _ _ _ _ => pts_nil) (fun _ _ _ _ _ => (pe_call G_law_thing (hr.mono (by decide)) (by rfl) m_law_thing F_law_thing.kp b_law_thing .nil pass0 (pa_cons (pv 0) pa_nil)))) pa_nil)) pa_nil)))) pa_nil))))))))
      (pss_one (ps_ret (pe_tup (pa_cons (pe_callTy (call_tuple_ofK K rfl) (by rfl) T.m_tuple (by decide +kernel) (pa_cons (pv 2) pa_nil)) (pa_cons (pe_callTy (call_tuple_ofK K rfl) (by rfl) T.m_tuple (by decide +kernel) (pa_cons (pv 7) pa_nil)) pa_nil))))))) R2 ?tail2))) R1 ?tail1)))), ?_⟩
  case tail2 =>
    rintro D' σ' H1 ⟨eD, hh, rk, gv, tk, xs, hs, is, gs, ts, v5, rfl, I1, ok, hrk, lis, hgv, gne, glen, gok, nrk, ngv, ntk, htk, ets⟩
    have hx : xs.length = hs.length := I1.al.length
    have len12 := ok.len
    have lts : ts.length ≤ 20 := by
      have a := tk_len hs ok.nz hs.length (Nat.le_refl _)
      rw [List.take_length, ← ets] at a
      have := ok.sum
      omega
    refine ⟨(by show 0 ≤ sizeLine; decide), fun bl nbl => ?_⟩
    have I2 := I1.new (o := .lst []) nbl
    refine ⟨_, rfl, _, rfl, f, c, tk, _, rfl, SqL.of (same_new nbl _ _ htk), ntk, by rw [List.length_map]; omega, I2.fl, fun sh ys H3 hp nsh hsh F3 B3 => ?_⟩
    obtain ⟨tt, rfl, htt⟩ := perm_inv (f := nV) (g := unN) (fun n => by show ((n : Nat) : Int).toNat = n; omega) hp
    have I3 := I2.but F3 B3
    have bf : bl ≠ f := I1.fl.ne nbl
    have bc : bl ≠ c := I1.fl.nec nbl
    have hbl3 := B3 _ _ upd_same bf
    have bsh : bl ≠ sh := fun e => by rw [← e, upd_same] at nsh; cases nsh
    have bnone : H bl = Option.none := I1.bt.none nbl bf
    have rank : Nat → Int := fun k => is.getD k 0
    refine ⟨sh, rfl, ⟨_, SqL.of hsh⟩, for_list (K := K) (a := sh) (xs := tt.map nV) (fun i σ H4 => ∃ (bv : List V) (bs : List BR) (v5 v8 v9 v10 : Option V), σ = [some (.ref f), some (.int m), some (.ref hh), some (.ref rk), some (.ref gv), v5, some (.ref tk), some (.ref bl), v8, v9, v10] ∧ RI f c hh H H4 xs hs ∧ H4 rk = some (.lst (is.map V.int)) ∧ H4 gv = some (.lst (gs.map nV)) ∧ H4 sh = some (.lst (tt.map nV)) ∧ H4 bl = some (.lst bv) ∧ All2 (BeltAt H4) bv bs ∧ bs.map BR.to = tt.take i ∧
        (∀ b ∈ bs, b.one < hs.length ∧ (∀ h, hs[b.one]? = some h → h.wd ≠ "out") ∧ b.th.length ≤ 6 ∧ (∀ x ∈ b.th, Small x) ∧ (b.th = [] → is.getD b.one 0 < is.getD b.to 0)))
      ⟨[], [], v5, none, none, none, rfl, I3, B3 _ _ (same_new nbl _ _ hrk) nrk, B3 _ _ (same_new nbl _ _ hgv) ngv, hsh, hbl3, .nil, rfl, (fun _ h => nomatch h)⟩ (fun i σ H4 _ ⟨_, _, _, _, _, _, _, _, _, _, h, _⟩ => SqL.of h) ?_ ?_⟩
    · rintro i y σ H4 hi ⟨bv, bs, v5, v8, v9, v10, rfl, I4, hrk4, hgv4, hsh4, hbl4, al, em, hb⟩
      rw [List.getElem?_map] at hi
      cases et : tt[i]? with
      | none => rw [et] at hi; cases hi
      | some to =>
      rw [et] at hi
      obtain rfl : nV to = y := Option.some.inj hi
      have toL : to < hs.length := tk_mem hs _ _ (by rw [← ets]; exact htt.mem_iff.mp (List.mem_of_getElem? et))
      have il : i < 20 := by have := (List.getElem?_eq_some_iff.mp et).1; rw [htt.length_eq] at this; omega
      have lb : bs.length = i := by
        have := congrArg List.length em
        rw [List.length_map, List.length_take, Nat.min_eq_left (Nat.le_of_lt (List.getElem?_eq_some_iff.mp et).1)] at this
        exact this
      have g0 : 0 < gs.length := List.length_pos_iff.mpr gne
      refine ⟨_, rfl, _, rfl, _, rfl, gv, _, rfl, .inl (SqL.of hgv4), f, c, _, rfl, (by rw [List.length_map]; omega), (by rw [List.length_map]; exact log_small (by omega)), I4.fl, fun z H5 z0 z1 F5 B5 => ?_⟩
      rw [List.length_map] at z1
      have I5 := I4.but F5 B5
      have hgv5 := B5 _ _ hgv4 ngv
      obtain ⟨one, eo, ho⟩ : ∃ one, atI (gs.map nV) z = some (nV one) ∧ one ∈ gs := by
        have hk : z.toNat < gs.length := by omega
        have ek : z = ((z.toNat : Nat) : Int) := by omega
        refine ⟨gs[z.toNat], ?_, List.getElem_mem _⟩
        have q2 : atI (gs.map nV) ((z.toNat : Nat) : Int) = some (nV gs[z.toNat]) := atI_nat (by rw [List.getElem?_map, List.getElem?_eq_getElem hk]; rfl)
        rw [← ek] at q2
        exact q2
      obtain ⟨ho1, eh1, hout⟩ := gok one ho
      have oneL : one < hs.length := (List.getElem?_eq_some_iff.mp eh1).1
      refine ⟨gv, _, _, _, rfl, rfl, SqL.of hgv5, eo, ?_⟩
      refine ⟨(by show 8 ≤ sizeLine; decide), fun tl ntl => ?_⟩
      have I6 := I5.new (o := .lst [V.int 0, V.int 0, V.int 0, V.int 1, V.int 1, V.int 2, V.int 3, V.int 6]) ntl
      refine ⟨_, rfl, f, c, 8, rfl, by decide, by decide +kernel, I6.fl, fun y2 H7 y0 y8 F7 B7 => ?_⟩
      have I7 := I6.but F7 B7
      have htl := B7 _ _ upd_same (I5.fl.ne ntl)
      obtain ⟨tr, htr, tr0, tr6⟩ : ∃ tr : Int, atI [V.int 0, V.int 0, V.int 0, V.int 1, V.int 1, V.int 2, V.int 3, V.int 6] y2 = some (.int tr) ∧ 0 ≤ tr ∧ tr ≤ 6 := by
        have : y2 = 0 ∨ y2 = 1 ∨ y2 = 2 ∨ y2 = 3 ∨ y2 = 4 ∨ y2 = 5 ∨ y2 = 6 ∨ y2 = 7 := by omega
        rcases this with rfl | rfl | rfl | rfl | rfl | rfl | rfl | rfl
        · exact ⟨0, rfl, by decide, by decide⟩
        · exact ⟨0, rfl, by decide, by decide⟩
        · exact ⟨0, rfl, by decide, by decide⟩
        · exact ⟨1, rfl, by decide, by decide⟩
        · exact ⟨1, rfl, by decide, by decide⟩
        · exact ⟨2, rfl, by decide, by decide⟩
        · exact ⟨3, rfl, by decide, by decide⟩
        · exact ⟨6, rfl, by decide, by decide⟩
      refine ⟨tl, _, _, _, rfl, rfl, SqL.of htl, htr, ?_⟩
      have k7 : But f H4 H7 := (B5.new ntl).trans B7
      have hrk7 := k7 _ _ hrk4 nrk
      have hgv7 := k7 _ _ hgv4 ngv
      have shf : sh ≠ f := fun e => by rw [e] at nsh; obtain ⟨_, _, _, _, _, e1, _⟩ := I2.fl; rw [e1] at nsh; cases nsh
      have hsh7 := k7 _ _ hsh4 shf
      have hbl7 := k7 _ _ hbl4 bf
      have tk7 : TK H4 H7 := (TK.but I4.fl B5).trans ((TK.new ntl).trans (TK.but I6.fl B7))
      have al7 : All2 (BeltAt H7) bv bs := al.imp fun _ _ z => z.keep tk7
      have r1 : (is.map V.int)[one]? = some (.int (is.getD one 0)) := by
        rw [List.getElem?_map, List.getD_eq_getElem?_getD, List.getElem?_eq_getElem (by omega)]; rfl
      have r2 : (is.map V.int)[to]? = some (.int (is.getD to 0)) := by
        rw [List.getElem?_map, List.getD_eq_getElem?_getD, List.getElem?_eq_getElem (by omega)]; rfl
      have bvl : bv.length = i := by rw [al.length, lb]
      -- the end of a turn, with so many trays
      refine ⟨_, rfl, _, rfl, rk, _, _, _, rfl, rfl, SqL.of hrk7, atI_nat r1, _, rfl, _, rfl, rk, _, _, _, rfl, rfl, SqL.of hrk7, atI_nat r2, _, _, rfl, rfl, _, rfl, if_bl (fun kk => ?_) (fun kk => ?_)⟩
      · refine ⟨_, rfl, _, _, rfl, ?_⟩
        generalize ht : (if tr > 1 then tr else 1) = tn
        have tn0 : 0 ≤ tn := by rw [← ht]; split <;> omega
        have tn6 : tn ≤ 6 := by rw [← ht]; split <;> omega
        have ttt : tn.toNat = 0 → is.getD one 0 < is.getD to 0 := fun e => by
          exfalso
          have : 1 ≤ tn := by rw [← ht]; split <;> omega
          omega
        refine ⟨_, rfl, .inl ⟨rfl, _, SqL.of hbl7⟩, _, rfl, _, rfl, _, rfl, _, rfl, by omega, by omega, fun D nD => lc_range (lo := 0) (n := tn.toNat) (fun j H8 => ∃ vs : List Int, vs.length = j ∧ H8 D = some (.lst (vs.map V.int)) ∧ (∀ x ∈ vs, Small x) ∧ RI f c hh H H8 xs hs ∧ But f H7 H8 ∧ TK H7 H8 ∧ D ≠ f ∧ D ≠ c ∧ D ≠ hh ∧ H D = Option.none ∧ H7 D = Option.none)
          ⟨[], rfl, upd_same, (fun _ h => nomatch h), I7.new nD, But.refl.new nD, TK.new nD, I7.fl.ne nD, I7.fl.nec nD, (ne_of_none I7.lh nD).symm, I7.bt.none nD (I7.fl.ne nD), nD⟩ ?_ ?_⟩
        · rintro j H8 hj ⟨vs, lv, hD, sm, I8, b8, t8, d1, d2, d3, d4, d5⟩
          refine ⟨rfl, yes_in ⟨_, rfl, f, c, rfl, I8.fl, fun x H9 sx F9 B9 => ⟨_, B9 _ _ hD d1, ?_, vs ++ [x], by rw [List.length_append, lv]; rfl, ?_, ?_, (I8.but F9 B9).lst (B9 _ _ hD d1) d1 d2 d3 d4, (b8.trans B9).own d5, (t8.trans (TK.but I8.fl B9)).trans (TK.lst (B9 _ _ hD d1)), d1, d2, d3, d4, d5⟩⟩⟩
          · rw [List.length_map, lv]; exact small1000 (by omega)
          · rw [upd_same, List.map_append]; rfl
          · intro y hy
            rcases List.mem_append.mp hy with hy | hy
            · exact sm y hy
            · obtain rfl : y = x := by simpa using hy
              exact sx
        · rintro H8 ⟨vs, lv, hD, sm, I8, b8, t8, d1, d2, d3, d4, d5⟩
          refine ⟨D, _, rfl, .inl ⟨SqL.of hD, fun g ng => ⟨(by show 3 ≤ sizeLine; decide), fun t nt => ?_⟩⟩⟩
          have I9 := (I8.new (o := .tup (vs.map V.int)) ng).new (o := .tup [nV one, nV to, V.ref g]) nt
          have hbl8 := same_new (o := .tup [nV one, nV to, V.ref g]) nt _ _ (same_new (o := .tup (vs.map V.int)) ng _ _ (b8 _ _ hbl7 bf))
          have t9 : TK H7 (upd (upd H8 g (.tup (vs.map V.int))) t (.tup [nV one, nV to, V.ref g])) := (t8.trans (TK.new ng)).trans (TK.new nt)
          have s9 : ∀ b o, H7 b = some o → b ≠ f → (upd (upd H8 g (.tup (vs.map V.int))) t (.tup [nV one, nV to, V.ref g])) b = some o := fun b o e n => same_new nt _ _ (same_new ng _ _ (b8 _ _ e n))
          have bh : bl ≠ hh := fun e => by
            have h1 := I1.lh
            rw [← e, nbl] at h1
            cases h1
          have brk : bl ≠ rk := fun e => by
            have h1 := hrk
            rw [← e, nbl] at h1
            cases h1
          have bgv : bl ≠ gv := fun e => by
            have h1 := hgv
            rw [← e, nbl] at h1
            cases h1
          refine ⟨bl, _, _, rfl, rfl, hbl8, small1000 (by rw [bvl]; omega), ?_⟩
          refine ⟨bv ++ [V.ref t], bs ++ [⟨one, to, vs⟩], _, _, _, _, rfl, I9.lst hbl8 bf bc bh bnone, ?_, ?_, ?_, upd_same, ?_, ?_, ?_⟩
          · rw [upd_ne brk.symm]; exact s9 _ _ hrk7 nrk
          · rw [upd_ne bgv.symm]; exact s9 _ _ hgv7 ngv
          · rw [upd_ne bsh.symm]; exact s9 _ _ hsh7 shf
          · exact ((al7.imp fun _ _ z => z.keep t9).snoc ⟨t, g, rfl, upd_same, same_new nt _ _ upd_same⟩).imp fun _ _ z => z.keep (TK.lst hbl8)
          · rw [List.map_append, em, List.take_add_one, et]; rfl
          · intro b hb2
            rcases List.mem_append.mp hb2 with hb2 | hb2
            · exact hb b hb2
            · obtain rfl : b = ⟨one, to, vs⟩ := by simpa using hb2
              refine ⟨oneL, fun h e => ?_, by show vs.length ≤ 6; omega, sm, fun e => ?_⟩
              · have e : hs[one]? = some h := e
                rw [eh1] at e
                cases e
                exact hout
              · have e : vs = [] := e
                rw [e] at lv
                exact ttt (by simpa using lv.symm)
      · obtain ⟨tn, ht⟩ : ∃ tn, tn = tr := ⟨_, rfl⟩
        rw [← ht]
        have tn0 : 0 ≤ tn := by omega
        have tn6 : tn ≤ 6 := by omega
        have ttt : tn.toNat = 0 → is.getD one 0 < is.getD to 0 := fun _ => by
          have : ¬ is.getD to 0 ≤ is.getD one 0 := of_decide_eq_false kk
          omega
        refine ⟨_, rfl, .inl ⟨rfl, _, SqL.of hbl7⟩, _, rfl, _, rfl, _, rfl, _, rfl, by omega, by omega, fun D nD => lc_range (lo := 0) (n := tn.toNat) (fun j H8 => ∃ vs : List Int, vs.length = j ∧ H8 D = some (.lst (vs.map V.int)) ∧ (∀ x ∈ vs, Small x) ∧ RI f c hh H H8 xs hs ∧ But f H7 H8 ∧ TK H7 H8 ∧ D ≠ f ∧ D ≠ c ∧ D ≠ hh ∧ H D = Option.none ∧ H7 D = Option.none)
          ⟨[], rfl, upd_same, (fun _ h => nomatch h), I7.new nD, But.refl.new nD, TK.new nD, I7.fl.ne nD, I7.fl.nec nD, (ne_of_none I7.lh nD).symm, I7.bt.none nD (I7.fl.ne nD), nD⟩ ?_ ?_⟩
        · rintro j H8 hj ⟨vs, lv, hD, sm, I8, b8, t8, d1, d2, d3, d4, d5⟩
          refine ⟨rfl, yes_in ⟨_, rfl, f, c, rfl, I8.fl, fun x H9 sx F9 B9 => ⟨_, B9 _ _ hD d1, ?_, vs ++ [x], by rw [List.length_append, lv]; rfl, ?_, ?_, (I8.but F9 B9).lst (B9 _ _ hD d1) d1 d2 d3 d4, (b8.trans B9).own d5, (t8.trans (TK.but I8.fl B9)).trans (TK.lst (B9 _ _ hD d1)), d1, d2, d3, d4, d5⟩⟩⟩
          · rw [List.length_map, lv]; exact small1000 (by omega)
          · rw [upd_same, List.map_append]; rfl
          · intro y hy
            rcases List.mem_append.mp hy with hy | hy
            · exact sm y hy
            · obtain rfl : y = x := by simpa using hy
              exact sx
        · rintro H8 ⟨vs, lv, hD, sm, I8, b8, t8, d1, d2, d3, d4, d5⟩
          refine ⟨D, _, rfl, .inl ⟨SqL.of hD, fun g ng => ⟨(by show 3 ≤ sizeLine; decide), fun t nt => ?_⟩⟩⟩
          have I9 := (I8.new (o := .tup (vs.map V.int)) ng).new (o := .tup [nV one, nV to, V.ref g]) nt
          have hbl8 := same_new (o := .tup [nV one, nV to, V.ref g]) nt _ _ (same_new (o := .tup (vs.map V.int)) ng _ _ (b8 _ _ hbl7 bf))
          have t9 : TK H7 (upd (upd H8 g (.tup (vs.map V.int))) t (.tup [nV one, nV to, V.ref g])) := (t8.trans (TK.new ng)).trans (TK.new nt)
          have s9 : ∀ b o, H7 b = some o → b ≠ f → (upd (upd H8 g (.tup (vs.map V.int))) t (.tup [nV one, nV to, V.ref g])) b = some o := fun b o e n => same_new nt _ _ (same_new ng _ _ (b8 _ _ e n))
          have bh : bl ≠ hh := fun e => by
            have h1 := I1.lh
            rw [← e, nbl] at h1
            cases h1
          have brk : bl ≠ rk := fun e => by
            have h1 := hrk
            rw [← e, nbl] at h1
            cases h1
          have bgv : bl ≠ gv := fun e => by
            have h1 := hgv
            rw [← e, nbl] at h1
            cases h1
          refine ⟨bl, _, _, rfl, rfl, hbl8, small1000 (by rw [bvl]; omega), ?_⟩
          refine ⟨bv ++ [V.ref t], bs ++ [⟨one, to, vs⟩], _, _, _, _, rfl, I9.lst hbl8 bf bc bh bnone, ?_, ?_, ?_, upd_same, ?_, ?_, ?_⟩
          · rw [upd_ne brk.symm]; exact s9 _ _ hrk7 nrk
          · rw [upd_ne bgv.symm]; exact s9 _ _ hgv7 ngv
          · rw [upd_ne bsh.symm]; exact s9 _ _ hsh7 shf
          · exact ((al7.imp fun _ _ z => z.keep t9).snoc ⟨t, g, rfl, upd_same, same_new nt _ _ upd_same⟩).imp fun _ _ z => z.keep (TK.lst hbl8)
          · rw [List.map_append, em, List.take_add_one, et]; rfl
          · intro b hb2
            rcases List.mem_append.mp hb2 with hb2 | hb2
            · exact hb b hb2
            · obtain rfl : b = ⟨one, to, vs⟩ := by simpa using hb2
              refine ⟨oneL, fun h e => ?_, by show vs.length ≤ 6; omega, sm, fun e => ?_⟩
              · have e : hs[one]? = some h := e
                rw [eh1] at e
                cases e
                exact hout
              · have e : vs = [] := e
                rw [e] at lv
                exact ttt (by simpa using lv.symm)
    · rintro σ H4 ⟨bv, bs, v5, v8, v9, v10, rfl, I4, hrk4, hgv4, hsh4, hbl4, al, em, hb⟩
      rw [List.length_map, List.take_length] at em
      have lb : bs.length = ts.length := by
        have := congrArg List.length em
        rw [List.length_map] at this
        rw [this, htt.length_eq]
      refine ⟨_, rfl, hh, _, rfl, .inl ⟨SqL.of I4.lh, fun a1 na1 => ⟨_, rfl, bl, _, rfl, .inl ⟨SqL.of (same_new na1 _ _ hbl4), fun a2 na2 => ⟨(by show 2 ≤ sizeLine; decide), fun a3 na3 => ?_⟩⟩⟩⟩⟩
      rw [eD]
      have k1 : TK H4 (upd (upd (upd H4 a1 (.tup xs)) a2 (.tup bv)) a3 (.tup [V.ref a1, V.ref a2])) := ((TK.new na1).trans (TK.new na2)).trans (TK.new na3)
      refine q a3 hs bs _ ⟨a1, a2, xs, bv, upd_same, same_new na3 _ _ (same_new na2 _ _ upd_same), same_new na3 _ _ upd_same, I4.al.imp fun _ _ z => z.keep k1, al.imp fun _ _ z => z.keep k1⟩ ⟨ok.len, ok.good, fun b hb2 => ⟨(hb b hb2).1, ?_⟩, fun b hb2 => (hb b hb2).2.1, fun b hb2 => ⟨(hb b hb2).2.2.1, (hb b hb2).2.2.2.1⟩, ⟨fun k => is.getD k 0, fun b hb2 => (hb b hb2).2.2.2.2⟩, fun k h hk => ?_, by omega⟩ (by obtain ⟨h1, hm1, _⟩ := ok.one; exact List.length_pos_of_mem hm1) (((I4.fl.new na1).new na2).new na3) (((I4.bt.new na1).new na2).new na3)
      · have : b.to ∈ bs.map BR.to := List.mem_map.mpr ⟨b, hb2, rfl⟩
        rw [em] at this
        exact tk_mem hs _ _ (by rw [← ets]; exact htt.mem_iff.mp this)
      · rw [em, htt.count_eq, ets, tk_count, if_pos (List.getElem?_eq_some_iff.mp hk).1]
        unfold nd
        rw [hk]
        have := ok.nz h (List.mem_of_getElem? hk)
        show (((needs h.wd).toNat : Nat) : Int) = needs h.wd
        omega
  case tail1 =>
    rintro D' σ' H1 ⟨eD, hh, rk, gv, xs, hs, is, gs, rfl, I1, ok, hrk, lis, hgv, gne, glen, gok, nrk, ngv⟩
    refine ⟨(by show 0 ≤ sizeLine; decide), fun tk ntk => ?_⟩
    have I2 := I1.new (o := .lst []) ntk
    have hx : xs.length = hs.length := I1.al.length
    refine ⟨_, rfl, hh, _, rfl, .inl (SqL.of I2.lh), _, rfl, by omega, (by rw [hx]; have := ok.len; omega), for_range (lo := 0) (n := xs.length) (fun i σ H2 => ∃ (tk : Addr) (v5 : Option V), σ = [some (.ref f), some (.int m), some (.ref hh), some (.ref rk), some (.ref gv), v5, some (.ref tk), none, none, none, none] ∧ RI f c hh H H2 xs hs ∧ H2 rk = some (.lst (is.map V.int)) ∧ H2 gv = some (.lst (gs.map nV)) ∧ tk ≠ f ∧ H2 tk = some (.lst ((tkTo hs i).map nV)))
      ⟨tk, none, rfl, I2, same_new ntk _ _ hrk, same_new ntk _ _ hgv, I1.fl.ne ntk, upd_same⟩ ?_ ?_⟩
    · rintro i σ H2 hi ⟨tk, v5, rfl, I3, hrk3, hgv3, tf, htk⟩
      have eh : hs[i]? = some hs[i] := List.getElem?_eq_getElem (by omega)
      obtain ⟨x, ex, ⟨t, r, rfl, e1, e2⟩⟩ := I3.al.get eh
      have z0 := ok.nz _ (List.mem_of_getElem? eh)
      have zs : needs hs[i].wd ≤ 3 := by
        unfold needs
        split
        · decide
        · split
          · decide
          · split <;> decide
      have sz : (tkTo hs i).length ≤ 20 := by
        have a := tk_len hs ok.nz i (by omega)
        have b : ((hs.take i).map fun h => needs h.wd).sum ≤ (hs.map fun h => needs h.wd).sum := by
          have e : hs.map (fun h => needs h.wd) = (hs.take i).map (fun h => needs h.wd) ++ (hs.drop i).map (fun h => needs h.wd) := by rw [← List.map_append, List.take_append_drop]
          rw [e, List.sum_append]
          have : 0 ≤ ((hs.drop i).map fun h => needs h.wd).sum := by
            have hz : ∀ h ∈ hs.drop i, 0 ≤ needs h.wd := fun h hh => ok.nz h (List.mem_of_mem_drop hh)
            revert hz
            generalize hs.drop i = l
            intro hz
            induction l with
            | nil => decide
            | cons a l ih =>
              have := hz a (List.mem_cons_self ..)
              have := ih fun h hh => hz h (List.mem_cons_of_mem _ hh)
              rw [List.map_cons, List.sum_cons]
              omega
          omega
        have := ok.sum
        omega
      refine ⟨_, rfl, _, rfl, (by show 1 ≤ sizeLine; decide), fun l1 nl1 => ?_⟩
      have I4 := I3.new (o := .lst [V.int (0 + ((i : Nat) : Int))]) nl1
      refine ⟨_, rfl, _, rfl, hh, _, _, _, rfl, rfl, SqL.of I4.lh, at0 ex, t, _, _, _, rfl, rfl, SqT.of (same_new nl1 _ _ e1), atI_nat (j := 0) rfl, r, hs[i].wd, _, rfl, SqT.of (same_new nl1 _ _ e2), fun H5 s5 => ?_⟩
      have I5 := I4.same s5
      have g1 := s5 _ _ upd_same
      have g2 := s5 _ _ (same_new nl1 _ _ htk)
      refine ⟨l1, _, _, rfl, rfl, g1, by omega, by omega, little (by show 1 * (needs hs[i].wd).toNat ≤ 1000; omega), fun l2 nl2 => ?_⟩
      rw [flat_rep]
      have I6 := I5.new (o := .lst (List.replicate (needs hs[i].wd).toNat (V.int (0 + ((i : Nat) : Int))))) nl2
      refine ⟨tk, l2, _, _, rfl, rfl, same_new nl2 _ _ g2, upd_same, ?_, fun l3 nl3 => ?_⟩
      · rw [List.length_map, List.length_replicate]; exact little (by omega)
      refine ⟨l3, _, rfl, I6.new nl3, same_new nl3 _ _ (same_new nl2 _ _ (s5 _ _ (same_new nl1 _ _ hrk3))), same_new nl3 _ _ (same_new nl2 _ _ (s5 _ _ (same_new nl1 _ _ hgv3))), I6.fl.ne nl3, ?_⟩
      rw [upd_same]
      have e : nd hs i = (needs hs[i].wd).toNat := by unfold nd; rw [eh]
      rw [show tkTo hs (i + 1) = tkTo hs i ++ List.replicate (nd hs i) i from rfl, List.map_append, List.map_replicate, e, Int.zero_add]
    · rintro σ H2 ⟨tk, v5, rfl, I3, hrk3, hgv3, tf, htk⟩
      exact ⟨eD, hh, rk, gv, tk, xs, hs, is, gs, _, v5, rfl, I3, ok, hrk3, lis, hgv3, gne, glen, gok, nrk, ngv, tf, htk, by rw [hx]⟩
  refine ⟨_, rfl, _, rfl, _, rfl, f, c, m, rfl, by omega, hm9, hF, fun v1 H1 a1 b1 F1 B1 => ?_⟩
  refine ⟨_, _, rfl, rfl, f, c, _, rfl, by omega, by omega, F1, fun hh xs hs H2 nhh hhh al ok F2 B2 => ?_⟩
  have hx : xs.length = hs.length := al.length
  have len12 := ok.len
  have nf : hh ≠ f := F1.ne nhh
  have I2 : RI f c hh H H2 xs hs := ⟨F2, B1.trans B2, hhh, al, nf, B1.none nhh nf⟩
  -- ranks
  refine ⟨_, rfl, _, rfl, hh, _, rfl, .inl (SqL.of I2.lh), _, rfl, ⟨by omega, by omega, by omega, by omega, by omega⟩, fun rg nrg => ?_⟩
  have I3 := I2.new (o := .lst (rgV 0 ((xs.length : Nat) : Int))) nrg
  refine ⟨f, c, rg, _, rfl, SqL.of upd_same, I2.fl.ne nrg, ?_, I3.fl, fun rk ys H4 hp nrk hrk F4 B4 => ?_⟩
  · rw [rgV_length]; omega
  have erg : rgV 0 ((xs.length : Nat) : Int) = ((List.range xs.length).map fun i => ((i : Nat) : Int)).map V.int := by
    unfold rgV
    rw [List.map_map, show (((xs.length : Nat) : Int) - 0).toNat = xs.length by omega]
    refine List.map_congr_left fun i _ => ?_
    show V.int (0 + ((i : Nat) : Int)) = V.int ((i : Nat) : Int)
    rw [Int.zero_add]
  rw [erg] at hp
  obtain ⟨is, rfl, his⟩ := perm_inv (f := V.int) (g := unI) (fun _ => rfl) hp
  have lis : is.length = hs.length := by rw [his.length_eq, List.length_map, List.length_range, hx]
  have I4 := I3.but F4 B4
  have rkf : rk ≠ f := I3.fl.ne nrk
  -- givers
  refine ⟨_, rfl, hh, _, rfl, .inl (SqL.of I4.lh), _, rfl, by omega, by omega, fun D nD => lc_range (lo := 0) (n := xs.length) (fun i H5 => ∃ gs : List Nat, H5 D = some (.lst (gs.map nV)) ∧ gs.length ≤ i ∧ RI f c hh H H5 xs hs ∧ H5 rk = some (.lst (is.map V.int)) ∧ (∀ k ∈ gs, ∃ h, hs[k]? = some h ∧ h.wd ≠ "out") ∧ (∀ k h, k < i → hs[k]? = some h → h.wd ≠ "out" → gs ≠ []) ∧ D ≠ f ∧ D ≠ c ∧ D ≠ hh ∧ D ≠ rk ∧ H D = Option.none)
    ⟨[], upd_same, Nat.le_refl _, I4.new nD, same_new nD _ _ hrk, (fun _ h => nomatch h), (fun k h hk => absurd hk (Nat.not_lt_zero _)), I4.fl.ne nD, I4.fl.nec nD, (ne_of_none I4.lh nD).symm, (ne_of_none hrk nD).symm, I4.bt.none nD (I4.fl.ne nD)⟩ ?_ ?_⟩
  · rintro i H5 hi ⟨gs, hD, lg, I5, hrk5, g1, g2, d1, d2, d3, d4, d5⟩
    have eh : hs[i]? = some hs[i] := List.getElem?_eq_getElem (by omega)
    obtain ⟨x, ex, ⟨t, r, rfl, e1, e2⟩⟩ := I5.al.get eh
    have gh := ok.good _ (List.mem_of_getElem? eh)
    refine ⟨rfl, _, rfl, _, rfl, hh, _, _, _, rfl, rfl, SqL.of I5.lh, at0 ex, t, _, _, _, rfl, rfl, SqT.of e1, atI_nat (j := 0) rfl, (by show 1 ≤ sizeLine; decide), fun o1 no1 => ?_⟩
    have I6 := I5.new (o := .tup [V.str "out"]) no1
    have hD6 : (upd H5 o1 (.tup [V.str "out"])) D = some (.lst (gs.map nV)) := same_new no1 _ _ hD
    refine ⟨_, _, rule_dp (same_new no1 _ _ e2), .tup (SqT.of upd_same) (.cons (.str _) .nil), rule_shaped gh.lay, one_shaped (by decide +kernel), _, rfl, ?_⟩
    rw [rule_eqv, gh.door "out" (.inr rfl)]
    by_cases k : hs[i].wd = "out"
    · rw [decide_eq_true k]
      refine if_bl (fun z => absurd z (by decide)) (fun _ => ⟨gs, hD6, by omega, I6, same_new no1 _ _ hrk5, g1, fun k' h' hk hk2 hk3 => ?_, d1, d2, d3, d4, d5⟩)
      by_cases y : k' = i
      · subst y
        rw [eh] at hk2
        cases hk2
        exact absurd k hk3
      · exact g2 k' h' (by omega) hk2 hk3
    · rw [decide_eq_false k]
      refine if_bl (fun _ => ⟨_, rfl, _, hD6, ?_, gs ++ [i], ?_, ?_, I6.lst hD6 d1 d2 d3 d5, ?_, ?_, fun _ _ _ _ _ z => by simp at z, d1, d2, d3, d4, d5⟩) (fun z => absurd z (by decide))
      · rw [List.length_map]; exact small1000 (by omega)
      · rw [upd_same, List.map_append, Int.zero_add]; rfl
      · rw [List.length_append]; show gs.length + 1 ≤ i + 1; omega
      · rw [upd_ne d4.symm]; exact same_new no1 _ _ hrk5
      · intro k' hk
        rcases List.mem_append.mp hk with hk | hk
        · exact g1 k' hk
        · obtain rfl : k' = i := by simpa using hk
          exact ⟨_, eh, k⟩
  · rintro H5 ⟨gs, hD, lg, I5, hrk5, g1, g2, d1, d2, d3, d4, d5⟩
    obtain ⟨h1, hm1, hm2⟩ := ok.one
    obtain ⟨k1, hk1⟩ := List.getElem?_of_mem hm1
    have k1l := (List.getElem?_eq_some_iff.mp hk1).1
    exact ⟨rfl, hh, rk, D, xs, hs, is, gs, rfl, I5, ok, hrk5, lis, hD, g2 k1 h1 (by omega) hk1 hm2, by omega, g1, rkf, d1⟩
end
/-! ### a loop over any iterator, whatever its turn does -/
theorem it_loop {J : It} {n : Nat} {B : V → Hp → (Hp → Prop) → Prop} {H0 : Hp} {Qd : Hp → Prop} (Pv : Nat → Hp → Prop) (h0 : Pv 0 H0) (go : ∀ i H, i < n → Pv i H → J.go i H) (st : ∀ H, Pv n H → J.stop n H)
    (hs : ∀ i x H H', i < n → Pv i H → J.yld i H x H' → B x H' (Pv (i + 1))) (hd : ∀ H, Pv n H → Qd H) :
    ∃ W : Nat → Nat → Hp → Prop, (∃ m, W 0 m H0) ∧ ∀ i m H, W i m H → (J.stop i H ∧ Qd H) ∨ (J.go i H ∧ ∃ Nx : Hp → Prop, (∀ H', Nx H' → ∃ m', m' < m ∧ W (i + 1) m' H') ∧ ∀ x H', J.yld i H x H' → B x H' Nx) := by
  refine ⟨fun i m H => i + m = n ∧ Pv i H, ⟨n, by omega, h0⟩, fun i m H ⟨e, p⟩ => ?_⟩
  by_cases k : i < n
  · exact .inr ⟨go i H k p, Pv (i + 1), fun H' p' => ⟨m - 1, by omega, by omega, p'⟩, fun x H' y => hs i x H H' k p y⟩
  · have z : i = n := by omega
    subst z
    exact .inl ⟨st H p, hd H p⟩
theorem r_at0 {xs : List V} {k : Nat} {x : V} (h : xs[k]? = some x) : atI xs (0 + (k : Int)) = some x := by
  rw [Int.zero_add]
  exact atI_nat h
theorem filt_succ {p : Nat → Bool} (i : Nat) : (List.range (i + 1)).filter p = (List.range i).filter p ++ (if p i = true then [i] else []) := by
  rw [List.range_succ, List.filter_append]
  cases h : p i <;> simp [h]
theorem filt_len {p : Nat → Bool} (i : Nat) : ((List.range i).filter p).length ≤ i := by
  refine Nat.le_trans (List.length_filter_le ..) ?_
  rw [List.length_range]
  exact Nat.le_refl _
/-! ### max, min of a list with a default -/
def rMaxDf (K : PySem.W.Frag) : List V → List V → Hp → VK → Prop := fun xs zs H Q => ∃ (a : Addr) (ns : List Int) (d : V), xs = [.ref a] ∧ zs = [d] ∧ SqL K H a (ns.map V.int) ∧ (ns = [] → Q d H) ∧ ∀ m, m ∈ ns → (∀ y ∈ ns, y ≤ m) → Q (.int m) H
def rMinDf (K : PySem.W.Frag) : List V → List V → Hp → VK → Prop := fun xs zs H Q => ∃ (a : Addr) (ns : List Int) (d : V), xs = [.ref a] ∧ zs = [d] ∧ SqL K H a (ns.map V.int) ∧ (ns = [] → Q d H) ∧ ∀ m, m ∈ ns → (∀ y ∈ ns, m ≤ y) → Q (.int m) H
theorem ints_val {ns : List Int} {its : List Value} (rv : Vals (ns.map V.int) its) : ∀ i v, its.toArray[i]? = some v → ∃ t, v = Value.int (ns.getD i 0) t := fun i v e => by
  rw [List.getElem?_toArray] at e
  have il : i < ns.length := by
    have h1 := (List.getElem?_eq_some_iff.mp e).1
    have h2 := rv.length
    rw [List.length_map] at h2
    omega
  obtain ⟨u, eu, t, ru⟩ := rv.get (i := i) (x := .int ns[i]) (by rw [List.getElem?_map, List.getElem?_eq_getElem il]; rfl)
  rw [e] at eu
  cases eu
  exact ⟨t, by rw [ru, List.getD_eq_getElem?_getD, List.getElem?_eq_getElem il]; rfl⟩
section
variable {X : Cx}
theorem cr_maxDf (K : PySem.W.Frag) (hk : X.K = K) (hc : X.calm = true) : CallRK X (.builtin "max") ["default"] (rMaxDf K) := by
  subst hk
  intro pins s σ H xs zs us ws Q I r r2 h
  obtain ⟨a, ns, d, rfl, rfl, hs, q0, q1⟩ := h
  obtain ⟨its, rv, hl, _⟩ := I.list hs
  rw [Vals.ref1 r]
  obtain ⟨dv, rfl, rd⟩ := vals1 r2
  have hh := I.ok.hd hc
  have ln : its.length = ns.length := by rw [← rv.length, List.length_map]
  show wpAny _ _ (call (.builtin "max") [.ref a] [(Str.ofString "default", dv)]) _ _ s
  refine PySem.call_max_walkD (PySem.W.iter_listW (A := X.A.in1) hh hl.isList fun s₂ e W st hfp hw hk => ?_)
  refine ⟨_, _, _, _, _, _, _, s.heap, (fun i j => decide (ns.getD i 0 > ns.getD j 0)), rfl, W, st, hfp, hw, hk, fun hz s' m => ?_, fun hp => ⟨fun i j vi vj s3 Q3 E3 _ p1 p2 q3 => ?_, fun v s' hP m => ?_⟩⟩
  · obtain ⟨h', tk, rfl, hk'⟩ := PySem.W.moved_old e rfl m
    refine ⟨d, H, I.kept hk', rd, q0 ?_⟩
    exact List.eq_nil_of_length_eq_zero (by have : its.toArray.size = 0 := hz; rw [List.size_toArray] at this; omega)
  · exact (CmpOf.ints_gt (fun i => ns.getD i 0) (ints_val rv)) i j vi vj s3 Q3 E3 p1 p2 q3
  · obtain ⟨h', tk, rfl, hk'⟩ := PySem.W.moved_old e rfl m
    have hp : 0 < its.length := by have : 0 < its.toArray.size := hp; rw [List.size_toArray] at this; exact this
    have hsz : its.toArray.size = its.length := List.size_toArray
    obtain ⟨t, rfl⟩ := ints_val rv _ v hP
    obtain ⟨h1, h2⟩ := argBest_gt (fun i => ns.getD i 0) (its.toArray.size - 1)
    refine ⟨.int _, H, I.kept hk', ⟨_, rfl⟩, q1 _ ?_ fun y hy => ?_⟩
    · have il : argBest (fun i j => decide (ns.getD i 0 > ns.getD j 0)) (its.toArray.size - 1) < ns.length := by omega
      rw [List.getD_eq_getElem?_getD, List.getElem?_eq_getElem il]
      exact List.getElem_mem _
    · obtain ⟨j, hj⟩ := List.getElem?_of_mem hy
      have jl := (List.getElem?_eq_some_iff.mp hj).1
      have := h2 j (by omega)
      rw [show ns.getD j 0 = y by rw [List.getD_eq_getElem?_getD, hj]; rfl] at this
      exact this
theorem cr_minDf (K : PySem.W.Frag) (hk : X.K = K) (hc : X.calm = true) : CallRK X (.builtin "min") ["default"] (rMinDf K) := by
  subst hk
  intro pins s σ H xs zs us ws Q I r r2 h
  obtain ⟨a, ns, d, rfl, rfl, hs, q0, q1⟩ := h
  obtain ⟨its, rv, hl, _⟩ := I.list hs
  rw [Vals.ref1 r]
  obtain ⟨dv, rfl, rd⟩ := vals1 r2
  have hh := I.ok.hd hc
  have ln : its.length = ns.length := by rw [← rv.length, List.length_map]
  show wpAny _ _ (call (.builtin "min") [.ref a] [(Str.ofString "default", dv)]) _ _ s
  refine PySem.call_min_walkD (PySem.W.iter_listW (A := X.A.in1) hh hl.isList fun s₂ e W st hfp hw hk => ?_)
  refine ⟨_, _, _, _, _, _, _, s.heap, (fun i j => decide (ns.getD i 0 < ns.getD j 0)), rfl, W, st, hfp, hw, hk, fun hz s' m => ?_, fun hp => ⟨fun i j vi vj s3 Q3 E3 _ p1 p2 q3 => ?_, fun v s' hP m => ?_⟩⟩
  · obtain ⟨h', tk, rfl, hk'⟩ := PySem.W.moved_old e rfl m
    refine ⟨d, H, I.kept hk', rd, q0 ?_⟩
    exact List.eq_nil_of_length_eq_zero (by have : its.toArray.size = 0 := hz; rw [List.size_toArray] at this; omega)
  · exact (CmpOf.ints_lt (fun i => ns.getD i 0) (ints_val rv)) i j vi vj s3 Q3 E3 p1 p2 q3
  · obtain ⟨h', tk, rfl, hk'⟩ := PySem.W.moved_old e rfl m
    have hp : 0 < its.length := by have : 0 < its.toArray.size := hp; rw [List.size_toArray] at this; exact this
    have hsz : its.toArray.size = its.length := List.size_toArray
    obtain ⟨t, rfl⟩ := ints_val rv _ v hP
    obtain ⟨h1, h2⟩ := argBest_lt (fun i => ns.getD i 0) (its.toArray.size - 1)
    refine ⟨.int _, H, I.kept hk', ⟨_, rfl⟩, q1 _ ?_ fun y hy => ?_⟩
    · have il : argBest (fun i j => decide (ns.getD i 0 < ns.getD j 0)) (its.toArray.size - 1) < ns.length := by omega
      rw [List.getD_eq_getElem?_getD, List.getElem?_eq_getElem il]
      exact List.getElem_mem _
    · obtain ⟨j, hj⟩ := List.getElem?_of_mem hy
      have jl := (List.getElem?_eq_some_iff.mp hj).1
      have := h2 j (by omega)
      rw [show ns.getD j 0 = y by rw [List.getD_eq_getElem?_getD, hj]; rfl] at this
      exact this
end
/-! ### two things alike (found == due, by kinds, as deep as need be) -/
def Lf (v : V) : Prop := (∃ a : Int, v = .int a) ∨ (∃ s : Str, v = .str s ∧ PyData.canLay0 (.str s) = true) ∨ (∃ b : Bool, v = .bl b) ∨ v = .non
def Al : Nat → Hp → V → V → Prop
  | 0, _, _, _ => False
  | n + 1, H, v, u => (Lf v ∧ v = u) ∨ ∃ (p q : Addr) (xs ys : List V), v = .ref p ∧ u = .ref q ∧ ((H p = some (.lst xs) ∧ H q = some (.lst ys)) ∨ (H p = some (.tup xs) ∧ H q = some (.tup ys))) ∧ xs.length ≤ 400 ∧ All2 (Al n H) xs ys
theorem Al.same {H H' : Hp} (s : Same H H') : ∀ {n : Nat} {v u : V}, Al n H v u → Al n H' v u
  | 0, _, _, h => h
  | n + 1, _, _, .inl h => .inl h
  | n + 1, _, _, .inr h => by
    obtain ⟨p, q, xs, ys, e1, e2, e3, e4, e5⟩ := h
    exact .inr ⟨p, q, xs, ys, e1, e2, e3.imp (fun z => ⟨s _ _ z.1, s _ _ z.2⟩) (fun z => ⟨s _ _ z.1, s _ _ z.2⟩), e4, e5.imp fun _ _ z => Al.same s z⟩
theorem Al.int {n : Nat} {H : Hp} {a : Int} : Al (n + 1) H (.int a) (.int a) := .inl ⟨.inl ⟨a, rfl⟩, rfl⟩
theorem Al.str {n : Nat} {H : Hp} {s : Str} (h : PyData.canLay0 (.str s) = true) : Al (n + 1) H (.str s) (.str s) := .inl ⟨.inr (.inl ⟨s, rfl, h⟩), rfl⟩
theorem Al.bl {n : Nat} {H : Hp} {b : Bool} : Al (n + 1) H (.bl b) (.bl b) := .inl ⟨.inr (.inr (.inl ⟨b, rfl⟩)), rfl⟩
theorem Al.non {n : Nat} {H : Hp} : Al (n + 1) H .non .non := .inl ⟨.inr (.inr (.inr rfl)), rfl⟩
theorem Al.ints {n : Nat} {H : Hp} : ∀ m : List Int, All2 (Al (n + 1) H) (m.map V.int) (m.map V.int)
  | [] => .nil
  | _ :: m => .cons .int (Al.ints m)
theorem Al.tup {n : Nat} {H : Hp} {p q : Addr} {xs ys : List V} (h1 : H p = some (.tup xs)) (h2 : H q = some (.tup ys)) (l : xs.length ≤ 400) (a : All2 (Al n H) xs ys) : Al (n + 1) H (.ref p) (.ref q) := .inr ⟨p, q, xs, ys, rfl, rfl, .inr ⟨h1, h2⟩, l, a⟩
theorem Al.lst {n : Nat} {H : Hp} {p q : Addr} {xs ys : List V} (h1 : H p = some (.lst xs)) (h2 : H q = some (.lst ys)) (l : xs.length ≤ 400) (a : All2 (Al n H) xs ys) : Al (n + 1) H (.ref p) (.ref q) := .inr ⟨p, q, xs, ys, rfl, rfl, .inl ⟨h1, h2⟩, l, a⟩
def spA (n : Nat) : Sp := fun vs H Q _ => ∃ v u : V, vs = [v, u] ∧ Al n H v u ∧ ∀ H', Same H H' → Q (.bl true) H'
theorem kit_lst {K : PySem.W.Frag} : PySem.W.kitAny K (.type "list") [.type "list", .type "tuple"] = some true := by
  unfold PySem.W.kitAny
  rw [kit_ty (show kitB "list" "list" = some true by decide +kernel)]
theorem kit_tup {K : PySem.W.Frag} : PySem.W.kitAny K (.type "tuple") [.type "list", .type "tuple"] = some true := by
  unfold PySem.W.kitAny
  rw [kit_ty (show kitB "tuple" "list" = some false by decide +kernel)]
  unfold PySem.W.kitAny
  rw [kit_ty (show kitB "tuple" "tuple" = some true by decide +kernel)]
theorem kit_int {K : PySem.W.Frag} : PySem.W.kitAny K (.type "int") [.type "list", .type "tuple"] = some false := by
  unfold PySem.W.kitAny
  rw [kit_ty (show kitB "int" "list" = some false by decide +kernel)]
  unfold PySem.W.kitAny
  rw [kit_ty (show kitB "int" "tuple" = some false by decide +kernel)]
  rfl
theorem or_zip {K : PySem.W.Frag} {ta : TA} {σ : L2.St} {H : Hp} {R : It → Hp → Prop} {p q : Addr} {xs ys : List V} (ht : ∀ Q : List V → Hp → Prop, Q [.ref p, .ref q] H → ta σ H Q) (h : (H p = some (.lst xs) ∧ H q = some (.lst ys)) ∨ (H p = some (.tup xs) ∧ H q = some (.tup ys))) (hl : xs.length = ys.length)
    (k : ∀ J : It, (∀ i H', (H' p = H p ∧ H' q = H q) → i < xs.length → J.go i H') → (∀ H', (H' p = H p ∧ H' q = H q) → J.stop xs.length H') → (∀ i H' v H'', (H' p = H p ∧ H' q = H q) → J.yld i H' v H'' → ∃ T x y, v = .ref T ∧ H' T = none ∧ H'' = upd H' T (.tup [x, y]) ∧ xs[i]? = some x ∧ ys[i]? = some y) → R J H) :
    RZ.iZipA K ta σ H R := by
  rcases h with ⟨e1, e2⟩ | ⟨e1, e2⟩
  · refine ht _ ⟨p, q, xs, ys, rfl, .inl ⟨SqL.of e1, SqL.of e2, k _ (fun i H' st hi => ?_) (fun H' st => ?_) fun i H' v H'' st y => ?_⟩⟩
    · exact ⟨xs, ys, _, _, SqL.of (st.1.trans e1), SqL.of (st.2.trans e2), List.getElem?_eq_getElem hi, List.getElem?_eq_getElem (by omega)⟩
    · exact ⟨xs, ys, SqL.of (st.1.trans e1), SqL.of (st.2.trans e2), .inl (Nat.le_refl _)⟩
    · obtain ⟨T, x, z, q1, q2, q3, q4, q5⟩ := y
      exact ⟨T, x, z, q1, q2, q3, q4 _ (SqL.of (st.1.trans e1)), q5 _ (SqL.of (st.2.trans e2))⟩
  · refine ht _ ⟨p, q, xs, ys, rfl, .inr ⟨SqT.of e1, SqT.of e2, k _ (fun i H' st hi => ?_) (fun H' st => ?_) fun i H' v H'' st y => ?_⟩⟩
    · exact ⟨xs, ys, _, _, SqT.of (st.1.trans e1), SqT.of (st.2.trans e2), List.getElem?_eq_getElem hi, List.getElem?_eq_getElem (by omega)⟩
    · exact ⟨xs, ys, SqT.of (st.1.trans e1), SqT.of (st.2.trans e2), .inl (Nat.le_refl _)⟩
    · obtain ⟨T, x, z, q1, q2, q3, q4, q5⟩ := y
      exact ⟨T, x, z, q1, q2, q3, q4 _ (SqT.of (st.1.trans e1)), q5 _ (SqT.of (st.2.trans e2))⟩
theorem kit_str {K : PySem.W.Frag} : PySem.W.kitAny K (.type "str") [.type "list", .type "tuple"] = some false := by
  unfold PySem.W.kitAny
  rw [kit_ty (show kitB "str" "list" = some false by decide +kernel)]
  unfold PySem.W.kitAny
  rw [kit_ty (show kitB "str" "tuple" = some false by decide +kernel)]
  rfl
theorem kit_non {K : PySem.W.Frag} : PySem.W.kitAny K (.type "NoneType") [.type "list", .type "tuple"] = some false := by
  unfold PySem.W.kitAny
  rw [kit_ty (show kitB "NoneType" "list" = some false by decide +kernel)]
  unfold PySem.W.kitAny
  rw [kit_ty (show kitB "NoneType" "tuple" = some false by decide +kernel)]
  rfl
theorem kit_bool {K : PySem.W.Frag} : PySem.W.kitAny K (.type "bool") [.type "list", .type "tuple"] = some false := by
  unfold PySem.W.kitAny
  rw [kit_ty (show kitB "bool" "list" = some false by decide +kernel)]
  unfold PySem.W.kitAny
  rw [kit_ty (show kitB "bool" "tuple" = some false by decide +kernel)]
  rfl
section
variable {P : Program} {w : World} {K : PySem.W.Frag} {mg : Str → Option Value} {base : Heap}
theorem alike_step (T : Top K mg) (n : Nat) (below : ∀ (f : Addr) (fd : FuncData), Fun K "_law_alike" "_law_alike" s_law_alike f fd → FnOk P w K mg base CX0 n f fd ["_law_found", "_law_due"] (spA n)) {f : Addr} {fd : FuncData} (F : Fun K "_law_alike" "_law_alike" s_law_alike f fd) :
    FnOk P w K mg base CX0 (n + 1) f fd ["_law_found", "_law_due"] (spA (n + 1)) := by
  obtain ⟨f_law_alike, fd_law_alike, F_law_alike, b_law_alike, m_law_alike⟩ := T.d_law_alike
  have G_law_alike := below f_law_alike fd_law_alike F_law_alike
  refine F.ok sc_law_alike (fun vs H Q E h => ?_) (fun cdv A outer s H vs Q E hr h => ?_)
  · obtain ⟨v, u, rfl, _⟩ := h
    rfl
  obtain ⟨v, u, rfl, al, q⟩ := h
  refine ⟨_, (pss_cons (ps_if (pt_val (pe_callB (call_isiTK K rfl) (by rfl) T.m_isinstance (by decide +kernel) (pa_cons (pv 1) (pa_cons (pe_tup (pa_cons (pe_bltn (v := .ty "list") (by rfl) T.m_list (by decide +kernel) rfl) (pa_cons (pe_bltn (v := .ty "tuple") (by rfl) T.m_tuple (by decide +kernel) rfl) pa_nil))) pa_nil)))) (pss_cons (ps_if (PW.pt (pw_or (pt_cmpR op_ne (pe_callB (call_isiKK K rfl) (by rfl) T.m_isinstance (by decide +kernel) (pa_cons (pv 0) (pa_cons (pe_bltn (v := .ty "list") (by rfl) T.m_list (by decide +kernel) rfl) pa_nil))) (pe_callB (call_isiKK K rfl) (by rfl) T.m_isinstance (by decide +kernel) (pa_cons (pv 1) (pa_cons (pe_bltn (v := .ty "list") (by rfl) T.m_list (by decide +kernel) rfl) pa_nil))) (nomark _)) (pw_or1 (pt_cmpR op_ne (pe_callB (call_isiKK K rfl) (by rfl) T.m_isinstance (by decide +kernel) (pa_cons (pv 0) (pa_cons (pe_bltn (v := .ty "tuple") (by rfl) T.m_tuple (by decide +kernel) rfl) pa_nil))) (pe_callB (call_isiKK K rfl) (by rfl) T.m_isinstance (by decide +kernel) (pa_cons (pv 1) (pa_cons (pe_bltn (v := .ty "tuple") (by rfl) T.m_tuple (by decide +kernel) rfl) pa_nil))) (nomark _))))) (pss_one (ps_ret pe_bl)) pss_nil)
      (pss_one (ps_ret (pe_and (pe_cmpR op_eq (pe_callB (call_len_seqK K rfl) (by rfl) T.m_len (by decide +kernel) (pa_cons (pv 0) pa_nil)) (pe_callB (call_len_seqK K rfl) (by rfl) T.m_len (by decide +kernel) (pa_cons (pv 1) pa_nil)) (nomark _)) (pe_one (pe_callB (cr_allK K rfl rfl) (by rfl) T.m_all (by decide +kernel) (pa_cons (pe_lc (own := [("_law_one", 2), ("_law_other", 3)]) (g := gTup K 2 (gCons (gName 2) (gCons (gName 3) gNil))) (tt := tYes) (by rfl) sc_law_alike.nd (pi_zipAK K rfl (by rfl) T.m_zip (pa_cons (pv 0) (pa_cons (pv 1) pa_nil))) (blkOk_by (own := [("_law_one", 2), ("_law_other", 3)]) (N := N_law_alike) (sc := defScope s_law_alike) (by decide +kernel)) (fun _ _ _ _ _ => (pg_tupK K rfl rfl (pgs_cons (pg_name (i := 2) sc_law_alike.nd rfl (Or.inl rfl)) (pgs_cons (pg_name (i := 3) sc_law_alike.nd rfl (Or.inl rfl)) pgs_nil)))) (fun _ _ _ _ _ => pts_nil) (fun _ _ _ _ _ => (pe_call G_law_alike (hr.mono (Nat.le_refl _)) (by rfl) m_law_alike F_law_alike.kp b_law_alike .nil pass0 (pa_cons (pv 2) (pa_cons (pv 3) pa_nil))))) pa_nil))))))) pss_nil)
      (pss_one (ps_ret (pe_and (pe_cmpR op_eq (pe_callB (call_isiKK K rfl) (by rfl) T.m_isinstance (by decide +kernel) (pa_cons (pv 0) (pa_cons (pe_bltn (v := .ty "bool") (by rfl) T.m_bool (by decide +kernel) rfl) pa_nil))) (pe_callB (call_isiKK K rfl) (by rfl) T.m_isinstance (by decide +kernel) (pa_cons (pv 1) (pa_cons (pe_bltn (v := .ty "bool") (by rfl) T.m_bool (by decide +kernel) rfl) pa_nil))) (nomark _)) (pe_one (pe_cmpR (op_eqDK K rfl hr.units) (pv 0) (pv 1) (nomark _))))))), ?_⟩
  refine ⟨_, rfl, (by show 2 ≤ sizeLine; decide), fun tp ntp => ?_⟩
  rcases al with ⟨lf, rfl⟩ | ⟨p, q2, xs, ys, rfl, rfl, kinds, few, al⟩
  · rcases lf with ⟨a, rfl⟩ | ⟨a, rfl, lay⟩ | ⟨a, rfl⟩ | rfl
    · refine ⟨_, tp, _, _, _, false, rfl, upd_same, .cons (.ty "list") (.cons (.ty "tuple") .nil), .base (.int _), kit_int, _, rfl, if_bl (fun z => nomatch z) (fun _ => ?_)⟩
      refine ⟨_, rfl, _, _, _, _, false, rfl, .ty "bool", .base (.int _), kit_ty (by decide +kernel), _, rfl, _, _, _, _, false, rfl, .ty "bool", .base (.int _), kit_ty (by decide +kernel), rfl, _, rfl, if_bl (fun _ => ?_) (fun z => nomatch z)⟩
      refine ⟨_, rfl, _, rfl, _, _, .int a, .int a, rfl, rfl, ?_⟩
      rw [show PyData.eqv (.int a) (.int a) = true by simp [PyData.eqv]]
      exact q _ (same_new ntp)
    · refine ⟨_, tp, _, _, _, false, rfl, upd_same, .cons (.ty "list") (.cons (.ty "tuple") .nil), .base (.str _), kit_str, _, rfl, if_bl (fun z => nomatch z) (fun _ => ?_)⟩
      refine ⟨_, rfl, _, _, _, _, false, rfl, .ty "bool", .base (.str _), kit_ty (by decide +kernel), _, rfl, _, _, _, _, false, rfl, .ty "bool", .base (.str _), kit_ty (by decide +kernel), rfl, _, rfl, if_bl (fun _ => ?_) (fun z => nomatch z)⟩
      have sh : SeqAt.shaped (.str a) = true := by
        unfold SeqAt.shaped
        rw [lay]
        rfl
      refine ⟨_, rfl, _, rfl, _, _, .str a, .str a, sh, sh, ?_⟩
      rw [show PyData.eqv (.str a) (.str a) = true by simp [PyData.eqv]]
      exact q _ (same_new ntp)
    · refine ⟨_, tp, _, _, _, false, rfl, upd_same, .cons (.ty "list") (.cons (.ty "tuple") .nil), .base (.bl _), kit_bool, _, rfl, if_bl (fun z => nomatch z) (fun _ => ?_)⟩
      refine ⟨_, rfl, _, _, _, _, true, rfl, .ty "bool", .base (.bl _), kit_ty (by decide +kernel), _, rfl, _, _, _, _, true, rfl, .ty "bool", .base (.bl _), kit_ty (by decide +kernel), rfl, _, rfl, if_bl (fun _ => ?_) (fun z => nomatch z)⟩
      refine ⟨_, rfl, _, rfl, _, _, .bl a, .bl a, rfl, rfl, ?_⟩
      rw [show PyData.eqv (.bool a) (.bool a) = true by simp [PyData.eqv]]
      exact q _ (same_new ntp)
    · refine ⟨_, tp, _, _, _, false, rfl, upd_same, .cons (.ty "list") (.cons (.ty "tuple") .nil), .base .non, kit_non, _, rfl, if_bl (fun z => nomatch z) (fun _ => ?_)⟩
      refine ⟨_, rfl, _, _, _, _, false, rfl, .ty "bool", .base .non, kit_ty (by decide +kernel), _, rfl, _, _, _, _, false, rfl, .ty "bool", .base .non, kit_ty (by decide +kernel), rfl, _, rfl, if_bl (fun _ => ?_) (fun z => nomatch z)⟩
      refine ⟨_, rfl, _, rfl, _, _, .non, .non, rfl, rfl, ?_⟩
      rw [show PyData.eqv .none .none = true by simp [PyData.eqv]]
      exact q _ (same_new ntp)
  rcases kinds with ⟨hp, hq⟩ | ⟨hp, hq⟩
  · have hp1 := same_new (o := .tup [V.ty "list", V.ty "tuple"]) ntp _ _ hp
    have hq1 := same_new (o := .tup [V.ty "list", V.ty "tuple"]) ntp _ _ hq
    refine ⟨_, tp, _, _, _, true, rfl, upd_same, .cons (.ty "list") (.cons (.ty "tuple") .nil), .base (.lst hq1), kit_lst, _, rfl, if_bl (fun _ => ?_) (fun z => nomatch z)⟩
    refine ⟨_, rfl, _, _, _, _, true, rfl, .ty "list", .base (.lst hp1), kit_ty (by decide +kernel), _, rfl, _, _, _, _, true, rfl, .ty "list", .base (.lst hq1), kit_ty (by decide +kernel), rfl, _, rfl, if_bl (fun z => nomatch z) (fun _ => ?_)⟩
    refine ⟨_, rfl, _, _, _, _, false, rfl, .ty "tuple", .base (.lst hp1), kit_ty (by decide +kernel), _, rfl, _, _, _, _, false, rfl, .ty "tuple", .base (.lst hq1), kit_ty (by decide +kernel), rfl, _, rfl, if_bl (fun z => nomatch z) (fun _ => ?_)⟩
    refine ⟨_, rfl, p, _, rfl, .inl (SqL.of hp1), _, rfl, q2, _, rfl, .inl (SqL.of hq1), rfl, _, rfl, if_bl (fun _ => ?_) (fun z => ?_)⟩
    case refine_2 =>
      rw [al.length, decide_eq_true rfl] at z
      cases z
    dsimp only [tNext, tRet, tCB, tCons, tLc]
    refine or_zip (p := p) (q := q2) (xs := xs) (ys := ys) (fun Q q => ⟨_, rfl, _, rfl, q⟩) (.inl ⟨hp1, hq1⟩) al.length (fun J gj sj yj D nD => lc_it (J := J) (n := xs.length) (fun i H5 => H5 D = some (.lst ((List.replicate i true).map V.bl)) ∧ Same (upd H tp (.tup [V.ty "list", V.ty "tuple"])) H5) ⟨upd_same, same_new nD⟩ ?_ ?_ ?_ ?_)
    · rintro i H5 hi ⟨hD, s5⟩
      exact gj i H5 ⟨(s5 _ _ hp1).trans hp1.symm, (s5 _ _ hq1).trans hq1.symm⟩ hi
    · rintro H5 ⟨hD, s5⟩
      exact sj H5 ⟨(s5 _ _ hp1).trans hp1.symm, (s5 _ _ hq1).trans hq1.symm⟩
    · rintro i v H5 H6 hi ⟨hD, s5⟩ y
      obtain ⟨t, x, z, rfl, nt, rfl, ex, ez⟩ := yj i H5 v H6 ⟨(s5 _ _ hp1).trans hp1.symm, (s5 _ _ hq1).trans hq1.symm⟩ y
      obtain ⟨z', ez', ha⟩ := al.getL ex
      rw [ez] at ez'
      cases ez'
      have s6 := s5.trans (same_new (o := .tup [x, z]) nt)
      refine ⟨t, _, rfl, SqT.of upd_same, rfl, _, _, rfl, _, _, rfl, rfl, rfl, yes_in ⟨_, rfl, _, rfl, x, z, rfl, ha.same ((same_new ntp).trans s6), fun H7 s7 => ⟨_, s7 _ _ (same_new nt _ _ hD), ?_, ?_, Same.own (s6.trans s7) nD⟩⟩⟩
      · rw [List.length_map, List.length_replicate]; exact small1000 (by omega)
      · rw [upd_same, List.replicate_succ', List.map_append]; rfl
    · rintro H5 ⟨hD, s5⟩
      refine ⟨D, _, rfl, SqL.of hD, ?_⟩
      rw [show (List.replicate xs.length true).all id = true by simp]
      exact q _ ((same_new ntp).trans s5)
  · have hp1 := same_new (o := .tup [V.ty "list", V.ty "tuple"]) ntp _ _ hp
    have hq1 := same_new (o := .tup [V.ty "list", V.ty "tuple"]) ntp _ _ hq
    refine ⟨_, tp, _, _, _, true, rfl, upd_same, .cons (.ty "list") (.cons (.ty "tuple") .nil), .base (.tup hq1), kit_tup, _, rfl, if_bl (fun _ => ?_) (fun z => nomatch z)⟩
    refine ⟨_, rfl, _, _, _, _, false, rfl, .ty "list", .base (.tup hp1), kit_ty (by decide +kernel), _, rfl, _, _, _, _, false, rfl, .ty "list", .base (.tup hq1), kit_ty (by decide +kernel), rfl, _, rfl, if_bl (fun z => nomatch z) (fun _ => ?_)⟩
    refine ⟨_, rfl, _, _, _, _, true, rfl, .ty "tuple", .base (.tup hp1), kit_ty (by decide +kernel), _, rfl, _, _, _, _, true, rfl, .ty "tuple", .base (.tup hq1), kit_ty (by decide +kernel), rfl, _, rfl, if_bl (fun z => nomatch z) (fun _ => ?_)⟩
    refine ⟨_, rfl, p, _, rfl, .inr (SqT.of hp1), _, rfl, q2, _, rfl, .inr (SqT.of hq1), rfl, _, rfl, if_bl (fun _ => ?_) (fun z => ?_)⟩
    case refine_2 =>
      rw [al.length, decide_eq_true rfl] at z
      cases z
    dsimp only [tNext, tRet, tCB, tCons, tLc]
    refine or_zip (p := p) (q := q2) (xs := xs) (ys := ys) (fun Q q => ⟨_, rfl, _, rfl, q⟩) (.inr ⟨hp1, hq1⟩) al.length (fun J gj sj yj D nD => lc_it (J := J) (n := xs.length) (fun i H5 => H5 D = some (.lst ((List.replicate i true).map V.bl)) ∧ Same (upd H tp (.tup [V.ty "list", V.ty "tuple"])) H5) ⟨upd_same, same_new nD⟩ ?_ ?_ ?_ ?_)
    · rintro i H5 hi ⟨hD, s5⟩
      exact gj i H5 ⟨(s5 _ _ hp1).trans hp1.symm, (s5 _ _ hq1).trans hq1.symm⟩ hi
    · rintro H5 ⟨hD, s5⟩
      exact sj H5 ⟨(s5 _ _ hp1).trans hp1.symm, (s5 _ _ hq1).trans hq1.symm⟩
    · rintro i v H5 H6 hi ⟨hD, s5⟩ y
      obtain ⟨t, x, z, rfl, nt, rfl, ex, ez⟩ := yj i H5 v H6 ⟨(s5 _ _ hp1).trans hp1.symm, (s5 _ _ hq1).trans hq1.symm⟩ y
      obtain ⟨z', ez', ha⟩ := al.getL ex
      rw [ez] at ez'
      cases ez'
      have s6 := s5.trans (same_new (o := .tup [x, z]) nt)
      refine ⟨t, _, rfl, SqT.of upd_same, rfl, _, _, rfl, _, _, rfl, rfl, rfl, yes_in ⟨_, rfl, _, rfl, x, z, rfl, ha.same ((same_new ntp).trans s6), fun H7 s7 => ⟨_, s7 _ _ (same_new nt _ _ hD), ?_, ?_, Same.own (s6.trans s7) nD⟩⟩⟩
      · rw [List.length_map, List.length_replicate]; exact small1000 (by omega)
      · rw [upd_same, List.replicate_succ', List.map_append]; rfl
    · rintro H5 ⟨hD, s5⟩
      refine ⟨D, _, rfl, SqL.of hD, ?_⟩
      rw [show (List.replicate xs.length true).all id = true by simp]
      exact q _ ((same_new ntp).trans s5)
theorem ok_alike (T : Top K mg) : ∀ (n : Nat) (f : Addr) (fd : FuncData), Fun K "_law_alike" "_law_alike" s_law_alike f fd → FnOk P w K mg base CX0 n f fd ["_law_found", "_law_due"] (spA n)
  | 0, _, _, _ => ⟨fun _ _ _ _ ⟨_, _, _, h, _⟩ => h.elim, fun _ _ _ _ _ _ _ _ _ _ _ _ _ ⟨_, _, _, h, _⟩ => h.elim⟩
  | n + 1, _, _, F => alike_step T n (ok_alike T n) F
abbrev sp_law_alike (K : PySem.W.Frag) : Sp := spA 6
theorem ok_law_alike {f : Addr} {fd : FuncData} (F : Fun K "_law_alike" "_law_alike" s_law_alike f fd) (T : Top K mg) : FnOk P w K mg base CX0 6 f fd ["_law_found", "_law_due"] (sp_law_alike K) := ok_alike T 6 f fd F
end
/-! ### a room of doors alone -/
def insOf (ss : List Str) : List Nat := (List.range ss.length).filter fun j => decide (ss[j]? = some ("in" : Str))
theorem ins_mem {ss : List Str} {k : Nat} (h : k ∈ insOf ss) : ss[k]? = some ("in" : Str) := of_decide_eq_true (List.mem_filter.mp h).2
theorem ins_len {ss : List Str} : (insOf ss).length = ss.count ("in" : Str) := by
  unfold insOf
  have : ∀ n, n ≤ ss.length → ((List.range n).filter fun j => decide (ss[j]? = some ("in" : Str))).length = (ss.take n).count ("in" : Str) := by
    intro n
    induction n with
    | zero => intro _; rfl
    | succ n ih =>
      intro h
      have e : ss[n]? = some ss[n] := List.getElem?_eq_getElem (by omega)
      rw [filt_succ, List.length_append, ih (by omega), List.take_add_one, e, List.count_append]
      by_cases c : ss[n] = "in"
      · rw [if_pos (decide_eq_true (by rw [c]))]
        simp [c]
      · rw [if_neg (by simpa using c)]
        simp [c]
  rw [this _ (Nat.le_refl _), List.take_length]
abbrev doorH (s : Str) : HR := ⟨s, none, 0⟩
theorem door_good {s : Str} (h : s = "in" ∨ s = "out") : GoodHand (doorH s) := ⟨.inr ⟨h, rfl⟩, (show (0 : Int) ≤ 0 by decide), (show (0 : Int) ≤ 30 by decide)⟩
theorem in_out : ("in" : Str) ≠ "out" := by decide +kernel
/-- the belts of a room of doors, as far as hand i -/
structure DB (ss : List Str) (i : Nat) (bs : List BR) : Prop where
  one : ∀ b ∈ bs, ss[b.one]? = some ("in" : Str)
  to : ∀ b ∈ bs, ss[b.to]? = some ("out" : Str) ∧ b.to < i
  th : ∀ b ∈ bs, b.th.length ≤ 6 ∧ ∀ x ∈ b.th, Small x
  cnt : ∀ k, k < i → (bs.map BR.to).count k = if ss[k]? = some ("out" : Str) then 1 else 0
  len : bs.length ≤ i
theorem DB.nil {ss : List Str} : DB ss 0 [] := ⟨(fun _ z => nomatch z), (fun _ z => nomatch z), (fun _ z => nomatch z), fun k h => absurd h (Nat.not_lt_zero _), Nat.le_refl _⟩
theorem DB.none {ss : List Str} {i : Nat} {bs : List BR} (d : DB ss i bs) {k : Nat} (h : i ≤ k) : (bs.map BR.to).count k = 0 := by
  refine List.count_eq_zero.mpr fun hk => ?_
  obtain ⟨b, hb, e⟩ := List.mem_map.mp hk
  have := (d.to b hb).2
  omega
theorem DB.skip {ss : List Str} {i : Nat} {bs : List BR} (d : DB ss i bs) (h : ss[i]? ≠ some ("out" : Str)) : DB ss (i + 1) bs := by
  refine ⟨d.one, fun b hb => ⟨(d.to b hb).1, Nat.lt_succ_of_lt (d.to b hb).2⟩, d.th, fun k hk => ?_, Nat.le_succ_of_le d.len⟩
  by_cases e : k = i
  · subst e
    rw [d.none (Nat.le_refl _), if_neg h]
  · exact d.cnt k (by omega)
theorem DB.more {ss : List Str} {i : Nat} {bs : List BR} (d : DB ss i bs) (h : ss[i]? = some ("out" : Str)) {g : Nat} {th : List Int} (hg : ss[g]? = some ("in" : Str)) (ht : th.length ≤ 6 ∧ ∀ x ∈ th, Small x) : DB ss (i + 1) (bs ++ [⟨g, i, th⟩]) := by
  refine ⟨fun b hb => ?_, fun b hb => ?_, fun b hb => ?_, fun k hk => ?_, by rw [List.length_append]; exact Nat.succ_le_succ d.len⟩
  · rcases List.mem_append.mp hb with hb | hb
    · exact d.one b hb
    · obtain rfl : b = _ := by simpa using hb
      exact hg
  · rcases List.mem_append.mp hb with hb | hb
    · exact ⟨(d.to b hb).1, Nat.lt_succ_of_lt (d.to b hb).2⟩
    · obtain rfl : b = _ := by simpa using hb
      exact ⟨h, Nat.lt_succ_self _⟩
  · rcases List.mem_append.mp hb with hb | hb
    · exact d.th b hb
    · obtain rfl : b = _ := by simpa using hb
      exact ht
  · rw [List.map_append, List.count_append]
    by_cases e : k = i
    · subst e
      rw [d.none (Nat.le_refl _), if_pos h]
      simp
    · rw [d.cnt k (by omega)]
      have : ([(⟨g, i, th⟩ : BR)].map BR.to).count k = 0 := by
        refine List.count_eq_zero.mpr fun z => ?_
        have : k = i := by simpa using z
        exact e this
      rw [this, Nat.add_zero]
theorem DB.ok {ss : List Str} {bs : List BR} (d : DB ss ss.length bs) (hs : ∀ s ∈ ss, s = "in" ∨ s = "out") (l : ss.length ≤ 6) : RoomOk (ss.map doorH) bs := by
  have at_ : ∀ k, (ss.map doorH)[k]? = (ss[k]?).map doorH := fun k => List.getElem?_map ..
  refine ⟨by rw [List.length_map]; omega, fun h hh => ?_, fun b hb => ?_, fun b hb h e => ?_, d.th, ⟨fun k => if ss[k]? = some ("in" : Str) then 0 else 1, fun b hb _ => ?_⟩, fun k h e => ?_, Nat.le_trans d.len (by omega)⟩
  · obtain ⟨s, hm, rfl⟩ := List.mem_map.mp hh
    exact door_good (hs s hm)
  · rw [List.length_map]
    exact ⟨(List.getElem?_eq_some_iff.mp (d.one b hb)).1, (List.getElem?_eq_some_iff.mp (d.to b hb).1).1⟩
  · rw [at_, d.one b hb] at e
    cases e
    exact in_out
  · show (if ss[b.one]? = some ("in" : Str) then (0 : Int) else 1) < (if ss[b.to]? = some ("in" : Str) then (0 : Int) else 1)
    rw [if_pos (d.one b hb), if_neg (by rw [(d.to b hb).1]; exact fun z => in_out (Option.some.inj z).symm)]
    decide
  · rw [at_] at e
    cases q : ss[k]? with
    | none => rw [q] at e; cases e
    | some s =>
      rw [q] at e
      cases e
      have kl := (List.getElem?_eq_some_iff.mp q).1
      rw [d.cnt k kl, q]
      rcases hs s (List.mem_of_getElem? q) with z | z <;> rw [z]
      · rw [if_neg fun z => in_out (Option.some.inj z)]
        decide +kernel
      · rw [if_pos rfl]
        decide +kernel
section
variable {P : Program} {w : World} {K : PySem.W.Frag} {mg : Str → Option Value} {base : Heap}
def sp_law_doors_room (K : PySem.W.Frag) : Sp := fun vs H Q _ => ∃ f c : Addr, vs = [.ref f] ∧ Flow H f c ∧ ∀ (r : Addr) (hs : List HR) (bs : List BR) (H' : Hp), RoomAt H' r hs bs → RoomOk hs bs → Flow H' f c → But f H H' → Q (.ref r) H'
theorem ok_law_doors_room {f : Addr} {fd : FuncData} (F : Fun K "_law_doors_room" "_law_doors_room" s_law_doors_room f fd) (T : Top K mg) : FnOk P w K mg base CX0 3 f fd ["_law_flow_here"] (sp_law_doors_room K) := by
  obtain ⟨f_law_pick, fd_law_pick, F_law_pick, b_law_pick, m_law_pick⟩ := T.d_law_pick
  have G_law_pick := ok_law_pick (P := P) (w := w) (base := base) F_law_pick T
  obtain ⟨f_law_shuffled, fd_law_shuffled, F_law_shuffled, b_law_shuffled, m_law_shuffled⟩ := T.d_law_shuffled
  have G_law_shuffled := ok_law_shuffled (P := P) (w := w) (base := base) F_law_shuffled T
  obtain ⟨f_law_thing, fd_law_thing, F_law_thing, b_law_thing, m_law_thing⟩ := T.d_law_thing
  have G_law_thing := ok_law_thing (P := P) (w := w) (base := base) F_law_thing T
  refine F.ok sc_law_doors_room (fun vs H Q E h => ?_) (fun cdv A outer s H vs Q E hr h => ?_)
  · obtain ⟨f, c, rfl, _⟩ := h
    rfl
  obtain ⟨f, c, rfl, hF, q⟩ := h
  let R1 : TS := fun D' σ' H' => D'.rt = Q ∧ ∃ (iv ov : Int) (sl : Addr) (ss : List Str), σ' = [some (.ref f), some (.int iv), some (.int ov), some (.ref sl), none, none, none, none, none, none] ∧ H' sl = some (.lst (ss.map V.str)) ∧ sl ≠ f ∧ ss.length ≤ 6 ∧ 0 ≤ iv ∧ iv ≤ 3 ∧ ss.count ("in" : Str) = iv.toNat ∧ (ss = [] ∨ 0 < iv) ∧ (∀ s ∈ ss, s = "in" ∨ s = "out") ∧ Flow H' f c ∧ But f H H'
  refine ⟨_, (pss_cons (ps_set (i := 1) sc_law_doors_room.nd rfl (Or.inl rfl) (pe_call G_law_pick (hr.mono (by decide)) (by rfl) m_law_pick F_law_pick.kp b_law_pick .nil pass0 (pa_cons (pv 0) (pa_cons pe_int pa_nil))))
      (pss_cons (ps_set (i := 2) sc_law_doors_room.nd rfl (Or.inl rfl) (pe_ix (ix_listK K rfl) (pe_lst (pa_cons pe_int (pa_cons (pe_op op_add pe_int (pe_call G_law_pick (hr.mono (by decide)) (by rfl) m_law_pick F_law_pick.kp b_law_pick .nil pass0 (pa_cons (pv 0) (pa_cons pe_int pa_nil)))) pa_nil))) (pe_callTy call_int1 (by rfl) T.m_int (by decide +kernel) (pa_cons (pe_cmpR op_gt (pv 1) pe_int (nomark _)) pa_nil)) (fun _ _ => rfl)))
      (pss_cons (ps_set (i := 3) sc_law_doors_room.nd rfl (Or.inl rfl) (pe_call G_law_shuffled (hr.mono (by decide)) (by rfl) m_law_shuffled F_law_shuffled.kp b_law_shuffled .nil pass0 (pa_cons (pv 0) (pa_cons (pe_op op_cat (pe_op op_rep (pe_lst (pa_cons pe_str pa_nil)) (pv 1)) (pe_op op_rep (pe_lst (pa_cons pe_str pa_nil)) (pv 2))) pa_nil))))
      (PSs.to (pss_cons (ps_setLc (i := 4) (own := [("_law_k", 5), ("_law_sort", 6)]) (g := gTup K 2 (gCons (gName 5) (gCons (gName 6) gNil))) (by rfl) sc_law_doors_room.nd rfl rfl (sw_true rfl rfl rfl (by decide +kernel)) (pi_enum (by rfl) T.m_enumerate (pa_cons (pv 3) pa_nil)) (blkOk_by (own := [("_law_k", 5), ("_law_sort", 6)]) (N := N_law_doors_room) (sc := defScope s_law_doors_room) (by decide +kernel)) (fun _ _ _ _ _ => (pg_tupK K rfl rfl (pgs_cons (pg_name (i := 5) sc_law_doors_room.nd rfl (Or.inl rfl)) (pgs_cons (pg_name (i := 6) sc_law_doors_room.nd rfl (Or.inl rfl)) pgs_nil)))) (fun _ _ _ _ _ => pts_one (pt_cmpR op_eq (pv 6) pe_str (nomark _))) (fun _ _ _ _ _ => (pv 5)))
      (pss_cons (ps_set (i := 7) sc_law_doors_room.nd rfl (Or.inl rfl) (pe_lst pa_nil))
      (pss_cons (ps_for PassesOwn.never rfl (pi_enum (by rfl) T.m_enumerate (pa_cons (pv 3) pa_nil)) (pg_tupK K rfl rfl (pgs_cons (pg_name (i := 5) sc_law_doors_room.nd rfl (Or.inl rfl)) (pgs_cons (pg_name (i := 6) sc_law_doors_room.nd rfl (Or.inl rfl)) pgs_nil)))
        (pss_one (ps_if (pt_cmpR op_eq (pv 6) pe_str (nomark _)) (pss_cons (ps_set (i := 8) sc_law_doors_room.nd rfl (Or.inl rfl) (pe_callTy (call_tuple_ofK K rfl) (by rfl) T.m_tuple (by decide +kernel) (pa_cons (pe_lc (own := [("_law_j", 9)]) (g := gName 9) (tt := tYes) (by rfl) sc_law_doors_room.nd (pi_range1 (by rfl) T.m_range (pa_cons (pe_call G_law_pick (hr.mono (by decide)) (by rfl) m_law_pick F_law_pick.kp b_law_pick .nil pass0 (pa_cons (pv 0) (pa_cons pe_int pa_nil))) pa_nil)) (blkOk_by (own := [("_law_j", 9)]) (N := N_law_doors_room) (sc := defScope s_law_doors_room) (by decide +kernel)) (fun _ _ _ _ _ => (pg_name (i := 9) sc_law_doors_room.nd rfl (Or.inl rfl))) (fun _ _ _ _ _ => pts_nil) (fun _ _ _ _ _ => (pe_call G_law_thing (hr.mono (by decide)) (by rfl) m_law_thing F_law_thing.kp b_law_thing .nil pass0 (pa_cons (pv 0) pa_nil)))) pa_nil)))
      (pss_one (ps_expr (pe_bmK K rfl PySem.F.plainAttrs_list PySem.F.slot_list_append PySem.F.type_list_append mt_append (pv 7) (pa_cons (pe_tup (pa_cons (pe_ix (ix_listK K rfl) (pv 4) (pe_call G_law_pick (hr.mono (by decide)) (by rfl) m_law_pick F_law_pick.kp b_law_pick .nil pass0 (pa_cons (pv 0) (pa_cons (pv 1) pa_nil))) (fun _ _ => rfl)) (pa_cons (pv 5) (pa_cons (pv 8) pa_nil)))) pa_nil))))) pss_nil)))
      (pss_one (ps_ret (pe_tup (pa_cons (pe_callTy (call_tuple_ofK K rfl) (by rfl) T.m_tuple (by decide +kernel) (pa_cons (pe_lc (own := [("_law_sort", 6)]) (g := gName 6) (tt := tYes) (by rfl) sc_law_doors_room.nd (pi_listK K rfl (pv 3)) (blkOk_by (own := [("_law_sort", 6)]) (N := N_law_doors_room) (sc := defScope s_law_doors_room) (by decide +kernel)) (fun _ _ _ _ _ => (pg_name (i := 6) sc_law_doors_room.nd rfl (Or.inl rfl))) (fun _ _ _ _ _ => pts_nil) (fun _ _ _ _ _ => (pe_tup (pa_cons (pe_tup (pa_cons (pv 6) pa_nil)) (pa_cons pe_int pa_nil))))) pa_nil)) (pa_cons (pe_callTy (call_tuple_ofK K rfl) (by rfl) T.m_tuple (by decide +kernel) (pa_cons (pv 7) pa_nil)) pa_nil)))))))) R1 ?tail1)))), ?_⟩
  case tail1 =>
    rintro D' σ' H1 ⟨eD, iv, ov, sl, ss, rfl, hsl, nsl, ls, i0, i3, ci, some_, hall, F1, B1⟩
    refine ⟨_, rfl, sl, _, rfl, SqL.of hsl, fun G nG => lc_it (n := ss.length) (fun i H5 => H5 G = some (.lst (((List.range i).filter fun j => decide (ss[j]? = some ("in" : Str))).map nV)) ∧ Same H1 H5) ⟨upd_same, same_new nG⟩ ?_ ?_ ?_ ?_⟩
    · rintro i H5 hi ⟨_, s5⟩
      exact ⟨_, _, SqL.of (s5 _ _ hsl), by rw [List.getElem?_map, List.getElem?_eq_getElem hi]; rfl⟩
    · rintro H5 ⟨_, s5⟩
      exact ⟨_, SqL.of (s5 _ _ hsl), by rw [List.length_map]; exact Nat.le_refl _⟩
    · rintro i x H5 H6 hi ⟨hG, s5⟩ ⟨t, y, rfl, nt, rfl, fy⟩
      obtain ⟨sd, ei⟩ : ∃ sd, ss[i]? = some sd := ⟨_, List.getElem?_eq_getElem hi⟩
      have ey : y = V.str sd := by
        have := fy _ (SqL.of (s5 _ _ hsl))
        rw [List.getElem?_map, ei] at this
        exact (Option.some.inj this).symm
      subst ey
      have hG6 := same_new (o := .tup [.int (i : Nat), V.str sd]) nt _ _ hG
      have few := filt_len (p := fun j => decide (ss[j]? = some ("in" : Str))) i
      refine ⟨t, _, rfl, SqT.of upd_same, rfl, _, _, rfl, _, _, rfl, rfl, rfl, _, rfl, rfl, _, rfl, if_str (fun e => ?_) (fun e => ?_)⟩
      · refine ⟨_, rfl, _, hG6, by rw [List.length_map]; exact small1000 (by omega), ?_, Same.own (s5.trans (same_new nt)) nG⟩
        rw [upd_same, filt_succ, if_pos (decide_eq_true (by rw [ei, e])), List.map_append]
        rfl
      · refine ⟨?_, s5.trans (same_new nt)⟩
        rw [filt_succ, if_neg (fun z => e (by have := of_decide_eq_true z; rw [ei] at this; exact Option.some.inj this)), List.append_nil]
        exact hG6
    · rintro H2 ⟨hG, s2⟩
      have hG : H2 G = some (.lst ((insOf ss).map nV)) := hG
      have F2 := F1.same s2
      have gf : G ≠ f := F1.ne nG
      refine ⟨(by show 0 ≤ sizeLine; decide), fun L nL => ?_⟩
      have lf : L ≠ f := F2.ne nL
      have lc : L ≠ c := F2.nec nL
      have ls_ : L ≠ sl := (ne_of_none (s2 _ _ hsl) nL).symm
      have lg : L ≠ G := (ne_of_none hG nL).symm
      refine ⟨_, rfl, sl, _, rfl, SqL.of (same_new nL _ _ (s2 _ _ hsl)), for_it (n := ss.length) (fun i σ H3 => ∃ (bv : List V) (bs : List BR) (v5 v6 v8 v9 : Option V), σ = [some (.ref f), some (.int iv), some (.int ov), some (.ref sl), some (.ref G), v5, v6, some (.ref L), v8, v9] ∧ H3 L = some (.lst bv) ∧ All2 (BeltAt H3) bv bs ∧ DB ss i bs ∧ H3 sl = some (.lst (ss.map V.str)) ∧ H3 G = some (.lst ((insOf ss).map nV)) ∧ Flow H3 f c ∧ But f H2 H3)
        ⟨[], [], _, _, _, _, rfl, upd_same, .nil, DB.nil, same_new nL _ _ (s2 _ _ hsl), same_new nL _ _ hG, F2.new nL, But.refl.new nL⟩ ?_ ?_ ?_ ?_⟩
      · rintro i σ H3 hi ⟨bv, bs, v5, v6, v8, v9, rfl, hL, al, db, hsl3, hG3, F3, B3⟩
        exact ⟨_, _, SqL.of hsl3, by rw [List.getElem?_map, List.getElem?_eq_getElem hi]; rfl⟩
      · rintro σ H3 ⟨bv, bs, v5, v6, v8, v9, rfl, hL, al, db, hsl3, hG3, F3, B3⟩
        exact ⟨_, SqL.of hsl3, by rw [List.length_map]; exact Nat.le_refl _⟩
      · rintro i x σ H3 H4 hi ⟨bv, bs, v5, v6, v8, v9, rfl, hL, al, db, hsl3, hG3, F3, B3⟩ ⟨t, y, rfl, nt, rfl, fy⟩
        obtain ⟨sd, ei⟩ : ∃ sd, ss[i]? = some sd := ⟨_, List.getElem?_eq_getElem hi⟩
        have ey : y = V.str sd := by
          have := fy _ (SqL.of hsl3)
          rw [List.getElem?_map, ei] at this
          exact (Option.some.inj this).symm
        subst ey
        have F4 := F3.new (o := .tup [.int (i : Nat), V.str sd]) nt
        have B4 := B3.new (o := .tup [.int (i : Nat), V.str sd]) nt
        have s4 := same_new (H := H3) (o := .tup [.int (i : Nat), V.str sd]) nt
        refine ⟨t, _, rfl, SqT.of upd_same, rfl, _, _, rfl, _, _, rfl, rfl, ?_⟩
        refine ⟨_, rfl, rfl, _, rfl, if_str (fun e => ?_) (fun e => ?_)⟩
        · refine ⟨_, rfl, f, c, 7, rfl, by decide, by decide +kernel, F4, fun tv H5 t0 t1 F5 B5 => ?_⟩
          refine ⟨_, rfl, by omega, by omega, fun M nM => lc_range (lo := 0) (n := tv.toNat) (fun j H6 => ∃ vs : List Int, vs.length = j ∧ H6 M = some (.lst (vs.map V.int)) ∧ (∀ y ∈ vs, Small y) ∧ Flow H6 f c ∧ But f H5 H6) ⟨[], rfl, upd_same, (fun _ z => nomatch z), F5.new nM, But.refl.new nM⟩ ?_ ?_⟩
          · rintro j H6 hj ⟨vs, lv, hM, sm, F6, B6⟩
            have mf : M ≠ f := F5.ne nM
            have mc : M ≠ c := F5.nec nM
            refine ⟨rfl, yes_in ⟨_, rfl, f, c, rfl, F6, fun y H7 sy F7 B7 => ⟨_, B7 _ _ hM mf, ?_, vs ++ [y], by rw [List.length_append, lv]; rfl, ?_, ?_, F7.lst mf mc, (B6.trans B7).own nM⟩⟩⟩
            · rw [List.length_map, lv]; exact small1000 (by omega)
            · rw [upd_same, List.map_append]; rfl
            · intro z hz
              rcases List.mem_append.mp hz with hz | hz
              · exact sm z hz
              · obtain rfl : z = y := by simpa using hz
                exact sy
          · rintro H6 ⟨vs, lv, hM, sm, F6, B6⟩
            refine ⟨M, _, rfl, .inl ⟨SqL.of hM, fun tp ntp => ?_⟩⟩
            have F7 := F6.new (o := .tup (vs.map V.int)) ntp
            have B7 : But f H3 (upd H6 tp (.tup (vs.map V.int))) := ((((But.of s4).trans B5).trans B6).new ntp)
            refine ⟨_, rfl, .inl ⟨rfl, _, SqL.of (B7 _ _ hL lf)⟩, _, rfl, _, rfl, _, rfl, f, c, iv, rfl, ?_, ?_, F7, fun gi H8 g0 g1 F8 B8 => ?_⟩
            · rcases some_ with z | z
              · rw [z] at hi; exact absurd hi (Nat.not_lt_zero _)
              · exact z
            · have : iv.natAbs.log2 ≤ iv.natAbs := Nat.log2_le_self _
              omega
            have gl : gi.toNat < (insOf ss).length := by rw [ins_len, ci]; omega
            obtain ⟨g, eg⟩ : ∃ g, (insOf ss)[gi.toNat]? = some g := ⟨_, List.getElem?_eq_getElem gl⟩
            have egi : atI ((insOf ss).map nV) gi = some (nV g) := by
              have : atI ((insOf ss).map nV) ((gi.toNat : Nat) : Int) = some (nV g) := atI_nat (by rw [List.getElem?_map, eg]; rfl)
              rwa [show ((gi.toNat : Nat) : Int) = gi by omega] at this
            have B38 := B7.trans B8
            refine ⟨G, _, _, _, rfl, rfl, SqL.of (B38 _ _ hG3 gf), egi, _, rfl, _, rfl, (by show 3 ≤ sizeLine; decide), fun bt nbt => ⟨L, _, _, rfl, rfl, same_new nbt _ _ (B38 _ _ hL lf), ?_, ?_⟩⟩
            · rw [al.length]
              have := db.len
              exact small1000 (by omega)
            have hL9 := same_new (o := .tup [nV g, .int (i : Nat), V.ref tp]) nbt _ _ (B38 _ _ hL lf)
            have k9 : TK H3 (upd H8 bt (.tup [nV g, .int (i : Nat), V.ref tp])) := (TK.but F3 B38).trans (TK.new nbt)
            refine ⟨bv ++ [.ref bt], bs ++ [⟨g, i, vs⟩], _, _, _, _, rfl, upd_same, ?_, db.more (by rw [ei, e]) (ins_mem (List.mem_of_getElem? eg)) ⟨by omega, sm⟩, ?_, ?_, (F8.new nbt).lst lf lc, ?_⟩
            · refine ((al.imp fun _ _ z => z.keep k9).snoc ⟨bt, tp, rfl, upd_same, same_new nbt _ _ (B8 _ _ upd_same (F6.ne ntp))⟩).imp fun _ _ z => z.keep (TK.lst hL9)
            · rw [upd_ne ls_.symm]; exact same_new nbt _ _ (B38 _ _ hsl3 nsl)
            · rw [upd_ne lg.symm]; exact same_new nbt _ _ (B38 _ _ hG3 gf)
            · exact ((B3.trans B38).new nbt).own nL
        · have k4 : TK H3 _ := TK.new (o := .tup [.int (i : Nat), V.str sd]) nt
          refine ⟨bv, bs, _, _, _, _, rfl, s4 _ _ hL, al.imp fun _ _ z => z.keep k4, db.skip (by rw [ei]; exact fun z => e (Option.some.inj z)), s4 _ _ hsl3, s4 _ _ hG3, F4, B4⟩
      · rintro σ H3 ⟨bv, bs, v5, v6, v8, v9, rfl, hL, al, db, hsl3, hG3, F3, B3⟩
        refine ⟨_, rfl, sl, rfl, ⟨_, SqL.of hsl3⟩, fun E nE => lc_list (K := K) (a := sl) (xs := ss.map V.str) (fun i H4 => ∃ hv, H4 E = some (.lst hv) ∧ All2 (HandAt H4) hv ((ss.take i).map doorH) ∧ Same H3 H4) ⟨[], upd_same, .nil, same_new nE⟩ (fun i H4 _ ⟨_, _, _, s4⟩ => SqL.of (s4 _ _ hsl3)) ?_ ?_⟩
        · rintro i x H4 hx ⟨hv, hE, alh, s4⟩
          have il := (List.getElem?_eq_some_iff.mp hx).1
          rw [List.length_map] at il
          obtain ⟨sd, ei⟩ : ∃ sd, ss[i]? = some sd := ⟨_, List.getElem?_eq_getElem il⟩
          rw [List.getElem?_map, ei] at hx
          cases hx
          refine ⟨rfl, yes_in ⟨_, rfl, (by show 1 ≤ sizeLine; decide), fun a1 na1 => ⟨(by show 2 ≤ sizeLine; decide), fun a2 na2 => ?_⟩⟩⟩
          have s6 : Same H4 _ := (same_new (o := .tup [V.str sd]) na1).trans (same_new (o := .tup [V.ref a1, V.int 0]) na2)
          refine ⟨hv, s6 _ _ hE, ?_, hv ++ [.ref a2], upd_same, ?_, Same.own (s4.trans s6) nE⟩
          · rw [alh.length, List.length_map, List.length_take]; exact small1000 (by omega)
          · rw [List.take_add_one, ei, List.map_append]
            exact ((alh.imp fun _ _ z => z.keep (TK.same s6)).snoc ⟨a2, a1, rfl, upd_same, same_new na2 _ _ upd_same⟩).imp fun _ _ z => z.keep (TK.lst (s6 _ _ hE))
        · rintro H4 ⟨hv, hE, alh, s4⟩
          rw [List.length_map, List.take_length] at alh
          refine ⟨E, _, rfl, .inl ⟨SqL.of hE, fun t1 nt1 => ⟨_, rfl, L, _, rfl, .inl ⟨SqL.of (same_new nt1 _ _ (s4 _ _ hL)), fun t2 nt2 => ⟨(by show 2 ≤ sizeLine; decide), fun t3 nt3 => ?_⟩⟩⟩⟩⟩
          have k : Same H4 (upd (upd (upd H4 t1 (.tup hv)) t2 (.tup bv)) t3 (.tup [V.ref t1, V.ref t2])) := ((same_new nt1).trans (same_new nt2)).trans (same_new nt3)
          rw [eD]
          refine q t3 (ss.map doorH) bs _ ⟨t1, t2, hv, bv, upd_same, same_new nt3 _ _ (same_new nt2 _ _ upd_same), same_new nt3 _ _ upd_same, alh.imp fun _ _ z => z.keep (TK.same k), al.imp fun _ _ z => (z.keep (TK.same s4)).keep (TK.same k)⟩ (db.ok hall ls) (((F3.same s4)).same k) ((((B1.trans (But.of s2)).trans B3).trans (But.of s4)).trans (But.of k))
  refine ⟨_, rfl, f, c, 4, rfl, by decide, by decide +kernel, hF, fun iv H1 i0 i1 F1 B1 => ?_⟩
  refine ⟨_, rfl, f, c, 3, rfl, by decide, by decide +kernel, F1, fun ov H2 o0 o1 F2 B2 => ⟨_, _, rfl, rfl, (by show 2 ≤ sizeLine; decide), fun l nl => ?_⟩⟩
  obtain ⟨o, ho, oz, o2, o3⟩ : ∃ o : Int, atI [V.int 0, V.int (1 + ov)] (if decide (iv > 0) = true then 1 else 0) = some (.int o) ∧ (iv = 0 → o = 0) ∧ 0 ≤ o ∧ o ≤ 3 := by
    by_cases z : iv > 0
    · rw [decide_eq_true z]
      exact ⟨1 + ov, rfl, fun e => by omega, by omega, by omega⟩
    · rw [decide_eq_false z]
      exact ⟨0, rfl, fun _ => rfl, by omega, by omega⟩
  have F3 := F2.new (o := .lst [V.int 0, V.int (1 + ov)]) nl
  refine ⟨_, rfl, _, _, rfl, rfl, .inr ⟨_, rfl, l, _, _, _, rfl, rfl, SqL.of upd_same, ho, ?_⟩⟩
  refine ⟨_, rfl, (by show 1 ≤ sizeLine; decide), fun l1 nl1 => ⟨_, rfl, l1, iv, _, rfl, rfl, upd_same, by omega, by omega, little (by show 1 * iv.toNat ≤ 1000; omega), fun p1 np1 => ?_⟩⟩
  rw [flat_rep]
  have F4 := (F3.new (o := .lst [V.str "in"]) nl1).new (o := .lst (List.replicate iv.toNat (V.str "in"))) np1
  refine ⟨(by show 1 ≤ sizeLine; decide), fun l2 nl2 => ⟨_, rfl, l2, o, _, rfl, rfl, upd_same, by omega, by omega, little (by show 1 * o.toNat ≤ 1000; omega), fun p2 np2 => ?_⟩⟩
  rw [flat_rep]
  have F5 := (F4.new (o := .lst [V.str "out"]) nl2).new (o := .lst (List.replicate o.toNat (V.str "out"))) np2
  refine ⟨p1, p2, _, _, rfl, rfl, same_new np2 _ _ (same_new nl2 _ _ upd_same), upd_same, ?_, fun p3 np3 => ?_⟩
  · rw [List.length_replicate, List.length_replicate]; exact little (by omega)
  have F6 := F5.new (o := .lst (List.replicate iv.toNat (V.str "in") ++ List.replicate o.toNat (V.str "out"))) np3
  refine ⟨f, c, p3, _, rfl, SqL.of upd_same, F5.ne np3, ?_, F6, fun p ys H8 hp np hy F8 B8 => ?_⟩
  · rw [List.length_append, List.length_replicate, List.length_replicate]; omega
  have ez : List.replicate iv.toNat (V.str "in") ++ List.replicate o.toNat (V.str "out") = (List.replicate iv.toNat ("in" : Str) ++ List.replicate o.toNat ("out" : Str)).map V.str := by
    rw [List.map_append, List.map_replicate, List.map_replicate]
  rw [ez] at hp
  obtain ⟨ss, rfl, hss⟩ := perm_strs hp
  refine ⟨rfl, iv, o, p, ss, rfl, hy, F6.ne np, ?_, i0, by omega, ?_, ?_, ?_, F8, But.trans ((((((((B1.trans B2).new nl).new nl1).new np1).new nl2).new np2).new np3)) B8⟩
  · rw [hss.length_eq, List.length_append, List.length_replicate, List.length_replicate]; omega
  · rw [hss.count_eq, List.count_append, List.count_replicate, List.count_replicate, if_pos (beq_self_eq_true _), if_neg (by simpa using in_out.symm), Nat.add_zero]
  · by_cases z : 0 < iv
    · exact .inr z
    · refine .inl (List.eq_nil_of_length_eq_zero ?_)
      rw [hss.length_eq, List.length_append, List.length_replicate, List.length_replicate, oz (by omega)]
      show iv.toNat + 0 = 0
      omega
  · intro s hs
    rcases List.mem_append.mp (hss.mem_iff.mp hs) with hs | hs
    · exact .inl (List.mem_replicate.mp hs).2
    · exact .inr (List.mem_replicate.mp hs).2
def sp_law_any_room (K : PySem.W.Frag) : Sp := fun vs H Q _ => ∃ f c : Addr, vs = [.ref f] ∧ Flow H f c ∧ ∀ (r : Addr) (hs : List HR) (bs : List BR) (H' : Hp), RoomAt H' r hs bs → RoomOk hs bs → 0 < hs.length → Flow H' f c → But f H H' → Q (.ref r) H'
theorem ok_law_any_room {f : Addr} {fd : FuncData} (F : Fun K "_law_any_room" "_law_any_room" s_law_any_room f fd) (T : Top K mg) : FnOk P w K mg base CX0 6 f fd ["_law_flow_here"] (sp_law_any_room K) := by
  obtain ⟨f_law_pick, fd_law_pick, F_law_pick, b_law_pick, m_law_pick⟩ := T.d_law_pick
  have G_law_pick := ok_law_pick (P := P) (w := w) (base := base) F_law_pick T
  obtain ⟨f_law_room, fd_law_room, F_law_room, b_law_room, m_law_room⟩ := T.d_law_room
  have G_law_room := ok_law_room (P := P) (w := w) (base := base) F_law_room T
  obtain ⟨f_law_doors_room, fd_law_doors_room, F_law_doors_room, b_law_doors_room, m_law_doors_room⟩ := T.d_law_doors_room
  have G_law_doors_room := ok_law_doors_room (P := P) (w := w) (base := base) F_law_doors_room T
  refine F.ok sc_law_any_room (fun vs H Q E h => ?_) (fun cdv A outer s H vs Q E hr h => ?_)
  · obtain ⟨f, c, rfl, _⟩ := h
    rfl
  obtain ⟨f, c, rfl, hF, q⟩ := h
  refine ⟨_, (pss_cons (ps_set (i := 1) sc_law_any_room.nd rfl (Or.inl rfl) (pe_call G_law_pick (hr.mono (by decide)) (by rfl) m_law_pick F_law_pick.kp b_law_pick .nil pass0 (pa_cons (pv 0) (pa_cons pe_int pa_nil))))
      (pss_cons (ps_if (pt_cmpR op_eq (pv 1) pe_int (nomark _)) (pss_cons (ps_set (i := 2) sc_law_any_room.nd rfl (Or.inl rfl) (pe_call G_law_doors_room (hr.mono (by decide)) (by rfl) m_law_doors_room F_law_doors_room.kp b_law_doors_room .nil pass0 (pa_cons (pv 0) pa_nil)))
      (pss_one (ps_if (pt_cmpR op_gt (pe_callB (call_len_seqK K rfl) (by rfl) T.m_len (by decide +kernel) (pa_cons (pe_ix (ix_tupK K rfl) (pv 2) pe_int (fun _ _ => rfl)) pa_nil)) pe_int (nomark _)) (pss_one (ps_ret (pv 2))) pss_nil))) pss_nil)
      (pss_one (ps_ret (pe_call G_law_room (hr.mono (by decide)) (by rfl) m_law_room F_law_room.kp b_law_room .nil pass0 (pa_cons (pv 0) (pa_cons (pe_ix (ix_listK K rfl) (pe_lst (pa_cons pe_int (pa_cons pe_int (pa_cons pe_int (pa_cons pe_int (pa_cons pe_int (pa_cons pe_int (pa_cons pe_int (pa_cons pe_int pa_nil))))))))) (pv 1) (fun _ _ => rfl)) pa_nil))))))), ?_⟩
  refine ⟨_, rfl, f, c, 8, rfl, by decide, by decide +kernel, hF, fun v H1 v0 v1 F1 B1 => ?_⟩
  have fin : ∀ (H2 : Hp), Flow H2 f c → But f H H2 → ∀ l, H2 l = none → ∃ (p : Addr) (xs : List V) (i : Int) (u : V), V.ref l = .ref p ∧ V.int v = .int i ∧ SqL K (upd H2 l (.lst [V.int 5, V.int 5, V.int 5, V.int 5, V.int 3, V.int 3, V.int 2, V.int 8])) p xs ∧ atI xs i = some u ∧ sp_law_room K [.ref f, u] (upd H2 l (.lst [V.int 5, V.int 5, V.int 5, V.int 5, V.int 3, V.int 3, V.int 2, V.int 8])) Q E0 := fun H2 F2 B2 l nl => by
    obtain ⟨mm, hmm, m1, m8⟩ : ∃ mm : Int, atI [V.int 5, V.int 5, V.int 5, V.int 5, V.int 3, V.int 3, V.int 2, V.int 8] v = some (.int mm) ∧ 1 ≤ mm ∧ mm ≤ 8 := by
      have : v = 0 ∨ v = 1 ∨ v = 2 ∨ v = 3 ∨ v = 4 ∨ v = 5 ∨ v = 6 ∨ v = 7 := by omega
      rcases this with rfl | rfl | rfl | rfl | rfl | rfl | rfl | rfl
      · exact ⟨5, rfl, by decide, by decide⟩
      · exact ⟨5, rfl, by decide, by decide⟩
      · exact ⟨5, rfl, by decide, by decide⟩
      · exact ⟨5, rfl, by decide, by decide⟩
      · exact ⟨3, rfl, by decide, by decide⟩
      · exact ⟨3, rfl, by decide, by decide⟩
      · exact ⟨2, rfl, by decide, by decide⟩
      · exact ⟨8, rfl, by decide, by decide⟩
    exact ⟨l, _, v, _, rfl, rfl, SqL.of upd_same, hmm, f, c, mm, rfl, m1, m8, F2.new nl, fun r hs bs H3 hR ok h0 F3 B3 => q r hs bs H3 hR ok h0 F3 ((B2.new nl).trans B3)⟩
  refine ⟨_, rfl, rfl, _, rfl, if_bl (fun _ => ?_) (fun _ => ?_)⟩
  · refine ⟨_, rfl, f, c, rfl, F1, fun r hs bs H2 hR ok F2 B2 => ?_⟩
    obtain ⟨ha, ba, hv, bv, er, eh, eb, alh, alb⟩ := hR.ex
    refine ⟨_, rfl, r, _, _, _, rfl, rfl, SqT.of er, atI_nat (j := 0) rfl, ha, _, rfl, .inr (SqT.of eh), _, _, rfl, rfl, _, rfl, if_bl (fun z => ?_) (fun _ => ?_)⟩
    · have z := of_decide_eq_true z
      have lhv := alh.length
      exact ⟨_, rfl, q r hs bs H2 hR ok (by omega) F2 (B1.trans B2)⟩
    · exact ⟨_, rfl, (by show 8 ≤ sizeLine; decide), fun l nl => ⟨_, rfl, fin H2 F2 (B1.trans B2) l nl⟩⟩
  · exact ⟨_, rfl, (by show 8 ≤ sizeLine; decide), fun l nl => ⟨_, rfl, fin H1 F1 B1 l nl⟩⟩
end
/-! ### ways -/
def PairAt (H : Hp) (t : Addr) (k : Nat) (ns : List Nat) : Prop := ∃ g : Addr, H t = some (.tup [nV k, .ref g]) ∧ H g = some (.tup (ns.map nV))
theorem PairAt.keep {H H' : Hp} {t : Addr} {k : Nat} {ns : List Nat} (h : PairAt H t k ns) (s : TK H H') : PairAt H' t k ns := by
  obtain ⟨g, e1, e2⟩ := h
  exact ⟨g, s _ _ e1, s _ _ e2⟩
def momH (hs : List HR) (k : Nat) : Int := match hs[k]? with | some h => h.mom | none => 0
def trB (bs : List BR) (n : Nat) : Int := match bs[n]? with | some b => (b.th.length : Int) | none => 0
def toB (bs : List BR) (n : Nat) : Nat := match bs[n]? with | some b => b.to | none => 0
def wayEnd (bs : List BR) : Nat → List Nat → Option Nat
  | k, [] => some k
  | k, n :: ns => match bs[n]? with | some b => if b.one = k then wayEnd bs b.to ns else none | none => none
theorem wayEnd_cons {bs : List BR} {n k : Nat} {b : BR} {ns : List Nat} (e : bs[n]? = some b) : wayEnd bs k (n :: ns) = if b.one = k then wayEnd bs b.to ns else none := by
  show (match bs[n]? with | some b => if b.one = k then wayEnd bs b.to ns else none | none => none) = _
  rw [e]
theorem drop_at {α : Type} {ns : List α} {i : Nat} {n : α} (e : ns[i]? = some n) : ns.drop i = n :: ns.drop (i + 1) := by
  obtain ⟨h, z⟩ := List.getElem?_eq_some_iff.mp e
  rw [List.drop_eq_getElem_cons h, z]
def onV : Option Nat → V
  | none => .non
  | some k => nV k
theorem nats_at {ns : List Nat} {i : Nat} {x : V} (h : (ns.map nV)[i]? = some x) : ∃ n : Nat, ns[i]? = some n ∧ x = nV n := by
  rw [List.getElem?_map] at h
  cases e : ns[i]? with
  | none => rw [e] at h; cases h
  | some n => rw [e] at h; exact ⟨n, rfl, (Option.some.inj h).symm⟩
theorem nodup_len : ∀ (n : Nat) (l : List Nat), l.Nodup → (∀ x ∈ l, x < n) → l.length ≤ n
  | 0, l, _, h => by
    cases l with
    | nil => exact Nat.le_refl _
    | cons a l => exact absurd (h a (List.mem_cons_self ..)) (Nat.not_lt_zero _)
  | n + 1, l, nd, h => by
    by_cases m : n ∈ l
    · have ih := nodup_len n (l.erase n) (nd.erase n) fun x hx => by
        have hx := (List.Nodup.mem_erase_iff nd).mp hx
        have := h x hx.2
        have := hx.1
        omega
      rw [List.length_erase_of_mem m] at ih
      omega
    · have ih := nodup_len n l nd fun x hx => by
        have h1 := h x hx
        have : x ≠ n := fun z => m (z ▸ hx)
        omega
      omega
theorem pigeon {n : Nat} {g : Nat → Nat} {m : Nat} (h : ∀ i, i < m → g i < n) (hm : n < m) : ∃ i j, i < j ∧ j < m ∧ g i = g j := by
  refine Classical.byContradiction fun no => ?_
  have nd : ((List.range m).map g).Nodup := by
    unfold List.Nodup
    rw [List.pairwise_map]
    exact List.Pairwise.imp_of_mem (fun ha hb lt e => no ⟨_, _, lt, List.mem_range.mp hb, e⟩) List.pairwise_lt_range
  have := nodup_len n _ nd fun x hx => by
    obtain ⟨i, hi, rfl⟩ := List.mem_map.mp hx
    exact h i (List.mem_range.mp hi)
  rw [List.length_map, List.length_range] at this
  omega
/-! ### levels: mathematics -/
structure St3 where
  u : Nat
  v : Nat
  w : Int
def Feas (st : List St3) : Prop := ∃ lv : Nat → Int, ∀ s ∈ st, lv s.u + s.w ≤ lv s.v
structure Lv (st : List St3) (i j : Nat) (lv : Nat → Int) (la : Nat → Option Nat) (r t : Nat → Nat) (now : Nat) : Prop where
  bk : ∀ p k, la p = some k → ∃ s, st[k]? = some s ∧ s.v = p ∧ lv p ≤ lv s.u + s.w ∧ (t p ≤ t s.u → lv p < lv s.u + s.w) ∧ r p ≤ r s.u + 1
  has : ∀ p, 1 ≤ r p → ∃ k, la p = some k
  tn : ∀ p, t p ≤ now
  rl : ∀ p, r p ≤ i
  sat : ∀ k s, st[k]? = some s → lv s.u + s.w ≤ lv s.v ∨ (if k < j then i else i - 1) ≤ r s.u
def put {α : Type} (f : Nat → α) (p : Nat) (x : α) : Nat → α := fun q => if q = p then x else f q
theorem put_at {α : Type} {f : Nat → α} {p : Nat} {x : α} : put f p x p = x := if_pos rfl
theorem put_ne {α : Type} {f : Nat → α} {p q : Nat} {x : α} (h : q ≠ p) : put f p x q = f q := if_neg h
theorem Lv.start {st : List St3} : Lv st 1 0 (fun _ => 0) (fun _ => none) (fun _ => 0) (fun _ => 0) 0 :=
  ⟨(fun _ _ z => nomatch z), fun p z => absurd z (by decide), fun _ => Nat.le_refl _, fun _ => Nat.zero_le _, fun k s _ => .inr (by rw [if_neg (Nat.not_lt_zero _)]; exact Nat.le_refl _)⟩
theorem Lv.idle {st : List St3} {i j : Nat} {lv : Nat → Int} {la : Nat → Option Nat} {r t : Nat → Nat} {now : Nat} (L : Lv st i j lv la r t now) {s : St3} (es : st[j]? = some s) (h : ¬ lv s.u + s.w > lv s.v) : Lv st i (j + 1) lv la r t now := by
  refine { L with sat := fun k s2 e => ?_ }
  by_cases z : k = j
  · subst z
    rw [es] at e
    cases e
    exact .inl (by omega)
  · rcases L.sat k s2 e with y | y
    · exact .inl y
    · refine .inr ?_
      by_cases x : k < j
      · rw [if_pos x] at y; rw [if_pos (by omega)]; exact y
      · rw [if_neg x] at y; rw [if_neg (by omega)]; exact y
theorem Lv.lift {st : List St3} {i j : Nat} {lv : Nat → Int} {la : Nat → Option Nat} {r t : Nat → Nat} {now : Nat} (L : Lv st i j lv la r t now) {s : St3} (es : st[j]? = some s) (h : lv s.u + s.w > lv s.v) :
    Lv st i (j + 1) (put lv s.v (lv s.u + s.w)) (put la s.v (some j)) (put r s.v i) (put t s.v (now + 1)) (now + 1) := by
  have ru : i ≤ r s.u + 1 := by
    rcases L.sat j s es with y | y
    · omega
    · rw [if_neg (Nat.lt_irrefl _)] at y; omega
  have rge : ∀ p, r p ≤ put r s.v i p := fun p => by
    by_cases z : p = s.v
    · rw [z, put_at]; exact L.rl _
    · rw [put_ne z]; exact Nat.le_refl _
  have lge : ∀ p, lv p ≤ put lv s.v (lv s.u + s.w) p := fun p => by
    by_cases z : p = s.v
    · rw [z, put_at]; omega
    · rw [put_ne z]; exact Int.le_refl _
  refine ⟨fun p k e => ?_, fun p z => ?_, fun p => ?_, fun p => ?_, fun k s2 e => ?_⟩
  · by_cases z : p = s.v
    · subst z
      rw [put_at] at e
      cases e
      refine ⟨s, es, rfl, ?_, fun y => ?_, ?_⟩
      · rw [put_at]
        have := lge s.u
        omega
      · rw [put_at] at y ⊢
        by_cases x : s.u = s.v
        · rw [x, put_at]
          rw [x] at h
          omega
        · rw [put_ne x] at y
          have := L.tn s.u
          omega
      · rw [put_at]
        have := rge s.u
        omega
    · rw [put_ne z] at e
      obtain ⟨s2, e1, e2, e3, e4, e5⟩ := L.bk p k e
      refine ⟨s2, e1, e2, ?_, fun y => ?_, ?_⟩
      · rw [put_ne z]
        have := lge s2.u
        omega
      · rw [put_ne z]
        by_cases x : s2.u = s.v
        · rw [x, put_at]
          rw [x] at e3
          omega
        · rw [put_ne x]
          rw [put_ne x, put_ne z] at y
          exact e4 y
      · rw [put_ne z]
        have := rge s2.u
        omega
  · by_cases y : p = s.v
    · exact ⟨j, by rw [y, put_at]⟩
    · rw [put_ne y] at z ⊢
      exact L.has p z
  · by_cases y : p = s.v
    · rw [y, put_at]; exact Nat.le_refl _
    · rw [put_ne y]; exact Nat.le_succ_of_le (L.tn p)
  · by_cases y : p = s.v
    · rw [y, put_at]; exact Nat.le_refl _
    · rw [put_ne y]; exact L.rl p
  · by_cases x : s2.u = s.v
    · refine .inr ?_
      rw [x, put_at]
      split <;> omega
    · rw [put_ne x, put_ne x]
      by_cases z : k = j
      · subst z
        rw [es] at e
        cases e
        exact .inl (by rw [put_at]; exact Int.le_refl _)
      · rcases L.sat k s2 e with y | y
        · exact .inl (Int.le_trans y (lge _))
        · refine .inr ?_
          by_cases q : k < j
          · rw [if_pos q] at y; rw [if_pos (by omega)]; exact y
          · rw [if_neg q] at y; rw [if_neg (by omega)]; exact y
theorem Lv.next {st : List St3} {i : Nat} {lv : Nat → Int} {la : Nat → Option Nat} {r t : Nat → Nat} {now : Nat} (L : Lv st i st.length lv la r t now) : Lv st (i + 1) 0 lv la r t now := by
  refine { L with rl := fun p => Nat.le_succ_of_le (L.rl p), sat := fun k s e => ?_ }
  rcases L.sat k s e with y | y
  · exact .inl y
  · refine .inr ?_
    rw [if_pos (List.getElem?_eq_some_iff.mp e).1] at y
    rw [if_neg (Nat.not_lt_zero _)]
    exact y
theorem Lv.feas {st : List St3} {i : Nat} {lv : Nat → Int} {la : Nat → Option Nat} {r t : Nat → Nat} {now : Nat} (L : Lv st i st.length lv la r t now) (h : ∀ p, r p < i) : ∀ s ∈ st, lv s.u + s.w ≤ lv s.v := fun s hs => by
  obtain ⟨k, e⟩ := List.getElem?_of_mem hs
  rcases L.sat k s e with y | y
  · exact y
  · rw [if_pos (List.getElem?_eq_some_iff.mp e).1] at y
    have := h s.u
    omega
/-- one step back -/
def back (st : List St3) (la : Nat → Option Nat) (p : Nat) : Nat := match la p with
  | none => p
  | some k => match st[k]? with
    | none => p
    | some s => s.u
def backs (st : List St3) (la : Nat → Option Nat) (p : Nat) : Nat → Nat
  | 0 => p
  | k + 1 => back st la (backs st la p k)
theorem backs_add {st : List St3} {la : Nat → Option Nat} {p : Nat} : ∀ {a b k : Nat}, backs st la p a = backs st la p b → backs st la p (a + k) = backs st la p (b + k)
  | _, _, 0, h => h
  | a, b, k + 1, h => by
    show back st la (backs st la p (a + k)) = back st la (backs st la p (b + k))
    rw [backs_add h]
theorem Lv.back_r {st : List St3} {i j : Nat} {lv : Nat → Int} {la : Nat → Option Nat} {r t : Nat → Nat} {now : Nat} (L : Lv st i j lv la r t now) (p : Nat) : r p ≤ r (back st la p) + 1 := by
  unfold back
  cases e : la p with
  | none => dsimp only; omega
  | some k =>
    obtain ⟨s, e1, _, _, _, e5⟩ := L.bk p k e
    dsimp only
    rw [e1]
    exact e5
theorem Lv.backs_r {st : List St3} {i j : Nat} {lv : Nat → Int} {la : Nat → Option Nat} {r t : Nat → Nat} {now : Nat} (L : Lv st i j lv la r t now) (p : Nat) : ∀ k, r p ≤ r (backs st la p k) + k
  | 0 => Nat.le_refl _
  | k + 1 => by
    have := L.backs_r p k
    have := L.back_r (backs st la p k)
    show r p ≤ r (back st la (backs st la p k)) + (k + 1)
    omega
/-- from a place that was raised in the last of as many rounds as there are places the steps back lead onto a ring -/
theorem Lv.ring {st : List St3} {n : Nat} {lv : Nat → Int} {la : Nat → Option Nat} {r t : Nat → Nat} {now : Nat} (L : Lv st n st.length lv la r t now) (hu : ∀ s ∈ st, s.u < n) {p : Nat} (hp : p < n) (hr : r p = n) :
    ∃ c, 1 ≤ c ∧ c ≤ n ∧ backs st la p (n + c) = backs st la p n ∧ (∀ k, n ≤ k → ∃ m, la (backs st la p k) = some m) ∧ (∀ k, backs st la p k < n) ∧ ∀ k, k < n → ∃ m, la (backs st la p k) = some m := by
  have lt : ∀ k, backs st la p k < n := fun k => by
    induction k with
    | zero => exact hp
    | succ k ih =>
      show back st la (backs st la p k) < n
      unfold back
      cases e : la (backs st la p k) with
      | none => exact ih
      | some m =>
        obtain ⟨s, e1, _⟩ := L.bk _ m e
        dsimp only
        rw [e1]
        exact hu s (List.mem_of_getElem? e1)
  have some_ : ∀ k, k < n → ∃ m, la (backs st la p k) = some m := fun k hk => by
    have := L.backs_r p k
    exact L.has _ (by omega)
  obtain ⟨a, b, ab, bn, e⟩ := pigeon (n := n) (g := backs st la p) (m := n + 1) (fun i _ => lt i) (by omega)
  have per : ∀ k, a ≤ k → backs st la p (k + (b - a)) = backs st la p k := fun k hk => by
    have := backs_add (k := k - a) e
    rw [show a + (k - a) = k by omega, show b + (k - a) = k + (b - a) by omega] at this
    exact this.symm
  refine ⟨b - a, by omega, by omega, per n (by omega), fun k hk => ?_, lt, some_⟩
  have low : ∀ d k, k ≤ d → a ≤ k → ∃ j, j < n ∧ backs st la p k = backs st la p j := fun d => by
    induction d with
    | zero => exact fun k h1 h2 => ⟨k, by omega, rfl⟩
    | succ d ih =>
      intro k h1 h2
      by_cases z : k < n
      · exact ⟨k, z, rfl⟩
      · obtain ⟨j, j1, j2⟩ := ih (k - (b - a)) (by omega) (by omega)
        have := per (k - (b - a)) (by omega)
        rw [show k - (b - a) + (b - a) = k by omega] at this
        exact ⟨j, j1, by rw [this, j2]⟩
  obtain ⟨j, j1, j2⟩ := low k k (Nat.le_refl _) (by omega)
  rw [j2]
  exact some_ j j1
/-- the need of the step back from a place -/
def need (st : List St3) (la : Nat → Option Nat) (p : Nat) : Int := match la p with
  | none => 0
  | some k => match st[k]? with
    | none => 0
    | some s => s.w
def needs3 (st : List St3) (la : Nat → Option Nat) (p : Nat) (a : Nat) : Nat → Int
  | 0 => 0
  | k + 1 => needs3 st la p a k + need st la (backs st la p (a + k))
theorem Lv.sum_pos {st : List St3} {i j : Nat} {lv : Nat → Int} {la : Nat → Option Nat} {r t : Nat → Nat} {now : Nat} (L : Lv st i j lv la r t now) {p a c : Nat} (hc : 1 ≤ c) (e : backs st la p (a + c) = backs st la p a) (hs : ∀ k, a ≤ k → ∃ m, la (backs st la p k) = some m) : 0 < needs3 st la p a c := by
  have go : ∀ k, lv (backs st la p a) ≤ lv (backs st la p (a + k)) + needs3 st la p a k ∧ (lv (backs st la p a) < lv (backs st la p (a + k)) + needs3 st la p a k ∨ t (backs st la p (a + k)) + k ≤ t (backs st la p a)) := fun k => by
    induction k with
    | zero => exact ⟨by show lv (backs st la p a) ≤ lv (backs st la p a) + 0; omega, .inr (Nat.le_refl _)⟩
    | succ k ih =>
      obtain ⟨m, em⟩ := hs (a + k) (by omega)
      obtain ⟨s, e1, e2, e3, e4, e5⟩ := L.bk _ m em
      have eb : backs st la p (a + (k + 1)) = s.u := by
        show back st la (backs st la p (a + k)) = s.u
        unfold back
        rw [em]
        dsimp only
        rw [e1]
      have en : needs3 st la p a (k + 1) = needs3 st la p a k + s.w := by
        show needs3 st la p a k + need st la (backs st la p (a + k)) = _
        unfold need
        rw [em]
        dsimp only
        rw [e1]
      rw [eb, en]
      refine ⟨by omega, ?_⟩
      rcases ih.2 with y | y
      · exact .inl (by omega)
      · by_cases z : t (backs st la p (a + k)) ≤ t s.u
        · exact .inl (by have := e4 z; omega)
        · exact .inr (by omega)
  obtain ⟨g1, g2⟩ := go c
  rw [e] at g1 g2
  rcases g2 with y | y
  · omega
  · omega
theorem needs3_le {st : List St3} {la : Nat → Option Nat} {p a : Nat} {lv : Nat → Int} (f : ∀ s ∈ st, lv s.u + s.w ≤ lv s.v) (bk : ∀ p k, la p = some k → ∃ s, st[k]? = some s ∧ s.v = p) (hs : ∀ k, a ≤ k → ∃ m, la (backs st la p k) = some m) : ∀ k, needs3 st la p a k ≤ lv (backs st la p a) - lv (backs st la p (a + k))
  | 0 => by show (0 : Int) ≤ lv (backs st la p a) - lv (backs st la p a); omega
  | k + 1 => by
    have ih := needs3_le f bk hs k
    obtain ⟨m, em⟩ := hs (a + k) (by omega)
    obtain ⟨s, e1, e2⟩ := bk _ m em
    have eb : backs st la p (a + (k + 1)) = s.u := by
      show back st la (backs st la p (a + k)) = s.u
      unfold back
      rw [em]
      dsimp only
      rw [e1]
    have en : needs3 st la p a (k + 1) = needs3 st la p a k + s.w := by
      show needs3 st la p a k + need st la (backs st la p (a + k)) = _
      unfold need
      rw [em]
      dsimp only
      rw [e1]
    have := f s (List.mem_of_getElem? e1)
    rw [eb, en]
    rw [e2] at this
    omega
theorem Lv.not_feas {st : List St3} {n : Nat} {lv : Nat → Int} {la : Nat → Option Nat} {r t : Nat → Nat} {now : Nat} (L : Lv st n st.length lv la r t now) (hu : ∀ s ∈ st, s.u < n) {p : Nat} (hp : p < n) (hr : r p = n) : ¬ Feas st := fun ⟨lv0, f⟩ => by
  obtain ⟨c, c1, c2, e, hs, _⟩ := L.ring hu hp hr
  have h1 := L.sum_pos c1 e hs
  have h2 := needs3_le f (fun p k z => by obtain ⟨s, e1, e2, _⟩ := L.bk p k z; exact ⟨s, e1, e2⟩) hs c
  rw [e] at h2
  omega
theorem ixN_nat {n k : Nat} (h : k < n) : ixN n ((k : Nat) : Int) = some k := by
  unfold ixN
  rw [if_pos (by omega), if_pos (by omega)]
  simp
/-! ### levels: the program -/
def oV : Option Nat → V
  | none => .non
  | some k => nV k
abbrev levL (n : Nat) (lv : Nat → Int) : List V := (List.range n).map fun p => V.int (lv p)
abbrev lasL (n : Nat) (la : Nat → Option Nat) : List V := (List.range n).map fun p => oV (la p)
theorem rg_at {n p : Nat} {f : Nat → V} (h : p < n) : ((List.range n).map f)[p]? = some (f p) := by
  rw [List.getElem?_map, List.getElem?_range h]; rfl
theorem rg_set {n p : Nat} {α : Type} {f : Nat → α} {g : α → V} {x : α} : ((List.range n).map fun q => g (f q)).set p (g x) = (List.range n).map fun q => g (put f p x q) := by
  refine List.ext_getElem? fun i => ?_
  by_cases e : i = p
  · subst e
    by_cases l : i < n
    · rw [List.getElem?_set_self (by rw [List.length_map, List.length_range]; exact l), rg_at l, put_at]
    · rw [List.getElem?_eq_none (by rw [List.length_set, List.length_map, List.length_range]; omega), List.getElem?_eq_none (by rw [List.length_map, List.length_range]; omega)]
  · rw [List.getElem?_set_ne (fun z => e z.symm)]
    by_cases l : i < n
    · rw [rg_at l, rg_at (f := fun q => g (put f p x q)) l, put_ne e]
    · rw [List.getElem?_eq_none (by rw [List.length_map, List.length_range]; omega), List.getElem?_eq_none (by rw [List.length_map, List.length_range]; omega)]
def StepAt (H : Hp) (v : V) (s : St3) : Prop := ∃ t : Addr, v = .ref t ∧ H t = some (.tup [nV s.u, nV s.v, .int s.w])
theorem StepAt.keep {H H' : Hp} {v : V} {s : St3} (h : StepAt H v s) (k : TK H H') : StepAt H' v s := by
  obtain ⟨t, e, h⟩ := h
  exact ⟨t, e, k _ _ h⟩
def StepsAt (H : Hp) (sl : Addr) (st : List St3) : Prop := ∃ sv : List V, H sl = some (.lst sv) ∧ All2 (StepAt H) sv st
def stepEnd (st : List St3) : Nat → List Nat → Option Nat
  | p, [] => some p
  | p, k :: ks => match st[k]? with | some s => if s.u = p then stepEnd st s.v ks else none | none => none
theorem stepEnd_cons {st : List St3} {k p : Nat} {s : St3} {ks : List Nat} (e : st[k]? = some s) : stepEnd st p (k :: ks) = if s.u = p then stepEnd st s.v ks else none := by
  show (match st[k]? with | some s => if s.u = p then stepEnd st s.v ks else none | none => none) = _
  rw [e]
def wS (st : List St3) (k : Nat) : Int := match st[k]? with | some s => s.w | none => 0
/-- a ring of steps that needs more than nothing -/
structure RingOk (st : List St3) (ks : List Nat) : Prop where
  ne : ks ≠ []
  lt : ∀ k ∈ ks, k < st.length
  cl : ∃ p, stepEnd st p ks = some p
  pos : 0 < (ks.map (wS st)).sum
theorem step_sum {st : List St3} {lv : Nat → Int} (f : ∀ s ∈ st, lv s.u + s.w ≤ lv s.v) : ∀ {ks : List Nat} {p q : Nat}, stepEnd st p ks = some q → lv p + (ks.map (wS st)).sum ≤ lv q
  | [], p, q, h => by cases h; show lv p + 0 ≤ lv p; omega
  | k :: ks, p, q, h => by
    cases e : st[k]? with
    | none =>
      have : stepEnd st p (k :: ks) = none := by
        show (match st[k]? with | some s => if s.u = p then stepEnd st s.v ks else none | none => none) = none
        rw [e]
      rw [this] at h; cases h
    | some s =>
      rw [stepEnd_cons e] at h
      by_cases z : s.u = p
      · rw [if_pos z] at h
        have ih := step_sum f h
        have := f s (List.mem_of_getElem? e)
        rw [List.map_cons, List.sum_cons, show wS st k = s.w by unfold wS; rw [e]]
        rw [z] at this
        omega
      · rw [if_neg z] at h; cases h
theorem RingOk.not_feas {st : List St3} {ks : List Nat} (r : RingOk st ks) : ¬ Feas st := fun ⟨lv, f⟩ => by
  obtain ⟨p, e⟩ := r.cl
  have := step_sum f e
  have := r.pos
  omega
/-! ### what levels_or_ring tells, turn by turn -/
abbrev Rz := (Nat → Int) × (Nat → Option Nat) × Option Nat
def rzS (st : List St3) (x : Rz) : Nat → Rz
  | 0 => x
  | j + 1 => match st[j]? with
    | none => rzS st x j
    | some s => if (rzS st x j).1 s.v < (rzS st x j).1 s.u + s.w then (put (rzS st x j).1 s.v ((rzS st x j).1 s.u + s.w), put (rzS st x j).2.1 s.v (some j), some s.v) else rzS st x j
theorem rzS_lift {st : List St3} {x : Rz} {j : Nat} {s : St3} {lv : Nat → Int} {la : Nat → Option Nat} {v : Option Nat} (es : st[j]? = some s) (e : rzS st x j = (lv, la, v)) (c : lv s.v < lv s.u + s.w) : rzS st x (j + 1) = (put lv s.v (lv s.u + s.w), put la s.v (some j), some s.v) := by
  show (match st[j]? with | none => rzS st x j | some s => if (rzS st x j).1 s.v < (rzS st x j).1 s.u + s.w then (put (rzS st x j).1 s.v ((rzS st x j).1 s.u + s.w), put (rzS st x j).2.1 s.v (some j), some s.v) else rzS st x j) = _
  rw [es, e]
  exact if_pos c
theorem rzS_idle {st : List St3} {x : Rz} {j : Nat} {s : St3} {lv : Nat → Int} {la : Nat → Option Nat} {v : Option Nat} (es : st[j]? = some s) (e : rzS st x j = (lv, la, v)) (c : ¬ lv s.v < lv s.u + s.w) : rzS st x (j + 1) = (lv, la, v) := by
  show (match st[j]? with | none => rzS st x j | some s => if (rzS st x j).1 s.v < (rzS st x j).1 s.u + s.w then (put (rzS st x j).1 s.v ((rzS st x j).1 s.u + s.w), put (rzS st x j).2.1 s.v (some j), some s.v) else rzS st x j) = _
  rw [es, e]
  exact if_neg c
def lrS (st : List St3) : Nat → Rz
  | 0 => (fun _ => 0, fun _ => none, none)
  | i + 1 => rzS st ((lrS st i).1, (lrS st i).2.1, none) st.length
theorem lrS_next {st : List St3} {i : Nat} {lv : Nat → Int} {la : Nat → Option Nat} {v : Option Nat} {x : Rz} (e : lrS st i = (lv, la, v)) (h : rzS st (lv, la, none) st.length = x) : lrS st (i + 1) = x := by
  show rzS st ((lrS st i).1, (lrS st i).2.1, none) st.length = x
  rw [e]
  exact h
def rbL (st : List St3) (la : Nat → Option Nat) (p n : Nat) : Nat → List Nat
  | 0 => [(la (backs st la p n)).getD 0]
  | j + 1 => (la (backs st la p (n + 1 + j))).getD 0 :: rbL st la p n j
def RbIs (st : List St3) (la : Nat → Option Nat) (p n : Nat) (ks : List Nat) : Prop := ∃ j, backs st la p (n + 1 + j) = backs st la p n ∧ (∀ i, i < j → backs st la p (n + 1 + i) ≠ backs st la p n) ∧ ks = rbL st la p n j
theorem RbIs.one {st : List St3} {la : Nat → Option Nat} {p n : Nat} {ks ks' : List Nat} (a : RbIs st la p n ks) (b : RbIs st la p n ks') : ks = ks' := by
  obtain ⟨j, e1, n1, rfl⟩ := a
  obtain ⟨j', e2, n2, rfl⟩ := b
  have : j = j' := by
    rcases Nat.lt_trichotomy j j' with z | z | z
    · exact absurd e1 (n2 j z)
    · exact z
    · exact absurd e2 (n1 j' z)
  rw [this]
def LvIs (st : List St3) (n : Nat) (lv : Nat → Int) : Prop := ∃ i, i ≤ n ∧ (i = 0 → n = 0) ∧ (lrS st i).2.2 = none ∧ (∀ i', 1 ≤ i' → i' < i → (lrS st i').2.2 ≠ none) ∧ lv = (lrS st i).1
def RgIs (st : List St3) (n : Nat) (ks : List Nat) : Prop := 0 < n ∧ (∀ i', 1 ≤ i' → i' ≤ n → (lrS st i').2.2 ≠ none) ∧ ∃ p, (lrS st n).2.2 = some p ∧ RbIs st (lrS st n).2.1 p n ks
theorem LvIs.one {st : List St3} {n : Nat} {lv lv' : Nat → Int} (a : LvIs st n lv) (b : LvIs st n lv') : lv = lv' := by
  obtain ⟨i, i1, i2, i3, i4, rfl⟩ := a
  obtain ⟨j, j1, j2, j3, j4, rfl⟩ := b
  have : i = j := by
    by_cases zi : i = 0
    · have := i2 zi; omega
    by_cases zj : j = 0
    · have := j2 zj; omega
    rcases Nat.lt_trichotomy i j with z | z | z
    · exact absurd i3 (j4 i (by omega) z)
    · exact z
    · exact absurd j3 (i4 j (by omega) z)
  rw [this]
theorem RgIs.one {st : List St3} {n : Nat} {ks ks' : List Nat} (a : RgIs st n ks) (b : RgIs st n ks') : ks = ks' := by
  obtain ⟨_, _, p, e, h⟩ := a
  obtain ⟨_, _, p', e', h'⟩ := b
  rw [e] at e'
  cases e'
  exact h.one h'
theorem RgIs.not_lv {st : List St3} {n : Nat} {ks : List Nat} {lv : Nat → Int} (a : RgIs st n ks) (b : LvIs st n lv) : False := by
  obtain ⟨n0, h, _⟩ := a
  obtain ⟨i, i1, i2, i3, _⟩ := b
  by_cases z : i = 0
  · have := i2 z; omega
  · exact h i (by omega) i1 i3
section
variable {P : Program} {w : World} {K : PySem.W.Frag} {mg : Str → Option Value} {base : Heap}
def sp_raise_levels (K : PySem.W.Frag) : Sp := fun vs H Q _ => ∃ (ll lb sl : Addr) (n i : Nat) (st : List St3) (lv : Nat → Int) (la : Nat → Option Nat) (r t : Nat → Nat) (now : Nat), vs = [.ref ll, .ref lb, .ref sl] ∧ H ll = some (.lst (levL n lv)) ∧ H lb = some (.lst (lasL n la)) ∧ StepsAt H sl st ∧ ll ≠ lb ∧ sl ≠ ll ∧ sl ≠ lb ∧ (∀ s ∈ st, s.u < n ∧ s.v < n) ∧ st.length ≤ 400 ∧ Lv st i 0 lv la r t now ∧ (∀ p, r p < i) ∧
  ∀ (lv' : Nat → Int) (la' : Nat → Option Nat) (r' t' : Nat → Nat) (now' : Nat) (v : Option Nat) (H' : Hp), H' ll = some (.lst (levL n lv')) → H' lb = some (.lst (lasL n la')) → Lv st i st.length lv' la' r' t' now' → rzS st (lv, la, none) st.length = (lv', la', v) → (v = none → ∀ p, r' p < i) → (∀ x, v = some x → x < n ∧ r' x = i) → (∀ p, lv p ≤ lv' p) → (∀ b o, H b = some o → b ≠ ll → b ≠ lb → H' b = some o) → Q (oV v) H'
theorem ok_raise_levels {f : Addr} {fd : FuncData} (F : Fun K "raise_levels" "raise_levels" s_raise_levels f fd) (T : Top K mg) : FnOk P w K mg base CX0 1 f fd ["levels", "last", "steps"] (sp_raise_levels K) := by
  refine F.ok sc_raise_levels (fun vs H Q E h => ?_) (fun cdv A outer s H vs Q E hr h => ?_)
  · obtain ⟨ll, lb, sl, n, i, st, lv, la, r, t, now, rfl, _⟩ := h
    rfl
  obtain ⟨ll, lb, sl, n, i, st, lv, la, r, t, now, rfl, hll, hlb, ⟨sv, hsl, als⟩, llb, sll, slb, bd, few, L, rlt, q⟩ := h
  have lsv := als.length
  refine ⟨_, (pss_cons (ps_set (i := 3) sc_raise_levels.nd rfl (Or.inl rfl) pe_non)
      (pss_cons (ps_for PassesOwn.never rfl (pi_enum (by rfl) T.m_enumerate (pa_cons (pv 2) pa_nil)) (pg_tupK K rfl rfl (pgs_cons (pg_name (i := 4) sc_raise_levels.nd rfl (Or.inl rfl)) (pgs_cons (pg_tupK K rfl rfl (pgs_cons (pg_name (i := 5) sc_raise_levels.nd rfl (Or.inl rfl)) (pgs_cons (pg_name (i := 6) sc_raise_levels.nd rfl (Or.inl rfl)) (pgs_cons (pg_name (i := 7) sc_raise_levels.nd rfl (Or.inl rfl)) pgs_nil)))) pgs_nil)))
        (pss_one (ps_if (pt_cmpR op_gt (pe_op op_add (pe_ix (ix_listK K rfl) (pv 0) (pv 5) (fun _ _ => rfl)) (pv 7)) (pe_ix (ix_listK K rfl) (pv 0) (pv 6) (fun _ _ => rfl)) (nomark _)) (pss_cons (ps_asg (pe_op op_add (pe_ix (ix_listK K rfl) (pv 0) (pv 5) (fun _ _ => rfl)) (pv 7)) (pg_sub (pv 0) (pv 6) set_list))
      (pss_cons (ps_asg (pv 4) (pg_sub (pv 1) (pv 6) set_list))
      (pss_one (ps_set (i := 3) sc_raise_levels.nd rfl (Or.inl rfl) (pv 6))))) pss_nil)))
      (pss_one (ps_ret (pv 3))))), ?_⟩
  refine ⟨_, rfl, sl, _, rfl, SqL.of hsl, for_it (n := sv.length) (fun j σ H2 => ∃ (lv' : Nat → Int) (la' : Nat → Option Nat) (r' t' : Nat → Nat) (now' : Nat) (v : Option Nat) (v4 v5 v6 v7 : Option V), σ = [some (.ref ll), some (.ref lb), some (.ref sl), some (oV v), v4, v5, v6, v7] ∧ H2 ll = some (.lst (levL n lv')) ∧ H2 lb = some (.lst (lasL n la')) ∧ Lv st i j lv' la' r' t' now' ∧ rzS st (lv, la, none) j = (lv', la', v) ∧ (v = none → ∀ p, r' p < i) ∧ (∀ x, v = some x → x < n ∧ r' x = i) ∧ (∀ p, lv p ≤ lv' p) ∧ (∀ b o, H b = some o → b ≠ ll → b ≠ lb → H2 b = some o))
    ⟨lv, la, r, t, now, none, none, none, none, none, rfl, hll, hlb, L, rfl, (fun _ => rlt), (fun _ z => nomatch z), (fun _ => Int.le_refl _), (fun _ _ e _ _ => e)⟩ ?_ ?_ ?_ ?_⟩
  · rintro j σ H2 hj ⟨lv', la', r', t', now', v, v4, v5, v6, v7, rfl, h1, h2, L, rz, f1, f2, f3, fr⟩
    exact ⟨_, _, SqL.of (fr _ _ hsl sll slb), List.getElem?_eq_getElem hj⟩
  · rintro σ H2 ⟨lv', la', r', t', now', v, v4, v5, v6, v7, rfl, h1, h2, L, rz, f1, f2, f3, fr⟩
    exact ⟨_, SqL.of (fr _ _ hsl sll slb), Nat.le_refl _⟩
  · rintro j x σ H2 H3 hj ⟨lv', la', r', t', now', v, v4, v5, v6, v7, rfl, h1, h2, L, rz, f1, f2, f3, fr⟩ ⟨tt, y, rfl, ntt, rfl, fy⟩
    have ey := fy _ (SqL.of (fr _ _ hsl sll slb))
    obtain ⟨s, es, ⟨t2, rfl, e1⟩⟩ := als.getL ey
    obtain ⟨ul, vl⟩ := bd s (List.mem_of_getElem? es)
    have t2l : t2 ≠ ll := ne_of e1 hll (fun z => nomatch z)
    have t2b : t2 ≠ lb := ne_of e1 hlb (fun z => nomatch z)
    have e13 := same_new (o := .tup [V.int ((j : Nat) : Int), V.ref t2]) ntt _ _ (fr _ _ e1 t2l t2b)
    have h13 := same_new (o := .tup [V.int ((j : Nat) : Int), V.ref t2]) ntt _ _ h1
    have h23 := same_new (o := .tup [V.int ((j : Nat) : Int), V.ref t2]) ntt _ _ h2
    refine ⟨tt, _, rfl, SqT.of upd_same, rfl, _, _, rfl, _, _, rfl, t2, _, rfl, SqT.of e13, rfl, _, _, rfl, _, _, rfl, _, _, rfl, rfl, rfl, ?_⟩
    refine ⟨_, rfl, _, rfl, ll, _, _, _, rfl, rfl, SqL.of h13, atI_nat (rg_at ul), _, rfl, _, _, rfl, rfl, _, rfl, _, rfl, ll, _, _, _, rfl, rfl, SqL.of h13, atI_nat (rg_at vl), _, _, rfl, rfl, _, rfl, if_bl (fun c => ?_) (fun c => ?_)⟩
    · have c : lv' s.v < lv' s.u + s.w := of_decide_eq_true c
      refine ⟨_, rfl, _, rfl, ll, _, _, _, rfl, rfl, SqL.of h13, atI_nat (rg_at ul), _, rfl, _, _, rfl, rfl, _, rfl, _, rfl, ll, _, _, s.v, rfl, rfl, h13, ixN_nat (by rw [List.length_map, List.length_range]; exact vl), ?_⟩
      refine ⟨_, rfl, _, rfl, _, rfl, lb, _, _, s.v, rfl, rfl, (by rw [upd_ne llb.symm]; exact h23), ixN_nat (by rw [List.length_map, List.length_range]; exact vl), ?_⟩
      refine ⟨_, rfl, ?_⟩
      refine ⟨put lv' s.v (lv' s.u + s.w), put la' s.v (some j), put r' s.v i, put t' s.v (now' + 1), now' + 1, some s.v, _, _, _, _, rfl, ?_, ?_, L.lift es c, rzS_lift es rz c, (fun z => nomatch z), (fun x z => ?_), fun p => ?_, fun b o e n1 n2 => ?_⟩
      · rw [upd_ne llb, upd_same]
        exact congrArg (fun l => some (HO.lst l)) (rg_set (g := V.int))
      · rw [upd_same]
        exact congrArg (fun l => some (HO.lst l)) (rg_set (g := oV) (x := some j))
      · cases z
        exact ⟨vl, put_at⟩
      · have := f3 p
        by_cases z : p = s.v
        · rw [z, put_at]; rw [z] at this; omega
        · rw [put_ne z]; exact this
      · rw [upd_ne n2, upd_ne n1]
        exact same_new ntt _ _ (fr b o e n1 n2)
    · have c : ¬ lv' s.v < lv' s.u + s.w := of_decide_eq_false c
      exact ⟨lv', la', r', t', now', v, _, _, _, _, rfl, h13, h23, L.idle es c, rzS_idle es rz c, f1, f2, f3, fun b o e n1 n2 => same_new ntt _ _ (fr b o e n1 n2)⟩
  · rintro σ H2 ⟨lv', la', r', t', now', v, v4, v5, v6, v7, rfl, h1, h2, L, rz, f1, f2, f3, fr⟩
    rw [lsv] at L rz
    exact ⟨_, rfl, q lv' la' r' t' now' v H2 h1 h2 L rz f1 f2 f3 fr⟩
def sp_ring_behind (K : PySem.W.Frag) : Sp := fun vs H Q _ => ∃ (lb sl : Addr) (n p : Nat) (st : List St3) (lv : Nat → Int) (la : Nat → Option Nat) (r t : Nat → Nat) (now : Nat), vs = [nV p, .ref lb, .ref sl] ∧ H lb = some (.lst (lasL n la)) ∧ StepsAt H sl st ∧ (∀ s ∈ st, s.u < n ∧ s.v < n) ∧ st.length ≤ 400 ∧ n ≤ 100 ∧ Lv st n st.length lv la r t now ∧ p < n ∧ r p = n ∧
  ∀ (pr : Addr) (ks : List Nat) (H' : Hp), H' pr = some (.lst (ks.map nV)) → RingOk st ks → ks.length ≤ n → RbIs st la p n ks → Same H H' → Q (.ref pr) H'
theorem ok_ring_behind {f : Addr} {fd : FuncData} (F : Fun K "ring_behind" "ring_behind" s_ring_behind f fd) (T : Top K mg) : FnOk P w K mg base CX0 1 f fd ["place", "last", "steps"] (sp_ring_behind K) := by
  refine F.ok sc_ring_behind (fun vs H Q E h => ?_) (fun cdv A outer s H vs Q E hr h => ?_)
  · obtain ⟨lb, sl, n, p, st, lv, la, r, t, now, rfl, _⟩ := h
    rfl
  obtain ⟨lb, sl, n, p, st, lv, la, r, t, now, rfl, hlb, ⟨sv, hsl, als⟩, bd, few, n100, L, hp, hrp, q⟩ := h
  obtain ⟨c, c1, cn, cyc, hs, lt, hs0⟩ := L.ring (fun s z => (bd s z).1) hp hrp
  have lsv := als.length
  -- one step back, in the program
  have step : ∀ (k m : Nat), la (backs st la p k) = some m → ∃ s x t2, st[m]? = some s ∧ s.v = backs st la p k ∧ backs st la p (k + 1) = s.u ∧ sv[m]? = some x ∧ x = V.ref t2 ∧ H t2 = some (.tup [nV s.u, nV s.v, .int s.w]) := fun k m e => by
    obtain ⟨s, e1, e2, _⟩ := L.bk _ m e
    obtain ⟨x, ex, t2, rfl, h2⟩ := als.get e1
    refine ⟨s, _, t2, e1, e2, ?_, ex, rfl, h2⟩
    show back st la (backs st la p k) = s.u
    unfold back
    rw [e]
    dsimp only
    rw [e1]
  refine ⟨_, (pss_cons (ps_for PassesOwn.never rfl (pi_range1 (by rfl) T.m_range (pa_cons (pe_callB (call_len_seqK K rfl) (by rfl) T.m_len (by decide +kernel) (pa_cons (pv 1) pa_nil)) pa_nil)) (pg_name (i := 3) sc_ring_behind.nd rfl (Or.inl rfl))
        (pss_one (ps_set (i := 0) sc_ring_behind.nd rfl (Or.inl rfl) (pe_ix (ix_tupK K rfl) (pe_ix (ix_listK K rfl) (pv 2) (pe_ix (ix_listK K rfl) (pv 1) (pv 0) (fun _ _ => rfl)) (fun _ _ => rfl)) pe_int (fun _ _ => rfl)))))
      (pss_cons (ps_set (i := 4) sc_ring_behind.nd rfl (Or.inl rfl) (pe_lst (pa_cons (pe_ix (ix_listK K rfl) (pv 1) (pv 0) (fun _ _ => rfl)) pa_nil)))
      (pss_cons (ps_set (i := 5) sc_ring_behind.nd rfl (Or.inl rfl) (pe_ix (ix_tupK K rfl) (pe_ix (ix_listK K rfl) (pv 2) (pe_ix (ix_listK K rfl) (pv 1) (pv 0) (fun _ _ => rfl)) (fun _ _ => rfl)) pe_int (fun _ _ => rfl)))
      (pss_cons (ps_while PassesOwn.never (pt_cmpR op_ne (pv 5) (pv 0) (nomark _))
        (pss_cons (ps_expr (pe_bmK K rfl PySem.F.plainAttrs_list PySem.F.slot_list_append PySem.F.type_list_append mt_append (pv 4) (pa_cons (pe_ix (ix_listK K rfl) (pv 1) (pv 5) (fun _ _ => rfl)) pa_nil)))
      (pss_one (ps_set (i := 5) sc_ring_behind.nd rfl (Or.inl rfl) (pe_ix (ix_tupK K rfl) (pe_ix (ix_listK K rfl) (pv 2) (pe_ix (ix_listK K rfl) (pv 1) (pv 5) (fun _ _ => rfl)) (fun _ _ => rfl)) pe_int (fun _ _ => rfl))))))
      (pss_one (ps_ret (pe_revLK K rfl (pv 4)))))))), ?_⟩
  refine ⟨_, rfl, lb, _, rfl, .inl (SqL.of hlb), _, rfl, by rw [List.length_map, List.length_range]; omega, by rw [List.length_map, List.length_range]; omega, for_range (lo := 0) (n := (lasL n la).length) (fun k σ H2 => ∃ v3 v4 v5 : Option V, σ = [some (nV (backs st la p k)), some (.ref lb), some (.ref sl), v3, v4, v5] ∧ Same H H2) ⟨none, none, none, rfl, Same.refl _⟩ ?_ ?_⟩
  · rintro k σ H2 hk ⟨v3, v4, v5, rfl, s2⟩
    rw [List.length_map, List.length_range] at hk
    obtain ⟨m, em⟩ := hs0 k hk
    obtain ⟨s, x, t2, e1, e2, e3, ex, rfl, h2⟩ := step k m em
    have al : (lasL n la)[backs st la p k]? = some (nV m) := by rw [rg_at (lt k), em]; rfl
    refine ⟨_, rfl, _, rfl, _, rfl, lb, _, _, _, rfl, rfl, SqL.of (s2 _ _ hlb), atI_nat al, sl, _, _, _, rfl, rfl, SqL.of (s2 _ _ hsl), atI_nat ex, t2, _, _, _, rfl, rfl, SqT.of (s2 _ _ h2), atI_nat (j := 0) rfl, ?_⟩
    exact ⟨_, _, _, by rw [e3]; rfl, s2⟩
  rintro σ H2 ⟨v3, v4, v5, rfl, s2⟩
  have ln : (lasL n la).length = n := by rw [List.length_map, List.length_range]
  rw [ln]
  obtain ⟨m, em⟩ := hs n (Nat.le_refl _)
  obtain ⟨s, x, t2, e1, e2, e3, ex, rfl, h2⟩ := step n m em
  have al : (lasL n la)[backs st la p n]? = some (nV m) := by rw [rg_at (lt n), em]; rfl
  refine ⟨_, rfl, _, rfl, lb, _, _, _, rfl, rfl, SqL.of (s2 _ _ hlb), atI_nat al, (by show 1 ≤ sizeLine; decide), fun rl nrl => ?_⟩
  have s3 := s2.trans (same_new (o := .lst [nV m]) nrl)
  refine ⟨_, rfl, _, rfl, _, rfl, lb, _, _, _, rfl, rfl, SqL.of (s3 _ _ hlb), atI_nat al, sl, _, _, _, rfl, rfl, SqL.of (s3 _ _ hsl), atI_nat ex, t2, _, _, _, rfl, rfl, SqT.of (s3 _ _ h2), atI_nat (j := 0) rfl, ?_⟩
  refine ⟨fun z σ H4 => ∃ (j : Nat) (ks : List Nat), σ = [some (nV (backs st la p n)), some (.ref lb), some (.ref sl), v3, some (.ref rl), some (nV (backs st la p (n + 1 + j)))] ∧ H4 rl = some (.lst (ks.reverse.map nV)) ∧ ks.length = j + 1 ∧ (∀ k ∈ ks, k < st.length) ∧ stepEnd st (backs st la p (n + 1 + j)) ks = some (backs st la p n) ∧ (ks.map (wS st)).sum = needs3 st la p n (j + 1) ∧ j + 1 ≤ c ∧ z = c - (j + 1) ∧ ((∀ i, i < j → backs st la p (n + 1 + i) ≠ backs st la p n) ∧ ks = rbL st la p n j) ∧ Same H H4,
    ⟨_, 0, [m], ?_, upd_same, rfl, fun k hk => ?_, ?_, ?_, c1, rfl, ⟨(fun i hi => absurd hi (Nat.not_lt_zero _)), by show [m] = [(la (backs st la p n)).getD 0]; rw [em]; rfl⟩, s3⟩, ?_⟩
  · rw [show n + 1 + 0 = n + 1 by omega, e3]; rfl
  · obtain rfl : k = m := by simpa using hk
    exact (List.getElem?_eq_some_iff.mp e1).1
  · rw [show n + 1 + 0 = n + 1 by omega, e3, stepEnd_cons e1, if_pos rfl, e2]; rfl
  · show wS st m + 0 = 0 + need st la (backs st la p (n + 0))
    have hw : wS st m = s.w := by unfold wS; rw [e1]
    have hn : need st la (backs st la p n) = s.w := by unfold need; rw [em]; dsimp only; rw [e1]
    rw [show n + 0 = n by omega, hw, hn]
    omega
  rintro z σ H4 ⟨j, ks, rfl, hrl, lk, kl, se, sm, jc, rfl, ⟨nb, ek⟩, s4⟩
  refine ⟨_, rfl, _, rfl, rfl, _, rfl, ?_⟩
  by_cases cl : backs st la p (n + 1 + j) = backs st la p n
  · rw [decide_eq_true (show nV (backs st la p (n + 1 + j)) = nV (backs st la p n) by rw [cl])]
    refine if_bl (fun z => nomatch z) (fun _ => ?_)
    refine ⟨_, rfl, rl, _, rfl, SqL.of hrl, fun r2 nr2 => ?_⟩
    refine q r2 ks _ ?_ ⟨fun z => ?_, kl, ⟨backs st la p n, by rw [cl] at se; exact se⟩, ?_⟩ (by omega) ⟨j, cl, nb, ek⟩ (s4.trans (same_new nr2))
    · rw [upd_same, ← List.map_reverse, List.reverse_reverse]
    · rw [z] at lk; cases lk
    · rw [sm]
      exact L.sum_pos (by omega) (by rw [show n + (j + 1) = n + 1 + j by omega]; exact cl) hs
  · rw [decide_eq_false (show ¬ nV (backs st la p (n + 1 + j)) = nV (backs st la p n) from fun y => cl (by have := V.int.inj y; omega))]
    refine if_bl (fun _ => ?_) (fun z => nomatch z)
    have jlt : j + 1 < c := by
      refine Nat.lt_of_le_of_ne jc fun y => cl ?_
      rw [show n + 1 + j = n + (j + 1) by omega, y]
      exact cyc
    refine ⟨_, fun σ' H' h => h, ?_⟩
    obtain ⟨m, em⟩ := hs (n + 1 + j) (by omega)
    obtain ⟨s, x, t2, e1, e2, e3, ex, rfl, h2⟩ := step (n + 1 + j) m em
    have al : (lasL n la)[backs st la p (n + 1 + j)]? = some (nV m) := by rw [rg_at (lt _), em]; rfl
    refine ⟨_, rfl, .inl ⟨rfl, _, SqL.of hrl⟩, _, rfl, _, rfl, lb, _, _, _, rfl, rfl, SqL.of (s4 _ _ hlb), atI_nat al, rl, _, _, rfl, rfl, hrl, by rw [List.length_map, List.length_reverse]; exact small1000 (by omega), ?_⟩
    have rl0 : H rl = none := same_none s2 nrl
    have s5 : Same H (upd H4 rl (.lst (ks.reverse.map nV ++ [nV m]))) := Same.own s4 rl0
    refine ⟨_, rfl, _, rfl, _, rfl, lb, _, _, _, rfl, rfl, SqL.of (s5 _ _ hlb), atI_nat al, sl, _, _, _, rfl, rfl, SqL.of (s5 _ _ hsl), atI_nat ex, t2, _, _, _, rfl, rfl, SqT.of (s5 _ _ h2), atI_nat (j := 0) rfl, ?_⟩
    refine ⟨c - (j + 1 + 1), by omega, j + 1, m :: ks, ?_, ?_, by rw [List.length_cons, lk], fun k hk => ?_, ?_, ?_, by omega, rfl, ⟨fun i hi => ?_, ?_⟩, s5⟩
    · rw [show n + 1 + (j + 1) = n + 1 + j + 1 by omega, e3]; rfl
    · rw [upd_same, List.reverse_cons, List.map_append]; rfl
    · rcases List.mem_cons.mp hk with rfl | hk
      · exact (List.getElem?_eq_some_iff.mp e1).1
      · exact kl k hk
    · rw [show n + 1 + (j + 1) = n + 1 + j + 1 by omega, e3, stepEnd_cons e1, if_pos rfl, e2]; exact se
    · show wS st m + (ks.map (wS st)).sum = needs3 st la p n (j + 1) + need st la (backs st la p (n + (j + 1)))
      have hw : wS st m = s.w := by unfold wS; rw [e1]
      have hn : need st la (backs st la p (n + 1 + j)) = s.w := by unfold need; rw [em]; dsimp only; rw [e1]
      rw [sm, show n + (j + 1) = n + 1 + j by omega, hw, hn]
      omega
    · by_cases z : i = j
      · rw [z]; exact cl
      · exact nb i (by omega)
    · show m :: ks = (la (backs st la p (n + 1 + j))).getD 0 :: rbL st la p n j
      rw [em, ← ek]
      rfl
def sp_levels_or_ring (K : PySem.W.Frag) : Sp := fun vs H Q _ => ∃ (sl : Addr) (n : Nat) (st : List St3), vs = [nV n, .ref sl] ∧ StepsAt H sl st ∧ (∀ s ∈ st, s.u < n ∧ s.v < n) ∧ st.length ≤ 400 ∧ n ≤ 100 ∧
  (∀ (p ll : Addr) (lv : Nat → Int) (H' : Hp), H' p = some (.tup [.ref ll, .non]) → H' ll = some (.lst (levL n lv)) → (∀ s ∈ st, lv s.u + s.w ≤ lv s.v) → (∀ q, 0 ≤ lv q) → LvIs st n lv → Same H H' → Q (.ref p) H') ∧
  ∀ (p rl : Addr) (ks : List Nat) (H' : Hp), H' p = some (.tup [.non, .ref rl]) → H' rl = some (.lst (ks.map nV)) → RingOk st ks → ks.length ≤ n → RgIs st n ks → Same H H' → Q (.ref p) H'
theorem ok_levels_or_ring {f : Addr} {fd : FuncData} (F : Fun K "levels_or_ring" "levels_or_ring" s_levels_or_ring f fd) (T : Top K mg) : FnOk P w K mg base CX0 2 f fd ["many", "steps"] (sp_levels_or_ring K) := by
  obtain ⟨f_raise_levels, fd_raise_levels, F_raise_levels, b_raise_levels, m_raise_levels⟩ := T.d_raise_levels
  have G_raise_levels := ok_raise_levels (P := P) (w := w) (base := base) F_raise_levels T
  obtain ⟨f_ring_behind, fd_ring_behind, F_ring_behind, b_ring_behind, m_ring_behind⟩ := T.d_ring_behind
  have G_ring_behind := ok_ring_behind (P := P) (w := w) (base := base) F_ring_behind T
  refine F.ok sc_levels_or_ring (fun vs H Q E h => ?_) (fun cdv A outer s H vs Q E hr h => ?_)
  · obtain ⟨sl, n, st, rfl, _⟩ := h
    rfl
  obtain ⟨sl, n, st, rfl, ⟨sv, hsl, als⟩, bd, few, n100, q1, q2⟩ := h
  let R1 : TS := fun D' σ' H' => D'.rt = Q ∧ ∃ (ll lb : Addr) (lv : Nat → Int) (la : Nat → Option Nat) (r t : Nat → Nat) (now : Nat) (v : Option Nat) (v5 : Option V), σ' = [some (nV n), some (.ref sl), some (.ref ll), some (.ref lb), some (oV v), v5] ∧ H' ll = some (.lst (levL n lv)) ∧ H' lb = some (.lst (lasL n la)) ∧ Same H H' ∧ (∀ p, 0 ≤ lv p) ∧ (v = none → (∀ s ∈ st, lv s.u + s.w ≤ lv s.v) ∧ LvIs st n lv) ∧ ∀ x, v = some x → x < n ∧ r x = n ∧ Lv st n st.length lv la r t now ∧ (0 < n ∧ (∀ i', 1 ≤ i' → i' ≤ n → (lrS st i').2.2 ≠ none) ∧ lrS st n = (lv, la, v))
  refine ⟨_, (pss_cons (ps_set (i := 2) sc_levels_or_ring.nd rfl (Or.inl rfl) (pe_op op_rep (pe_lst (pa_cons pe_int pa_nil)) (pv 0)))
      (pss_cons (ps_set (i := 3) sc_levels_or_ring.nd rfl (Or.inl rfl) (pe_op op_rep (pe_lst (pa_cons pe_non pa_nil)) (pv 0)))
      (pss_cons (ps_set (i := 4) sc_levels_or_ring.nd rfl (Or.inl rfl) pe_non)
      (pss_cons (ps_for PassesOwn.never rfl (pi_range1 (by rfl) T.m_range (pa_cons (pv 0) pa_nil)) (pg_name (i := 5) sc_levels_or_ring.nd rfl (Or.inl rfl))
        (pss_cons (ps_set (i := 4) sc_levels_or_ring.nd rfl (Or.inl rfl) (pe_call G_raise_levels (hr.mono (by decide)) (by rfl) m_raise_levels F_raise_levels.kp b_raise_levels .nil pass0 (pa_cons (pv 2) (pa_cons (pv 3) (pa_cons (pv 1) pa_nil)))))
      (pss_one (ps_if (pt_cmpR op_isN (pv 4) pe_non (nomark _)) (pss_one ps_break) pss_nil))))
      (PSs.to (pss_cons (ps_if (pt_cmpR op_isN (pv 4) pe_non (nomark _)) (pss_one (ps_ret (pe_tup (pa_cons (pv 2) (pa_cons pe_non pa_nil))))) pss_nil)
      (pss_one (ps_ret (pe_tup (pa_cons pe_non (pa_cons (pe_call G_ring_behind (hr.mono (by decide)) (by rfl) m_ring_behind F_ring_behind.kp b_ring_behind .nil pass0 (pa_cons (pv 4) (pa_cons (pv 3) (pa_cons (pv 1) pa_nil)))) pa_nil)))))) R1 ?tail1))))), ?_⟩
  case tail1 =>
    rintro D' σ' H1 ⟨eD, ll, lb, lv, la, r, t, now, v, v5, rfl, hll, hlb, s1, nn, f1, f2⟩
    cases v with
    | none =>
      refine ⟨_, rfl, rfl, _, rfl, if_bl (fun _ => ?_) (fun z => absurd rfl (of_decide_eq_false z))⟩
      refine ⟨_, rfl, (by show 2 ≤ sizeLine; decide), fun p np => ?_⟩
      rw [eD]
      exact q1 p ll lv _ upd_same (same_new np _ _ hll) (f1 rfl).1 nn (f1 rfl).2 (s1.trans (same_new np))
    | some x =>
      obtain ⟨xl, rx, L, n0, na, en⟩ := f2 x rfl
      refine ⟨_, rfl, rfl, _, rfl, if_bl (fun z => absurd (of_decide_eq_true z) (fun y => nomatch y)) (fun _ => ?_)⟩
      refine ⟨_, rfl, _, rfl, _, rfl, lb, sl, n, x, st, lv, la, r, t, now, rfl, hlb, ⟨sv, s1 _ _ hsl, als.imp fun _ _ z => z.keep (TK.same s1)⟩, bd, few, n100, L, xl, rx, fun pr ks H2 hpr ring lk rb s2 => ⟨(by show 2 ≤ sizeLine; decide), fun p np => ?_⟩⟩
      rw [eD]
      exact q2 p pr ks _ upd_same (same_new np _ _ hpr) ring lk ⟨n0, na, x, by rw [en], by rw [en]; exact rb⟩ ((s1.trans s2).trans (same_new np))
  refine ⟨(by show 1 ≤ sizeLine; decide), fun z1 nz1 => ⟨_, rfl, z1, ((n : Nat) : Int), _, rfl, rfl, upd_same, by omega, by omega, (by show 1 * ((n : Nat) : Int).toNat ≤ sizeLine; exact little (by omega)), fun ll nll => ?_⟩⟩
  have eL : (List.replicate ((n : Nat) : Int).toNat [V.int 0]).flatten = levL n (fun _ => 0) := by
    rw [flat_rep, Int.toNat_natCast]
    exact (List.map_const' .. ▸ by rw [List.length_range] : List.replicate n (V.int 0) = (List.range n).map fun _ => V.int 0)
  rw [eL]
  refine ⟨(by show 1 ≤ sizeLine; decide), fun z2 nz2 => ⟨_, rfl, z2, ((n : Nat) : Int), _, rfl, rfl, upd_same, by omega, by omega, (by show 1 * ((n : Nat) : Int).toNat ≤ sizeLine; exact little (by omega)), fun lb nlb => ?_⟩⟩
  have eB : (List.replicate ((n : Nat) : Int).toNat [V.non]).flatten = lasL n (fun _ => none) := by
    rw [flat_rep, Int.toNat_natCast]
    exact (List.map_const' .. ▸ by rw [List.length_range] : List.replicate n V.non = (List.range n).map fun _ => V.non)
  rw [eB]
  have sA := ((same_new (o := .lst [V.int 0]) nz1).trans (same_new (o := .lst (levL n (fun _ => 0))) nll))
  have s0 : Same H _ := (sA.trans (same_new (o := .lst [V.non]) nz2)).trans (same_new (o := .lst (lasL n (fun _ => none))) nlb)
  have ll0 : H ll = none := same_none (same_new nz1) nll
  have lb0 : H lb = none := same_none (sA.trans (same_new nz2)) nlb
  have hll0 := same_new (o := .lst (lasL n (fun _ => none))) nlb _ _ (same_new (o := .lst [V.non]) nz2 _ _ (upd_same (H := upd H z1 (.lst [V.int 0])) (a := ll) (o := .lst (levL n (fun _ => 0)))))
  have llb : ll ≠ lb := ne_of_none (same_new (o := .lst [V.non]) nz2 _ _ (upd_same (H := upd H z1 (.lst [V.int 0])) (a := ll) (o := .lst (levL n (fun _ => 0))))) nlb
  have sll : sl ≠ ll := ne_of_none hsl ll0
  have slb : sl ≠ lb := ne_of_none hsl lb0
  refine ⟨_, rfl, _, rfl, by omega, by omega, for_range (lo := 0) (n := ((n : Nat) : Int).toNat) (fun i σ H2 => ∃ (lv : Nat → Int) (la : Nat → Option Nat) (r t : Nat → Nat) (now : Nat) (v : Option Nat) (v5 : Option V), σ = [some (nV n), some (.ref sl), some (.ref ll), some (.ref lb), some (oV v), v5] ∧ H2 ll = some (.lst (levL n lv)) ∧ H2 lb = some (.lst (lasL n la)) ∧ Same H H2 ∧ (∀ p, 0 ≤ lv p) ∧ Lv st (i + 1) 0 lv la r t now ∧ (∀ p, r p < i + 1) ∧ (lrS st i = (lv, la, v) ∧ ∀ i', 1 ≤ i' → i' ≤ i → (lrS st i').2.2 ≠ none) ∧ ((i = 0 ∧ v = none) ∨ ∃ x, v = some x ∧ x < n ∧ r x = i ∧ Lv st i st.length lv la r t now))
    ⟨fun _ => 0, fun _ => none, fun _ => 0, fun _ => 0, 0, none, none, rfl, hll0, upd_same, s0, (fun _ => Int.le_refl _), Lv.start, (fun _ => Nat.zero_lt_one), ⟨rfl, (fun i' h1 h2 => absurd h1 (by omega))⟩, .inl ⟨rfl, rfl⟩⟩ ?_ ?_⟩
  · rintro i σ H2 hi ⟨lv, la, r, t, now, v, v5, rfl, hll, hlb, s, nn, L, rl, ⟨el, na⟩, _⟩
    have hsl2 := s _ _ hsl
    refine ⟨_, rfl, _, rfl, _, rfl, ll, lb, sl, n, i + 1, st, lv, la, r, t, now, rfl, hll, hlb, ⟨sv, hsl2, als.imp fun _ _ z => z.keep (TK.same s)⟩, llb, sll, slb, bd, few, L, rl, fun lv' la' r' t' now' v' H3 h1 h2 L' rz f1 f2 f3 fr => ?_⟩
    have el' := lrS_next el rz
    have s3 : Same H H3 := fun b o e => fr b o (s _ _ e) (ne_of_none e ll0) (ne_of_none e lb0)
    have nn' : ∀ p, 0 ≤ lv' p := fun p => Int.le_trans (nn p) (f3 p)
    cases v' with
    | none =>
      refine ⟨_, rfl, rfl, _, rfl, if_bl (fun _ => ?_) (fun z => absurd rfl (of_decide_eq_false z))⟩
      exact ⟨rfl, ll, lb, lv', la', r', t', now', none, _, rfl, h1, h2, s3, nn', (fun _ => ⟨L'.feas (f1 rfl), i + 1, by omega, (fun z => absurd z (Nat.succ_ne_zero _)), by rw [el'], fun i' h1 h2 => na i' h1 (by omega), by rw [el']⟩), (fun _ z => nomatch z)⟩
    | some x =>
      obtain ⟨xl, rx⟩ := f2 x rfl
      refine ⟨_, rfl, rfl, _, rfl, if_bl (fun z => absurd (of_decide_eq_true z) (fun y => nomatch y)) (fun _ => ?_)⟩
      exact ⟨lv', la', r', t', now', some x, _, rfl, h1, h2, s3, nn', L'.next, fun p => Nat.lt_succ_of_le (L'.rl p), ⟨el', fun i' h1 h2 => by
        by_cases z : i' = i + 1
        · rw [z, el']; exact fun y => nomatch y
        · exact na i' h1 (by omega)⟩, .inr ⟨x, rfl, xl, rx, L'⟩⟩
  · rintro σ H2 ⟨lv, la, r, t, now, v, v5, rfl, hll, hlb, s, nn, L, rl, ⟨el, na⟩, fl⟩
    rw [Int.toNat_natCast] at fl el na
    rcases fl with ⟨z, rfl⟩ | ⟨x, rfl, xl, rx, L'⟩
    · exact ⟨rfl, ll, lb, lv, la, r, t, now, none, _, rfl, hll, hlb, s, nn, (fun _ => ⟨fun s hs => absurd (bd s hs).1 (by omega), n, Nat.le_refl _, fun z => z, by rw [el], fun i' h1 h2 => na i' h1 (by omega), by rw [el]⟩), (fun _ z => nomatch z)⟩
    · exact ⟨rfl, ll, lb, lv, la, r, t, now, some x, _, rfl, hll, hlb, s, nn, (fun z => nomatch z), fun y z => by cases z; exact ⟨xl, rx, L', by omega, na, el⟩⟩
end
/-! ### slices and sums of tuples, whatever they are -/
theorem slA_of {K : PySem.W.Frag} {H : Hp} {a : Addr} {xs : List V} {lo hi : Option Int} {Q : VK} (h : H a = some (.tup xs)) (k : ∀ (p : Addr) (H' : Hp), H' p = some (.tup (cutV xs lo hi)) → Same H H' → Q (.ref p) H') : rSlA K (.ref a) lo hi H Q := by
  refine ⟨a, xs, rfl, SqT.of h, fun z => k a H ?_ (Same.refl _), fun _ p np => k p _ upd_same (same_new np)⟩
  unfold cutV
  rw [z.1, z.2, List.drop_zero, Nat.sub_zero, List.take_length]
  exact h
theorem catA_of {K : PySem.W.Frag} {H : Hp} {a b : Addr} {xs ys : List V} {Q : VK} (h : H a = some (.tup xs)) (g : H b = some (.tup ys)) (l : xs.length + ys.length ≤ 1000) (k : ∀ (p : Addr) (H' : Hp), H' p = some (.tup (xs ++ ys)) → Same H H' → Q (.ref p) H') : rCatA K (.ref a) (.ref b) H Q := by
  refine ⟨a, b, xs, ys, rfl, rfl, SqT.of h, SqT.of g, little l, fun e => k b H ?_ (Same.refl _), fun _ e => k a H ?_ (Same.refl _), fun _ _ p np => k p _ upd_same (same_new np)⟩
  · rw [e]; exact g
  · rw [e, List.append_nil]; exact h
theorem cut_take (xs : List V) (k : Nat) : cutV xs none (some ((k : Nat) : Int)) = xs.take k := by
  unfold cutV
  rw [HT.sIx_nat, HT.sIx_none, List.drop_zero, Nat.sub_zero]
  by_cases h : k ≤ xs.length
  · rw [Nat.min_eq_left h]
  · rw [Nat.min_eq_right (by omega), List.take_length, List.take_of_length_le (by omega)]
theorem cut_part {xs : List V} {lo hi : Option Int} : ∀ x ∈ cutV xs lo hi, x ∈ xs := fun x hx => List.mem_of_mem_drop (List.mem_of_mem_take hx)
theorem cut_nats {ns : List Nat} {lo hi : Option Int} : ∃ ms : List Nat, cutV (ns.map nV) lo hi = ms.map nV ∧ ms.length ≤ ns.length ∧ ∀ x ∈ ms, x ∈ ns := by
  refine ⟨(ns.drop (HT.sIx (ns.map nV).length 0 lo)).take (HT.sIx (ns.map nV).length (ns.map nV).length hi - HT.sIx (ns.map nV).length 0 lo), ?_, ?_, fun x hx => List.mem_of_mem_drop (List.mem_of_mem_take hx)⟩
  · unfold cutV
    rw [List.map_take, List.map_drop]
  · rw [List.length_take, List.length_drop]
    omega
theorem All2.take {α β : Type} {R : α → β → Prop} : ∀ {as : List α} {bs : List β}, All2 R as bs → ∀ n, All2 R (as.take n) (bs.take n)
  | _, _, .nil, n => by rw [List.take_nil, List.take_nil]; exact .nil
  | _, _, .cons h t, 0 => .nil
  | _, _, .cons h t, n + 1 => .cons h (t.take n)
theorem All2.drop {α β : Type} {R : α → β → Prop} : ∀ {as : List α} {bs : List β}, All2 R as bs → ∀ n, All2 R (as.drop n) (bs.drop n)
  | _, _, .nil, n => by rw [List.drop_nil, List.drop_nil]; exact .nil
  | _, _, .cons h t, 0 => .cons h t
  | _, _, .cons h t, n + 1 => t.drop n
theorem All2.app {α β : Type} {R : α → β → Prop} {as : List α} {bs : List β} (h : All2 R as bs) {cs : List α} {ds : List β} (g : All2 R cs ds) : All2 R (as ++ cs) (bs ++ ds) := by
  induction h with
  | nil => exact g
  | cons a _ ih => exact .cons a ih
/-- the hands whose rule is this door's -/
def doorsOf (z : Str) (hs : List HR) : List Nat := (List.range hs.length).filter fun i => decide (hs[i]?.map HR.wd = some z)
theorem mem_doors {z : Str} {hs : List HR} {k : Nat} : k ∈ doorsOf z hs ↔ ∃ h, hs[k]? = some h ∧ h.wd = z := by
  unfold doorsOf
  rw [List.mem_filter, List.mem_range, decide_eq_true_eq]
  constructor
  · rintro ⟨a, b⟩
    rw [List.getElem?_eq_getElem a] at b
    exact ⟨_, List.getElem?_eq_getElem a, Option.some.inj b⟩
  · rintro ⟨h, a, b⟩
    refine ⟨(List.getElem?_eq_some_iff.mp a).1, ?_⟩
    rw [a, ← b]
    rfl
theorem doors_nodup {z : Str} {hs : List HR} : (doorsOf z hs).Nodup := List.nodup_range.filter _
theorem doors_len {z : Str} {hs : List HR} : (doorsOf z hs).length ≤ hs.length := by
  refine Nat.le_trans (List.length_filter_le ..) ?_
  rw [List.length_range]
  exact Nat.le_refl _
abbrev gD (m : List Int) (k : Nat) : Int := m.getD k 0
section
variable {P : Program} {w : World} {K : PySem.W.Frag} {mg : Str → Option Value} {base : Heap}
def sp_doors (z : Str) : Sp := fun vs H Q _ => ∃ (r : Addr) (hs : List HR) (bs : List BR), vs = [.ref r] ∧ RoomAt H r hs bs ∧ hs.length ≤ 400 ∧ (∀ h ∈ hs, GoodHand h) ∧ ∀ (p : Addr) (H' : Hp), H p = none → H' p = some (.lst ((doorsOf z hs).map nV)) → Same H H' → Q (.ref p) H'
abbrev sp_doors_in (K : PySem.W.Frag) : Sp := sp_doors "in"
abbrev sp_doors_out (K : PySem.W.Frag) : Sp := sp_doors "out"
theorem ok_doors_in {f : Addr} {fd : FuncData} (F : Fun K "doors_in" "doors_in" s_doors_in f fd) (T : Top K mg) : FnOk P w K mg base CX0 1 f fd ["room"] (sp_doors_in K) := by
  refine F.ok sc_doors_in (fun vs H Q E h => ?_) (fun cdv A outer s H vs Q E hr h => ?_)
  · obtain ⟨r, hs, bs, rfl, _⟩ := h
    rfl
  obtain ⟨aI, mI, hI⟩ := T.x_in
  obtain ⟨r, hs, bs, rfl, hR, lb, good, q⟩ := h
  obtain ⟨ha, ba, hv, bv, er, eh, eb, alh, alb⟩ := hR.ex
  have lhv := alh.length
  refine ⟨_, (pss_one (ps_ret (pe_lc (own := [("number", 1), ("hand", 2)]) (g := gTup K 2 (gCons (gName 1) (gCons (gName 2) gNil))) (by rfl) sc_doors_in.nd (pi_enumT K rfl (by rfl) T.m_enumerate (pa_cons (pe_ix (ix_tupK K rfl) (pv 0) pe_int (fun _ _ => rfl)) pa_nil)) (blkOk_by (own := [("number", 1), ("hand", 2)]) (N := N_doors_in) (sc := defScope s_doors_in) (by decide +kernel)) (fun _ _ _ _ _ => (pg_tupK K rfl rfl (pgs_cons (pg_name (i := 1) sc_doors_in.nd rfl (Or.inl rfl)) (pgs_cons (pg_name (i := 2) sc_doors_in.nd rfl (Or.inl rfl)) pgs_nil)))) (fun _ _ _ _ _ => pts_one (pt_cmpR (op_eqDK K rfl hr.units) (pe_ix (ix_tupK K rfl) (pv 2) pe_int (fun _ _ => rfl)) (pe_glob (v := .ref aI) (by rfl) mI rfl) (nomark _))) (fun _ _ _ _ _ => (pv 1))))), ?_⟩
  refine ⟨_, rfl, r, _, _, _, rfl, rfl, SqT.of er, atI_nat (j := 0) rfl, ha, hv, rfl, SqT.of eh, fun D nD => lc_it (J := IteT K ha hv) (n := hv.length) (fun i H5 => H5 D = some (.lst (((List.range i).filter fun j => decide (hs[j]?.map HR.wd = some ("in" : Str))).map nV)) ∧ Same H H5) ⟨upd_same, same_new nD⟩ ?_ ?_ ?_ ?_⟩
  · rintro i H5 hi ⟨hD, s5⟩
    exact ⟨SqT.of (s5 _ _ eh), hi⟩
  · rintro H5 ⟨hD, s5⟩
    exact ⟨SqT.of (s5 _ _ eh), rfl⟩
  · rintro i x H5 H6 hi ⟨hD, s5⟩ ⟨t, y, rfl, nt, rfl, ey⟩
    obtain ⟨hh, eb2, ⟨t2, g, rfl, e1, e2⟩⟩ := alh.getL ey
    have gh := good _ (List.mem_of_getElem? eb2)
    have s6 := s5.trans (same_new (o := .tup [V.int ((i : Nat) : Int), V.ref t2]) nt)
    have hD6 := same_new (o := .tup [V.int ((i : Nat) : Int), V.ref t2]) nt _ _ hD
    have few := filt_len (p := fun j => decide (hs[j]?.map HR.wd = some ("in" : Str))) i
    refine ⟨t, _, rfl, SqT.of upd_same, rfl, _, _, rfl, _, _, rfl, rfl, rfl, _, rfl, t2, _, _, _, rfl, rfl, SqT.of (s6 _ _ e1), atI_nat (j := 0) rfl, ?_⟩
    refine ⟨_, _, rule_dp (s6 _ _ e2), .tup (hI _) (.cons (.str _) .nil), rule_shaped gh.lay, one_shaped (by decide +kernel), _, rfl, ?_⟩
    rw [rule_eqv, gh.door "in" (.inl rfl)]
    by_cases c : hh.wd = "in"
    · rw [decide_eq_true c]
      refine if_bl (fun _ => ⟨_, rfl, _, hD6, by rw [List.length_map]; exact small1000 (by omega), ?_, Same.own s6 nD⟩) (fun z => nomatch z)
      rw [upd_same, filt_succ, if_pos (decide_eq_true (by rw [eb2, ← c]; rfl)), List.map_append]
      rfl
    · rw [decide_eq_false c]
      refine if_bl (fun z => nomatch z) (fun _ => ⟨?_, s6⟩)
      rw [filt_succ, if_neg fun z => c (by have := of_decide_eq_true z; rw [eb2] at this; exact Option.some.inj this), List.append_nil]
      exact hD6
  · rintro H5 ⟨hD, s5⟩
    refine q D H5 nD ?_ s5
    rw [hD, lhv]
    rfl
end
section
variable {P : Program} {w : World} {K : PySem.W.Frag} {mg : Str → Option Value} {base : Heap}
theorem ok_doors_out {f : Addr} {fd : FuncData} (F : Fun K "doors_out" "doors_out" s_doors_out f fd) (T : Top K mg) : FnOk P w K mg base CX0 1 f fd ["room"] (sp_doors_out K) := by
  refine F.ok sc_doors_out (fun vs H Q E h => ?_) (fun cdv A outer s H vs Q E hr h => ?_)
  · obtain ⟨r, hs, bs, rfl, _⟩ := h
    rfl
  obtain ⟨aO, mO, hI⟩ := T.x_out
  obtain ⟨r, hs, bs, rfl, hR, lb, good, q⟩ := h
  obtain ⟨ha, ba, hv, bv, er, eh, eb, alh, alb⟩ := hR.ex
  have lhv := alh.length
  refine ⟨_, (pss_one (ps_ret (pe_lc (own := [("number", 1), ("hand", 2)]) (g := gTup K 2 (gCons (gName 1) (gCons (gName 2) gNil))) (by rfl) sc_doors_out.nd (pi_enumT K rfl (by rfl) T.m_enumerate (pa_cons (pe_ix (ix_tupK K rfl) (pv 0) pe_int (fun _ _ => rfl)) pa_nil)) (blkOk_by (own := [("number", 1), ("hand", 2)]) (N := N_doors_out) (sc := defScope s_doors_out) (by decide +kernel)) (fun _ _ _ _ _ => (pg_tupK K rfl rfl (pgs_cons (pg_name (i := 1) sc_doors_out.nd rfl (Or.inl rfl)) (pgs_cons (pg_name (i := 2) sc_doors_out.nd rfl (Or.inl rfl)) pgs_nil)))) (fun _ _ _ _ _ => pts_one (pt_cmpR (op_eqDK K rfl hr.units) (pe_ix (ix_tupK K rfl) (pv 2) pe_int (fun _ _ => rfl)) (pe_glob (v := .ref aO) (by rfl) mO rfl) (nomark _))) (fun _ _ _ _ _ => (pv 1))))), ?_⟩
  refine ⟨_, rfl, r, _, _, _, rfl, rfl, SqT.of er, atI_nat (j := 0) rfl, ha, hv, rfl, SqT.of eh, fun D nD => lc_it (J := IteT K ha hv) (n := hv.length) (fun i H5 => H5 D = some (.lst (((List.range i).filter fun j => decide (hs[j]?.map HR.wd = some ("out" : Str))).map nV)) ∧ Same H H5) ⟨upd_same, same_new nD⟩ ?_ ?_ ?_ ?_⟩
  · rintro i H5 hi ⟨hD, s5⟩
    exact ⟨SqT.of (s5 _ _ eh), hi⟩
  · rintro H5 ⟨hD, s5⟩
    exact ⟨SqT.of (s5 _ _ eh), rfl⟩
  · rintro i x H5 H6 hi ⟨hD, s5⟩ ⟨t, y, rfl, nt, rfl, ey⟩
    obtain ⟨hh, eb2, ⟨t2, g, rfl, e1, e2⟩⟩ := alh.getL ey
    have gh := good _ (List.mem_of_getElem? eb2)
    have s6 := s5.trans (same_new (o := .tup [V.int ((i : Nat) : Int), V.ref t2]) nt)
    have hD6 := same_new (o := .tup [V.int ((i : Nat) : Int), V.ref t2]) nt _ _ hD
    have few := filt_len (p := fun j => decide (hs[j]?.map HR.wd = some ("out" : Str))) i
    refine ⟨t, _, rfl, SqT.of upd_same, rfl, _, _, rfl, _, _, rfl, rfl, rfl, _, rfl, t2, _, _, _, rfl, rfl, SqT.of (s6 _ _ e1), atI_nat (j := 0) rfl, ?_⟩
    refine ⟨_, _, rule_dp (s6 _ _ e2), .tup (hI _) (.cons (.str _) .nil), rule_shaped gh.lay, one_shaped (by decide +kernel), _, rfl, ?_⟩
    rw [rule_eqv, gh.door "out" (.inr rfl)]
    by_cases c : hh.wd = "out"
    · rw [decide_eq_true c]
      refine if_bl (fun _ => ⟨_, rfl, _, hD6, by rw [List.length_map]; exact small1000 (by omega), ?_, Same.own s6 nD⟩) (fun z => nomatch z)
      rw [upd_same, filt_succ, if_pos (decide_eq_true (by rw [eb2, ← c]; rfl)), List.map_append]
      rfl
    · rw [decide_eq_false c]
      refine if_bl (fun z => nomatch z) (fun _ => ⟨?_, s6⟩)
      rw [filt_succ, if_neg fun z => c (by have := of_decide_eq_true z; rw [eb2] at this; exact Option.some.inj this), List.append_nil]
      exact hD6
  · rintro H5 ⟨hD, s5⟩
    refine q D H5 nD ?_ s5
    rw [hD, lhv]
    rfl
end
/-! ### rooms, as far as shifts and levels look at them -/
structure HOk (hs : List HR) : Prop where
  hands : hs.length ≤ 12
  good : ∀ h ∈ hs, GoodHand h
def lateV : Option Nat → V
  | none => .non
  | some l => nV l
def jumpsOf (hs : List HR) : Option Nat → List St3
  | none => []
  | some l => (doorsOf "out" hs).flatMap fun d => (doorsOf "in" hs).map fun o => ⟨d, o, -((l : Nat) : Int)⟩
theorem door_lt {z : Str} {hs : List HR} {k : Nat} (h : k ∈ doorsOf z hs) : k < hs.length := by
  obtain ⟨x, e, _⟩ := mem_doors.mp h
  exact (List.getElem?_eq_some_iff.mp e).1
theorem jumps_bd {hs : List HR} {late : Option Nat} : ∀ s ∈ jumpsOf hs late, s.u < hs.length ∧ s.v < hs.length := fun s h => by
  cases late with
  | none => exact nomatch h
  | some l =>
    obtain ⟨d, hd, h2⟩ := List.mem_flatMap.mp h
    obtain ⟨o, ho, rfl⟩ := List.mem_map.mp h2
    exact ⟨door_lt hd, door_lt ho⟩
theorem jumps_len {hs : List HR} {late : Option Nat} (h : hs.length ≤ 12) : (jumpsOf hs late).length ≤ 144 := by
  cases late with
  | none => exact Nat.zero_le _
  | some l =>
    have d1 := doors_len (z := "out") (hs := hs)
    have d2 := doors_len (z := "in") (hs := hs)
    have key : ∀ ds : List Nat, (ds.flatMap fun d => (doorsOf "in" hs).map fun o => (⟨d, o, -((l : Nat) : Int)⟩ : St3)).length = ds.length * (doorsOf "in" hs).length := fun ds => by
      induction ds with
      | nil => exact (Nat.zero_mul _).symm
      | cons d ds ih => rw [List.flatMap_cons, List.length_append, List.length_map, ih, List.length_cons, Nat.succ_mul]; omega
    show ((doorsOf "out" hs).flatMap _).length ≤ 144
    rw [key]
    exact Nat.le_trans (Nat.mul_le_mul (show _ ≤ 12 by omega) (show _ ≤ 12 by omega)) (by decide)
section
variable {P : Program} {w : World} {K : PySem.W.Frag} {mg : Str → Option Value} {base : Heap}
def sp_jumps (K : PySem.W.Frag) : Sp := fun vs H Q _ => ∃ (r : Addr) (hs : List HR) (bs : List BR) (late : Option Nat), vs = [.ref r, lateV late] ∧ RoomAt H r hs bs ∧ HOk hs ∧
  ∀ (p : Addr) (sv : List V) (H' : Hp), H' p = some (.lst sv) → All2 (StepAt H') sv (jumpsOf hs late) → Same H H' → Q (.ref p) H'
theorem ok_jumps {f : Addr} {fd : FuncData} (F : Fun K "jumps" "jumps" s_jumps f fd) (T : Top K mg) : FnOk P w K mg base CX0 2 f fd ["room", "late"] (sp_jumps K) := by
  obtain ⟨f_doors_out, fd_doors_out, F_doors_out, b_doors_out, m_doors_out⟩ := T.d_doors_out
  have G_doors_out := ok_doors_out (P := P) (w := w) (base := base) F_doors_out T
  obtain ⟨f_doors_in, fd_doors_in, F_doors_in, b_doors_in, m_doors_in⟩ := T.d_doors_in
  have G_doors_in := ok_doors_in (P := P) (w := w) (base := base) F_doors_in T
  refine F.ok sc_jumps (fun vs H Q E h => ?_) (fun cdv A outer s H vs Q E hr h => ?_)
  · obtain ⟨r, hs, bs, late, rfl, _⟩ := h
    rfl
  obtain ⟨r, hs, bs, late, rfl, hR, ok, q⟩ := h
  have lh := ok.hands
  refine ⟨_, (pss_cons (ps_if (pt_cmpR op_isN (pv 1) pe_non (nomark _)) (pss_one (ps_ret (pe_lst pa_nil))) pss_nil)
      (pss_one (ps_ret (pe_lc2 (own := [("door", 2), ("other", 3)]) (vs1 := [3]) (g := gName 2) (g1 := gName 3) (tt := tYes) (tt1 := tYes) (by rfl) sc_jumps.nd (pi_listK K rfl (pe_call G_doors_out (hr.mono (by decide)) (by rfl) m_doors_out F_doors_out.kp b_doors_out .nil pass0 (pa_cons (pv 0) pa_nil))) (blkOk_by (own := [("door", 2), ("other", 3)]) (N := N_jumps) (sc := defScope s_jumps) (by decide +kernel)) (by decide) (fun _ _ _ _ _ => (pg_name (i := 2) sc_jumps.nd rfl (Or.inl rfl))) (fun _ _ _ _ _ => pts_nil) (fun _ _ _ _ _ => (pi_listK K rfl (pe_call G_doors_in (hr.mono (by decide)) (by rfl) m_doors_in F_doors_in.kp b_doors_in .nil pass0 (pa_cons (pv 0) pa_nil)))) (fun _ _ _ _ _ => (pg_name (i := 3) sc_jumps.nd rfl (Or.inl rfl))) (fun _ _ _ _ _ => pts_nil) (fun _ _ _ _ _ => (pe_tup (pa_cons (pv 2) (pa_cons (pv 3) (pa_cons (pe_un un_neg (pv 1)) pa_nil))))))))), ?_⟩
  cases late with
  | none =>
    refine ⟨_, rfl, rfl, _, rfl, if_bl (fun _ => ?_) (fun z => absurd rfl (of_decide_eq_false z))⟩
    exact ⟨(by show 0 ≤ sizeLine; decide), fun p np => q p [] _ upd_same .nil (same_new np)⟩
  | some l =>
  refine ⟨_, rfl, rfl, _, rfl, if_bl (fun z => absurd (of_decide_eq_true z) (fun y => nomatch y)) (fun _ => ?_)⟩
  refine ⟨_, rfl, r, hs, bs, rfl, hR, by omega, ok.good, fun ol H1 nol hol s1 => ?_⟩
  have d1 := doors_len (z := "out") (hs := hs)
  have d2 := doors_len (z := "in") (hs := hs)
  refine ⟨ol, rfl, ⟨_, SqL.of hol⟩, fun D nD => ⟨fun i m H5 => m = (doorsOf "out" hs).length - i ∧ i ≤ (doorsOf "out" hs).length ∧ ∃ sv, H5 D = some (.lst sv) ∧ All2 (StepAt H5) sv (((doorsOf "out" hs).take i).flatMap fun d => (doorsOf "in" hs).map fun o => ⟨d, o, -((l : Nat) : Int)⟩) ∧ sv.length ≤ 12 * i ∧ Same H1 H5, ⟨_, rfl, Nat.zero_le _, [], upd_same, .nil, Nat.le_refl _, same_new nD⟩, ?_⟩⟩
  rintro i m H5 ⟨rfl, hi, sv, hD, al, lsv, s5⟩
  have hol5 := s5 _ _ hol
  by_cases hlt : i < (doorsOf "out" hs).length
  · have ed : (doorsOf "out" hs)[i]? = some (doorsOf "out" hs)[i] := List.getElem?_eq_getElem hlt
    refine .inr ⟨⟨_, _, SqL.of hol5, by rw [List.getElem?_map, ed]; rfl⟩, fun H' => ∃ m', m' < (doorsOf "out" hs).length - i ∧ m' = (doorsOf "out" hs).length - (i + 1) ∧ i + 1 ≤ (doorsOf "out" hs).length ∧ ∃ sv, H' D = some (.lst sv) ∧ All2 (StepAt H') sv (((doorsOf "out" hs).take (i + 1)).flatMap fun d => (doorsOf "in" hs).map fun o => ⟨d, o, -((l : Nat) : Int)⟩) ∧ sv.length ≤ 12 * (i + 1) ∧ Same H1 H', fun H' h => h, ?_⟩
    rintro x H6 ⟨rfl, ey⟩
    have ex : x = nV (doorsOf "out" hs)[i] := by
      have := ey _ (SqL.of hol5)
      rw [List.getElem?_map, ed] at this
      exact (Option.some.inj this).symm
    subst ex
    refine ⟨rfl, yes_in ⟨_, rfl, r, hs, bs, rfl, (hR.keep (TK.same s1)).keep (TK.same s5), by omega, ok.good, fun il H7 nil_ hil s7 => ?_⟩⟩
    have hD7 := s7 _ _ hD
    refine ⟨il, rfl, ⟨_, SqL.of hil⟩, fun j k H8 => k = (doorsOf "in" hs).length - j ∧ j ≤ (doorsOf "in" hs).length ∧ ∃ sv', H8 D = some (.lst sv') ∧ All2 (StepAt H8) sv' ((((doorsOf "out" hs).take i).flatMap fun d => (doorsOf "in" hs).map fun o => ⟨d, o, -((l : Nat) : Int)⟩) ++ ((doorsOf "in" hs).take j).map fun o => ⟨(doorsOf "out" hs)[i], o, -((l : Nat) : Int)⟩) ∧ sv'.length ≤ 12 * i + j ∧ Same H1 H8 ∧ H8 il = some (.lst ((doorsOf "in" hs).map nV)), ⟨_, rfl, Nat.zero_le _, sv, hD7, by rw [List.take_zero, List.map_nil, List.append_nil]; exact al.imp fun _ _ z => z.keep (TK.same s7), by omega, s5.trans s7, hil⟩, ?_⟩
    rintro j k H8 ⟨rfl, hj, sv', hD8, al8, l8, s8, hil8⟩
    have ilD : il ≠ D := (ne_of_none hD nil_).symm
    by_cases jlt : j < (doorsOf "in" hs).length
    · have eo : (doorsOf "in" hs)[j]? = some (doorsOf "in" hs)[j] := List.getElem?_eq_getElem jlt
      refine .inr ⟨⟨_, _, SqL.of hil8, by rw [List.getElem?_map, eo]; rfl⟩, fun H' => ∃ k', k' < (doorsOf "in" hs).length - j ∧ k' = (doorsOf "in" hs).length - (j + 1) ∧ j + 1 ≤ (doorsOf "in" hs).length ∧ ∃ sv', H' D = some (.lst sv') ∧ All2 (StepAt H') sv' ((((doorsOf "out" hs).take i).flatMap fun d => (doorsOf "in" hs).map fun o => ⟨d, o, -((l : Nat) : Int)⟩) ++ ((doorsOf "in" hs).take (j + 1)).map fun o => ⟨(doorsOf "out" hs)[i], o, -((l : Nat) : Int)⟩) ∧ sv'.length ≤ 12 * i + (j + 1) ∧ Same H1 H' ∧ H' il = some (.lst ((doorsOf "in" hs).map nV)), fun H' h => h, ?_⟩
      rintro x H9 ⟨rfl, ey⟩
      have ex : x = nV (doorsOf "in" hs)[j] := by
        have := ey _ (SqL.of hil8)
        rw [List.getElem?_map, eo] at this
        exact (Option.some.inj this).symm
      subst ex
      refine ⟨rfl, yes_in ⟨_, rfl, _, rfl, _, rfl, _, rfl, (by show 3 ≤ sizeLine; decide), fun t nt => ?_⟩⟩
      have hD9 := same_new (o := .tup [nV (doorsOf "out" hs)[i], nV (doorsOf "in" hs)[j], V.int (-((l : Nat) : Int))]) nt _ _ hD8
      refine ⟨sv', hD9, small1000 (by omega), _, by omega, rfl, by omega, sv' ++ [V.ref t], upd_same, ?_, by rw [List.length_append]; show sv'.length + 1 ≤ _; omega, Same.own (s8.trans (same_new nt)) nD, by rw [upd_ne ilD]; exact same_new nt _ _ hil8⟩
      rw [show ((doorsOf "in" hs).take (j + 1)).map (fun o => (⟨(doorsOf "out" hs)[i], o, -((l : Nat) : Int)⟩ : St3)) = ((doorsOf "in" hs).take j).map (fun o => (⟨(doorsOf "out" hs)[i], o, -((l : Nat) : Int)⟩ : St3)) ++ [⟨(doorsOf "out" hs)[i], (doorsOf "in" hs)[j], -((l : Nat) : Int)⟩] by rw [List.take_add_one, eo, List.map_append]; rfl, ← List.append_assoc]
      exact ((al8.imp fun _ _ z => z.keep (TK.new nt)).snoc ⟨t, rfl, upd_same⟩).imp fun _ _ z => z.keep (TK.lst hD9)
    · have e : j = (doorsOf "in" hs).length := by omega
      subst e
      refine .inl ⟨⟨_, SqL.of hil8, by rw [List.length_map]; exact Nat.le_refl _⟩, _, by omega, rfl, by omega, sv', hD8, ?_, by omega, s8⟩
      rw [List.take_length] at al8
      rw [show ((doorsOf "out" hs).take (i + 1)).flatMap (fun d => (doorsOf "in" hs).map fun o => (⟨d, o, -((l : Nat) : Int)⟩ : St3)) = (((doorsOf "out" hs).take i).flatMap fun d => (doorsOf "in" hs).map fun o => (⟨d, o, -((l : Nat) : Int)⟩ : St3)) ++ (doorsOf "in" hs).map fun o => (⟨(doorsOf "out" hs)[i], o, -((l : Nat) : Int)⟩ : St3) by rw [List.take_add_one, ed, List.flatMap_append]; simp]
      exact al8
  · have e : i = (doorsOf "out" hs).length := by omega
    subst e
    refine .inl ⟨⟨_, SqL.of hol5, by rw [List.length_map]; exact Nat.le_refl _⟩, q D sv H5 hD ?_ (s1.trans s5)⟩
    rw [List.take_length] at al
    exact al
end
theorem lev_set {n : Nat} {f : Nat → Int} {j : Nat} {z : Int} (hj : j < n) : (levL n f).set j (V.int z) = levL n fun k => if k = j then z else f k := by
  refine List.ext_getElem? fun m => ?_
  by_cases e : m = j
  · subst e
    rw [List.getElem?_set_self (by rw [List.length_map, List.length_range]; exact hj), rg_at hj]
    show _ = some (V.int (if m = m then z else f m))
    rw [if_pos rfl]
  · rw [List.getElem?_set_ne (fun z => e z.symm)]
    by_cases l : m < n
    · rw [rg_at l, rg_at l]
      show _ = some (V.int (if m = j then z else f m))
      rw [if_neg e]
    · rw [List.getElem?_eq_none (by rw [List.length_map, List.length_range]; omega), List.getElem?_eq_none (by rw [List.length_map, List.length_range]; omega)]
theorem take_if {l : List Nat} {i j : Nat} {z : Int} {f : Nat → Int} (e : l[i]? = some j) : (fun k => if k = j then z else if k ∈ l.take i then z else f k) = fun k => if k ∈ l.take (i + 1) then z else f k := by
  funext k
  rw [List.take_add_one, e]
  show _ = if k ∈ l.take i ++ [j] then z else f k
  by_cases a : k = j
  · rw [if_pos a, if_pos (by rw [a]; exact List.mem_append_right _ (List.mem_singleton.mpr rfl))]
  · rw [if_neg a]
    by_cases b : k ∈ l.take i
    · rw [if_pos b, if_pos (List.mem_append_left _ b)]
    · rw [if_neg b, if_neg fun c => (List.mem_append.mp c).elim b fun d => a (List.mem_singleton.mp d)]
/-- what the shifts are, by levels -/
def ShOf (hs : List HR) (late : Option Nat) (lv sh : Nat → Int) : Prop := ∃ gr to : Int, (∀ k ∈ doorsOf "in" hs, sh k = 0 ∧ gr ≤ lv k) ∧ (∀ k ∈ doorsOf "out" hs, sh k = to) ∧ (∀ k, k ∉ doorsOf "in" hs → k ∉ doorsOf "out" hs → sh k = lv k - gr) ∧
  (∀ l : Nat, late = some l → to = ((l : Nat) : Int) ∧ ((∃ o ∈ doorsOf "in" hs, gr = lv o) ∨ (doorsOf "in" hs = [] ∧ ∀ d ∈ doorsOf "out" hs, lv d - ((l : Nat) : Int) ≤ gr))) ∧ (late = none → (∀ d ∈ doorsOf "out" hs, lv d ≤ to) ∧ ((∃ o ∈ doorsOf "in" hs, gr = lv o) ∨ gr = 0))
theorem door_one {hs : List HR} {k : Nat} (a : k ∈ doorsOf "in" hs) (b : k ∈ doorsOf "out" hs) : False := by
  obtain ⟨h, e1, e2⟩ := mem_doors.mp a
  obtain ⟨h', e3, e4⟩ := mem_doors.mp b
  rw [e1] at e3
  cases e3
  rw [e2] at e4
  exact absurd e4 (by decide +kernel)
/-! ### what is told, to the number -/
def MaxD (l : List Nat) (f : Nat → Int) (d m : Int) : Prop := (l = [] ∧ m = d) ∨ ((∃ o ∈ l, m = f o) ∧ ∀ o ∈ l, f o ≤ m)
def MinD (l : List Nat) (f : Nat → Int) (d m : Int) : Prop := (l = [] ∧ m = d) ∨ ((∃ o ∈ l, m = f o) ∧ ∀ o ∈ l, m ≤ f o)
theorem MaxD.one {l : List Nat} {f : Nat → Int} {d m m' : Int} (a : MaxD l f d m) (b : MaxD l f d m') : m = m' := by
  rcases a with ⟨e, rfl⟩ | ⟨⟨o, ho, rfl⟩, ge⟩
  · rcases b with ⟨_, rfl⟩ | ⟨⟨o, ho, _⟩, _⟩
    · rfl
    · rw [e] at ho; cases ho
  · rcases b with ⟨e, _⟩ | ⟨⟨o', ho', rfl⟩, ge'⟩
    · rw [e] at ho; cases ho
    · exact Int.le_antisymm (ge' o ho) (ge o' ho')
theorem MinD.one {l : List Nat} {f : Nat → Int} {d m m' : Int} (a : MinD l f d m) (b : MinD l f d m') : m = m' := by
  rcases a with ⟨e, rfl⟩ | ⟨⟨o, ho, rfl⟩, ge⟩
  · rcases b with ⟨_, rfl⟩ | ⟨⟨o, ho, _⟩, _⟩
    · rfl
    · rw [e] at ho; cases ho
  · rcases b with ⟨e, _⟩ | ⟨⟨o', ho', rfl⟩, ge'⟩
    · rw [e] at ho; cases ho
    · exact Int.le_antisymm (ge o' ho') (ge' o ho)
structure ShN (hs : List HR) (late : Option Nat) (lv : Nat → Int) (hi to fr gr : Int) : Prop where
  top : MaxD (doorsOf "out" hs) lv 0 hi
  some_ : ∀ l : Nat, late = some l → to = ((l : Nat) : Int)
  none_ : late = none → to = hi
  fr1 : doorsOf "out" hs ≠ [] → fr = hi - to
  fr0 : doorsOf "out" hs = [] → fr = 0
  low : MinD (doorsOf "in" hs) lv fr gr
def ShX (hs : List HR) (late : Option Nat) (lv sh : Nat → Int) : Prop := ∃ hi to fr gr : Int, ShN hs late lv hi to fr gr ∧ sh = fun k => if k ∈ doorsOf "out" hs then to else if k ∈ doorsOf "in" hs then 0 else lv k - gr
theorem ShX.one {hs : List HR} {late : Option Nat} {lv sh sh' : Nat → Int} (a : ShX hs late lv sh) (b : ShX hs late lv sh') : sh = sh' := by
  obtain ⟨hi, to, fr, gr, n, rfl⟩ := a
  obtain ⟨hi', to', fr', gr', n', rfl⟩ := b
  obtain rfl := n.top.one n'.top
  obtain rfl : to = to' := by
    cases late with
    | none => rw [n.none_ rfl, n'.none_ rfl]
    | some l => rw [n.some_ l rfl, n'.some_ l rfl]
  obtain rfl : fr = fr' := by
    by_cases e : doorsOf "out" hs = []
    · rw [n.fr0 e, n'.fr0 e]
    · rw [n.fr1 e, n'.fr1 e]
  obtain rfl := n.low.one n'.low
  rfl
theorem ShX.of {hs : List HR} {late : Option Nat} {lv sh : Nat → Int} (a : ShX hs late lv sh) : ShOf hs late lv sh := by
  obtain ⟨hi, to, fr, gr, n, rfl⟩ := a
  have top : ∀ d ∈ doorsOf "out" hs, lv d ≤ hi := fun d hd => by
    rcases n.top with ⟨e, _⟩ | ⟨_, ge⟩
    · rw [e] at hd; cases hd
    · exact ge d hd
  have low : ∀ k ∈ doorsOf "in" hs, gr ≤ lv k := fun d hd => by
    rcases n.low with ⟨e, _⟩ | ⟨_, ge⟩
    · rw [e] at hd; cases hd
    · exact ge d hd
  refine ⟨gr, to, fun k hk => ⟨?_, low k hk⟩, fun k hk => ?_, fun k k1 k2 => ?_, fun l el => ⟨n.some_ l el, ?_⟩, fun ln => ⟨fun d hd => by rw [n.none_ ln]; exact top d hd, ?_⟩⟩
  · show (if k ∈ doorsOf "out" hs then to else if k ∈ doorsOf "in" hs then 0 else lv k - gr) = 0
    rw [if_neg fun z => door_one hk z, if_pos hk]
  · show (if k ∈ doorsOf "out" hs then to else if k ∈ doorsOf "in" hs then 0 else lv k - gr) = _
    rw [if_pos hk]
  · show (if k ∈ doorsOf "out" hs then to else if k ∈ doorsOf "in" hs then 0 else lv k - gr) = _
    rw [if_neg k2, if_neg k1]
  · rcases n.low with ⟨e, g⟩ | ⟨⟨o, ho, g⟩, _⟩
    · refine .inr ⟨e, fun d hd => ?_⟩
      have := top d hd
      have := n.fr1 (List.ne_nil_of_mem hd)
      have := n.some_ l el
      omega
    · exact .inl ⟨o, ho, g⟩
  · rcases n.low with ⟨e, g⟩ | ⟨⟨o, ho, g⟩, _⟩
    · refine .inr ?_
      by_cases z : doorsOf "out" hs = []
      · rw [g, n.fr0 z]
      · have := n.fr1 z
        have := n.none_ ln
        omega
    · exact .inl ⟨o, ho, g⟩
section
variable {P : Program} {w : World} {K : PySem.W.Frag} {mg : Str → Option Value} {base : Heap}
def sp_shifts_by (K : PySem.W.Frag) : Sp := fun vs H Q _ => ∃ (r ll : Addr) (hs : List HR) (bs : List BR) (late : Option Nat) (lv : Nat → Int), vs = [.ref r, lateV late, .ref ll] ∧ RoomAt H r hs bs ∧ HOk hs ∧ H ll = some (.lst (levL hs.length lv)) ∧
  ∀ (p : Addr) (sh : Nat → Int) (H' : Hp), H' p = some (.tup (levL hs.length sh)) → ShX hs late lv sh → Same H H' → Q (.ref p) H'
theorem ok_shifts_by {f : Addr} {fd : FuncData} (F : Fun K "shifts_by" "shifts_by" s_shifts_by f fd) (T : Top K mg) : FnOk P w K mg base CX0 2 f fd ["room", "late", "levels"] (sp_shifts_by K) := by
  obtain ⟨f_doors_in, fd_doors_in, F_doors_in, b_doors_in, m_doors_in⟩ := T.d_doors_in
  have G_doors_in := ok_doors_in (P := P) (w := w) (base := base) F_doors_in T
  obtain ⟨f_doors_out, fd_doors_out, F_doors_out, b_doors_out, m_doors_out⟩ := T.d_doors_out
  have G_doors_out := ok_doors_out (P := P) (w := w) (base := base) F_doors_out T
  refine F.ok sc_shifts_by (fun vs H Q E h => ?_) (fun cdv A outer s H vs Q E hr h => ?_)
  · obtain ⟨r, ll, hs, bs, late, lv, rfl, _⟩ := h
    rfl
  obtain ⟨r, ll, hs, bs, late, lv, rfl, hR, ok, hll, q⟩ := h
  have lh := ok.hands
  have d1 := doors_len (z := "out") (hs := hs)
  have d2 := doors_len (z := "in") (hs := hs)
  let R1 : TS := fun D' σ' H' => D'.rt = Q ∧ ∃ (il ol : Addr) (hi : Int), σ' = [some (.ref r), some (lateV late), some (.ref ll), some (.ref il), some (.ref ol), some (.int hi), none, none, none, none, none, none] ∧ H' il = some (.lst ((doorsOf "in" hs).map nV)) ∧ H' ol = some (.lst ((doorsOf "out" hs).map nV)) ∧ MaxD (doorsOf "out" hs) lv 0 hi ∧ Same H H'
  let R2 : TS := fun D' σ' H' => D'.rt = Q ∧ ∃ (il ol : Addr) (hi to : Int), σ' = [some (.ref r), some (lateV late), some (.ref ll), some (.ref il), some (.ref ol), some (.int hi), none, some (.int to), none, none, none, none] ∧ H' il = some (.lst ((doorsOf "in" hs).map nV)) ∧ H' ol = some (.lst ((doorsOf "out" hs).map nV)) ∧ MaxD (doorsOf "out" hs) lv 0 hi ∧ ((∀ l : Nat, late = some l → to = ((l : Nat) : Int)) ∧ (late = none → to = hi)) ∧ Same H H'
  let R3 : TS := fun D' σ' H' => D'.rt = Q ∧ ∃ (il ol : Addr) (hi to fr : Int), σ' = [some (.ref r), some (lateV late), some (.ref ll), some (.ref il), some (.ref ol), some (.int hi), none, some (.int to), some (.int fr), none, none, none] ∧ H' il = some (.lst ((doorsOf "in" hs).map nV)) ∧ H' ol = some (.lst ((doorsOf "out" hs).map nV)) ∧ MaxD (doorsOf "out" hs) lv 0 hi ∧ ((∀ l : Nat, late = some l → to = ((l : Nat) : Int)) ∧ (late = none → to = hi)) ∧ ((doorsOf "out" hs ≠ [] → fr = hi - to) ∧ (doorsOf "out" hs = [] → fr = 0)) ∧ Same H H'
  let R4 : TS := fun D' σ' H' => D'.rt = Q ∧ ∃ (il ol : Addr) (hi to fr gr : Int), σ' = [some (.ref r), some (lateV late), some (.ref ll), some (.ref il), some (.ref ol), some (.int hi), none, some (.int to), some (.int fr), some (.int gr), none, none] ∧ H' il = some (.lst ((doorsOf "in" hs).map nV)) ∧ H' ol = some (.lst ((doorsOf "out" hs).map nV)) ∧ MaxD (doorsOf "out" hs) lv 0 hi ∧ ((∀ l : Nat, late = some l → to = ((l : Nat) : Int)) ∧ (late = none → to = hi)) ∧ ((doorsOf "out" hs ≠ [] → fr = hi - to) ∧ (doorsOf "out" hs = [] → fr = 0)) ∧ MinD (doorsOf "in" hs) lv fr gr ∧ Same H H'
  refine ⟨_, (pss_cons (ps_set (i := 3) sc_shifts_by.nd rfl (Or.inl rfl) (pe_call G_doors_in (hr.mono (by decide)) (by rfl) m_doors_in F_doors_in.kp b_doors_in .nil pass0 (pa_cons (pv 0) pa_nil)))
      (pss_cons (ps_set (i := 4) sc_shifts_by.nd rfl (Or.inl rfl) (pe_call G_doors_out (hr.mono (by decide)) (by rfl) m_doors_out F_doors_out.kp b_doors_out .nil pass0 (pa_cons (pv 0) pa_nil)))
      (pss_cons (ps_set (i := 5) sc_shifts_by.nd rfl (Or.inl rfl) (pe_callBK (cr_maxDf K rfl rfl) (by rfl) T.m_max (by decide +kernel) (pa_cons (pe_lc (own := [("door", 6)]) (g := gName 6) (tt := tYes) (by rfl) sc_shifts_by.nd (pi_listK K rfl (pv 4)) (blkOk_by (own := [("door", 6)]) (N := N_shifts_by) (sc := defScope s_shifts_by) (by decide +kernel)) (fun _ _ _ _ _ => (pg_name (i := 6) sc_shifts_by.nd rfl (Or.inl rfl))) (fun _ _ _ _ _ => pts_nil) (fun _ _ _ _ _ => (pe_ix (ix_listK K rfl) (pv 2) (pv 6) (fun _ _ => rfl)))) pa_nil) (pk_cons pe_int pk_nil)))
      (PSs.to (pss_cons (ps_set (i := 7) sc_shifts_by.nd rfl (Or.inl rfl) (pe_ifExp (pt_cmpR op_isN (pv 1) pe_non (nomark _)) (pv 5) (pv 1)))
      (PSs.to (pss_cons (ps_set (i := 8) sc_shifts_by.nd rfl (Or.inl rfl) (pe_ifExp (pt_truthK K rfl (pv 4) (by intro _; rfl)) (pe_op op_sub (pv 5) (pv 7)) pe_int))
      (PSs.to (pss_cons (ps_set (i := 9) sc_shifts_by.nd rfl (Or.inr rfl) (pe_callBK (cr_minDf K rfl rfl) (by rfl) T.m_min (by decide +kernel) (pa_cons (pe_lc (own := [("door", 6)]) (g := gName 6) (tt := tYes) (by rfl) sc_shifts_by.nd (pi_listK K rfl (pv 3)) (blkOk_by (own := [("door", 6)]) (N := N_shifts_by) (sc := defScope s_shifts_by) (by decide +kernel)) (fun _ _ _ _ _ => (pg_name (i := 6) sc_shifts_by.nd rfl (Or.inl rfl))) (fun _ _ _ _ _ => pts_nil) (fun _ _ _ _ _ => (pe_ix (ix_listK K rfl) (pv 2) (pv 6) (fun _ _ => rfl)))) pa_nil) (pk_cons (pv 8) pk_nil)))
      (PSs.to (pss_cons (ps_setLc (i := 10) (own := [("level", 11)]) (g := gName 11) (tt := tYes) (by rfl) sc_shifts_by.nd rfl rfl (sw_true rfl rfl rfl (by decide +kernel)) (pi_listK K rfl (pv 2)) (blkOk_by (own := [("level", 11)]) (N := N_shifts_by) (sc := defScope s_shifts_by) (by decide +kernel)) (fun _ _ _ _ _ => (pg_name (i := 11) sc_shifts_by.nd rfl (Or.inl rfl))) (fun _ _ _ _ _ => pts_nil) (fun _ _ _ _ _ => (pe_op op_sub (pv 11) (pv 9))))
      (pss_cons (ps_for PassesOwn.never rfl (pi_listK K rfl (pv 3)) (pg_name (i := 6) sc_shifts_by.nd rfl (Or.inl rfl))
        (pss_one (ps_asg pe_int (pg_sub (pv 10) (pv 6) set_list))))
      (pss_cons (ps_for PassesOwn.never rfl (pi_listK K rfl (pv 4)) (pg_name (i := 6) sc_shifts_by.nd rfl (Or.inl rfl))
        (pss_one (ps_asg (pv 7) (pg_sub (pv 10) (pv 6) set_list))))
      (pss_one (ps_ret (pe_callTy (call_tuple_ofK K rfl) (by rfl) T.m_tuple (by decide +kernel) (pa_cons (pv 10) pa_nil))))))) R4 ?tail4)) R3 ?tail3)) R2 ?tail2)) R1 ?tail1)))), ?_⟩
  case tail4 =>
    rintro D' σ' H1 ⟨eD, il, ol, hi, to, fr, gr, rfl, hil, hol, P1, P0, P3, P4, s1⟩
    refine ⟨_, rfl, ll, rfl, ⟨_, SqL.of (s1 _ _ hll)⟩, fun D nD => lc_list (K := K) (a := ll) (xs := levL hs.length lv) (fun i H5 => H5 D = some (.lst (levL i fun k => lv k - gr)) ∧ Same H1 H5) ⟨upd_same, same_new nD⟩ (fun i H5 _ ⟨_, s5⟩ => SqL.of (s5 _ _ (s1 _ _ hll))) ?_ ?_⟩
    · rintro i x H5 hx ⟨hD, s5⟩
      have il2 := (List.getElem?_eq_some_iff.mp hx).1
      rw [List.length_map, List.length_range] at il2
      rw [rg_at il2] at hx
      obtain rfl : V.int (lv i) = x := Option.some.inj hx
      refine ⟨rfl, yes_in ⟨_, rfl, _, rfl, _, _, rfl, rfl, _, hD, by rw [List.length_map, List.length_range]; exact small1000 (by omega), ?_, Same.own s5 nD⟩⟩
      rw [upd_same]
      show _ = some (HO.lst ((List.range (i + 1)).map fun p => V.int (lv p - gr)))
      rw [List.range_succ, List.map_append]; rfl
    · rintro H2 ⟨hD, s2⟩
      rw [List.length_map, List.length_range] at hD
      have ilD : il ≠ D := ne_of_none hil nD
      have olD : ol ≠ D := ne_of_none hol nD
      refine ⟨_, rfl, il, rfl, ⟨_, SqL.of (s2 _ _ hil)⟩, for_list (K := K) (a := il) (xs := (doorsOf "in" hs).map nV) (fun i σ H3 => ∃ (v6 : Option V), σ = [some (.ref r), some (lateV late), some (.ref ll), some (.ref il), some (.ref ol), some (.int hi), v6, some (.int to), some (.int fr), some (.int gr), some (.ref D), none] ∧ H3 D = some (.lst (levL hs.length fun k => if k ∈ (doorsOf "in" hs).take i then 0 else lv k - gr)) ∧ Same H1 H3)
        ⟨none, rfl, hD, s2⟩ (fun i σ H3 _ ⟨_, _, _, s3⟩ => SqL.of (s3 _ _ hil)) ?_ ?_⟩
      · rintro i x σ H3 hx ⟨v6, rfl, hD3, s3⟩
        obtain ⟨k, ek, rfl⟩ := nats_at hx
        have kl := door_lt (List.mem_of_getElem? ek)
        refine ⟨_, rfl, _, rfl, D, _, _, k, rfl, rfl, hD3, ixN_nat (by rw [List.length_map, List.length_range]; exact kl), _, rfl, ?_, Same.own s3 nD⟩
        rw [upd_same, lev_set kl, take_if ek]
      · rintro σ H3 ⟨v6, rfl, hD3, s3⟩
        rw [List.length_map, List.take_length] at hD3
        refine ⟨_, rfl, ol, rfl, ⟨_, SqL.of (s3 _ _ hol)⟩, for_list (K := K) (a := ol) (xs := (doorsOf "out" hs).map nV) (fun i σ H3 => ∃ (v6 : Option V), σ = [some (.ref r), some (lateV late), some (.ref ll), some (.ref il), some (.ref ol), some (.int hi), v6, some (.int to), some (.int fr), some (.int gr), some (.ref D), none] ∧ H3 D = some (.lst (levL hs.length fun k => if k ∈ (doorsOf "out" hs).take i then to else if k ∈ doorsOf "in" hs then 0 else lv k - gr)) ∧ Same H1 H3)
          ⟨v6, rfl, hD3, s3⟩ (fun i σ H3 _ ⟨_, _, _, s3⟩ => SqL.of (s3 _ _ hol)) ?_ ?_⟩
        · rintro i x σ H3 hx ⟨v6, rfl, hD3, s3⟩
          obtain ⟨k, ek, rfl⟩ := nats_at hx
          have kl := door_lt (List.mem_of_getElem? ek)
          refine ⟨_, rfl, _, rfl, _, rfl, D, _, _, k, rfl, rfl, hD3, ixN_nat (by rw [List.length_map, List.length_range]; exact kl), _, rfl, ?_, Same.own s3 nD⟩
          rw [upd_same, lev_set kl, take_if ek]
        · rintro σ H3 ⟨v6, rfl, hD3, s3⟩
          rw [List.length_map, List.take_length] at hD3
          refine ⟨_, rfl, D, _, rfl, .inl ⟨SqL.of hD3, fun p np => ?_⟩⟩
          rw [eD]
          exact q p _ _ upd_same ⟨hi, to, fr, gr, ⟨P1, P0.1, P0.2, P3.1, P3.2, P4⟩, rfl⟩ ((s1.trans s3).trans (same_new np))
  case tail3 =>
    rintro D' σ' H1 ⟨eD, il, ol, hi, to, fr, rfl, hil, hol, P1, P0, P3, s1⟩
    refine ⟨_, rfl, il, rfl, ⟨_, SqL.of hil⟩, fun D nD => lc_list (K := K) (a := il) (xs := (doorsOf "in" hs).map nV) (fun i H5 => H5 D = some (.lst ((((doorsOf "in" hs).take i).map lv).map V.int)) ∧ Same H1 H5) ⟨upd_same, same_new nD⟩ (fun i H5 _ ⟨_, s5⟩ => SqL.of (s5 _ _ hil)) ?_ ?_⟩
    · rintro i x H5 hx ⟨hD, s5⟩
      obtain ⟨k, ek, rfl⟩ := nats_at hx
      have kl := door_lt (List.mem_of_getElem? ek)
      have il2 := (List.getElem?_eq_some_iff.mp ek).1
      refine ⟨rfl, yes_in ⟨_, rfl, _, rfl, ll, _, _, _, rfl, rfl, SqL.of (s5 _ _ (s1 _ _ hll)), atI_nat (rg_at kl), _, hD, by rw [List.length_map, List.length_map, List.length_take]; exact small1000 (by omega), ?_, Same.own s5 nD⟩⟩
      rw [upd_same, List.take_add_one, ek, List.map_append, List.map_append]; rfl
    · rintro H5 ⟨hD, s5⟩
      rw [List.length_map, List.take_length] at hD
      refine ⟨_, rfl, D, _, V.int fr, rfl, rfl, SqL.of hD, fun e => ?_, fun m hm hle => ?_⟩
      · have e : doorsOf "in" hs = [] := List.map_eq_nil_iff.mp e
        exact ⟨eD, il, ol, hi, to, fr, fr, rfl, s5 _ _ hil, s5 _ _ hol, P1, P0, P3, .inl ⟨e, rfl⟩, s1.trans s5⟩
      · obtain ⟨o, ho, eo⟩ := List.mem_map.mp hm
        exact ⟨eD, il, ol, hi, to, fr, m, rfl, s5 _ _ hil, s5 _ _ hol, P1, P0, P3, .inr ⟨⟨o, ho, eo.symm⟩, fun k hk => hle _ (List.mem_map.mpr ⟨k, hk, rfl⟩)⟩, s1.trans s5⟩
  case tail2 =>
    rintro D' σ' H1 ⟨eD, il, ol, hi, to, rfl, hil, hol, P1, P0, s1⟩
    refine ⟨_, rfl, _, .inl ⟨_, SqL.of hol, rfl⟩, if_bl (fun c => ?_) (fun c => ?_)⟩
    · have e : doorsOf "out" hs ≠ [] := fun e => by rw [e] at c; exact absurd c (by simp)
      exact ⟨_, rfl, _, rfl, _, _, rfl, rfl, eD, il, ol, hi, to, hi - to, rfl, hil, hol, P1, P0, ⟨fun _ => rfl, fun z => absurd z e⟩, s1⟩
    · have e : doorsOf "out" hs = [] := by
        cases e : doorsOf "out" hs with
        | nil => rfl
        | cons x l => rw [e] at c; exact absurd c (by simp)
      exact ⟨eD, il, ol, hi, to, 0, rfl, hil, hol, P1, P0, ⟨fun z => absurd e z, fun _ => rfl⟩, s1⟩
  case tail1 =>
    rintro D' σ' H1 ⟨eD, il, ol, hi, rfl, hil, hol, P1, s1⟩
    cases late with
    | none => exact ⟨_, rfl, rfl, _, rfl, if_bl (fun _ => ⟨_, rfl, eD, il, ol, hi, hi, rfl, hil, hol, P1, ⟨(fun l el => nomatch el), fun _ => rfl⟩, s1⟩) (fun z => absurd rfl (of_decide_eq_false z))⟩
    | some l => exact ⟨_, rfl, rfl, _, rfl, if_bl (fun z => absurd (of_decide_eq_true z) (fun y => nomatch y)) (fun _ => ⟨_, rfl, eD, il, ol, hi, _, rfl, hil, hol, P1, ⟨(fun l' el => by cases el; rfl), fun z => nomatch z⟩, s1⟩)⟩
  refine ⟨_, rfl, r, hs, bs, rfl, hR, by omega, ok.good, fun il H1 nil_ hil s1 => ?_⟩
  refine ⟨_, rfl, r, hs, bs, rfl, hR.keep (TK.same s1), by omega, ok.good, fun ol H2 nol hol s2 => ?_⟩
  have s12 := s1.trans s2
  refine ⟨_, rfl, ol, rfl, ⟨_, SqL.of hol⟩, fun D nD => lc_list (K := K) (a := ol) (xs := (doorsOf "out" hs).map nV) (fun i H5 => H5 D = some (.lst ((((doorsOf "out" hs).take i).map lv).map V.int)) ∧ Same H2 H5) ⟨upd_same, same_new nD⟩ (fun i H5 _ ⟨_, s5⟩ => SqL.of (s5 _ _ hol)) ?_ ?_⟩
  · rintro i x H5 hx ⟨hD, s5⟩
    obtain ⟨k, ek, rfl⟩ := nats_at hx
    have kl := door_lt (List.mem_of_getElem? ek)
    have il2 := (List.getElem?_eq_some_iff.mp ek).1
    refine ⟨rfl, yes_in ⟨_, rfl, _, rfl, ll, _, _, _, rfl, rfl, SqL.of (s5 _ _ (s12 _ _ hll)), atI_nat (rg_at kl), _, hD, by rw [List.length_map, List.length_map, List.length_take]; exact small1000 (by omega), ?_, Same.own s5 nD⟩⟩
    rw [upd_same, List.take_add_one, ek, List.map_append, List.map_append]; rfl
  · rintro H5 ⟨hD, s5⟩
    rw [List.length_map, List.take_length] at hD
    refine ⟨D, _, V.int 0, rfl, rfl, SqL.of hD, fun e => ?_, fun m hm hle => ?_⟩
    · have e : doorsOf "out" hs = [] := List.map_eq_nil_iff.mp e
      exact ⟨rfl, il, ol, 0, rfl, s5 _ _ (s2 _ _ hil), s5 _ _ hol, .inl ⟨e, rfl⟩, s12.trans s5⟩
    · obtain ⟨o, ho, eo⟩ := List.mem_map.mp hm
      exact ⟨rfl, il, ol, m, rfl, s5 _ _ (s2 _ _ hil), s5 _ _ hol, .inr ⟨⟨o, ho, eo.symm⟩, fun d hd => hle _ (List.mem_map.mpr ⟨d, hd, rfl⟩)⟩, s12.trans s5⟩
end
/-! ### rings of belts -/
abbrev Co := Int × Int
structure Wy where
  one : Nat
  c : Co
  ns : List Nat
  e : Nat
def ndd (m T : Int) : Int := if m > T then 1 else 0
def wStep (T : Int) (y : Wy) : St3 := ⟨y.one, y.e, ndd y.c.2 T - y.c.1⟩
def stepsOf (hs : List HR) (ys : List Wy) (late : Option Nat) (T : Int) : List St3 := ys.map (wStep T) ++ jumpsOf hs late
def ndS (T : Int) (ws : List Wy) : Int := (ws.map fun y => ndd y.c.2 T).sum
def jmpN (late : Option Nat) (e o : Nat) : Int := if e = o then 0 else match late with
  | some l => ((l : Nat) : Int)
  | none => 0
theorem jmpN_self {late : Option Nat} {e : Nat} : jmpN late e e = 0 := if_pos rfl
def costW (late : Option Nat) : Nat → List Wy → Int
  | _, [] => 0
  | e, y :: ws => jmpN late e y.one + y.c.1 + costW late y.e ws
def lastE : Nat → List Wy → Nat
  | e, [] => e
  | _, y :: ws => lastE y.e ws
theorem lastE_any : ∀ {ws : List Wy} {e e' : Nat}, ws ≠ [] → lastE e ws = lastE e' ws
  | [], _, _, h => absurd rfl h
  | y :: ws, _, _, _ => rfl
/-- a step from e to o is none, or a jump -/
def Jmp (hs : List HR) (late : Option Nat) (e o : Nat) : Prop := e = o ∨ (late.isSome = true ∧ e ∈ doorsOf "out" hs ∧ o ∈ doorsOf "in" hs)
def okW (hs : List HR) (late : Option Nat) : Nat → List Wy → Prop
  | _, [] => True
  | e, y :: ws => Jmp hs late e y.one ∧ okW hs late y.e ws
def waysOf (ys : List Wy) (ks : List Nat) : List Wy := ks.filterMap fun k => ys[k]?
theorem waysOf_some {ys : List Wy} {k : Nat} {ks : List Nat} {y : Wy} (e : ys[k]? = some y) : waysOf ys (k :: ks) = y :: waysOf ys ks := by
  unfold waysOf
  rw [List.filterMap_cons, e]
theorem waysOf_none {ys : List Wy} {k : Nat} {ks : List Nat} (e : ys[k]? = none) : waysOf ys (k :: ks) = waysOf ys ks := by
  unfold waysOf
  rw [List.filterMap_cons, e]
theorem wS_some {st : List St3} {k : Nat} {s : St3} (e : st[k]? = some s) : wS st k = s.w := by
  unfold wS
  rw [e]
theorem door_one' {hs : List HR} {k : Nat} (a : k ∈ doorsOf "in" hs) (b : k ∈ doorsOf "out" hs) : False := by
  obtain ⟨h, e1, e2⟩ := mem_doors.mp a
  obtain ⟨h', e3, e4⟩ := mem_doors.mp b
  rw [e1] at e3
  cases e3
  rw [e2] at e4
  exact absurd e4 (by decide +kernel)
theorem scan {hs : List HR} {ys : List Wy} {late : Option Nat} {T : Int} : ∀ (ks : List Nat) (p q e : Nat), stepEnd (stepsOf hs ys late T) p ks = some q → Jmp hs late e p →
    Jmp hs late (lastE e (waysOf ys ks)) q ∧ okW hs late e (waysOf ys ks) ∧ costW late e (waysOf ys ks) + jmpN late (lastE e (waysOf ys ks)) q + (ks.map (wS (stepsOf hs ys late T))).sum = ndS T (waysOf ys ks) + jmpN late e p
  | [], p, q, e, h, j => by
    cases h
    refine ⟨j, trivial, ?_⟩
    show (0 : Int) + jmpN late e p + 0 = 0 + jmpN late e p
    omega
  | k :: ks, p, q, e, h, j => by
    cases es : (stepsOf hs ys late T)[k]? with
    | none =>
      have : stepEnd (stepsOf hs ys late T) p (k :: ks) = none := by
        show (match (stepsOf hs ys late T)[k]? with | some s => if s.u = p then stepEnd (stepsOf hs ys late T) s.v ks else none | none => none) = none
        rw [es]
      rw [this] at h; cases h
    | some s =>
    rw [stepEnd_cons es] at h
    by_cases z : s.u = p
    · rw [if_pos z] at h
      rw [List.map_cons, List.sum_cons, wS_some es]
      cases ey : ys[k]? with
      | some y =>
        have kl := (List.getElem?_eq_some_iff.mp ey).1
        have e1 : (stepsOf hs ys late T)[k]? = some (wStep T y) := by
          unfold stepsOf
          rw [List.getElem?_append_left (by rw [List.length_map]; exact kl), List.getElem?_map, ey]
          rfl
        rw [e1] at es
        cases es
        have z : y.one = p := z
        obtain ⟨i1, i2, i3⟩ := scan ks y.e q y.e h (.inl rfl)
        rw [waysOf_some ey]
        refine ⟨i1, ⟨by rw [z]; exact j, i2⟩, ?_⟩
        rw [jmpN_self] at i3
        show jmpN late e y.one + y.c.1 + costW late y.e (waysOf ys ks) + jmpN late (lastE y.e (waysOf ys ks)) q + ((ndd y.c.2 T - y.c.1) + (ks.map (wS (stepsOf hs ys late T))).sum) = ((y :: waysOf ys ks).map fun y => ndd y.c.2 T).sum + jmpN late e p
        rw [List.map_cons, List.sum_cons, z]
        have i3' : costW late y.e (waysOf ys ks) + jmpN late (lastE y.e (waysOf ys ks)) q + (ks.map (wS (stepsOf hs ys late T))).sum = ((waysOf ys ks).map fun y => ndd y.c.2 T).sum + 0 := i3
        omega
      | none =>
        have kl : ys.length ≤ k := List.getElem?_eq_none_iff.mp ey
        have e1 : (jumpsOf hs late)[k - ys.length]? = some s := by
          unfold stepsOf at es
          rw [List.getElem?_append_right (by rw [List.length_map]; exact kl), List.length_map] at es
          exact es
        have m := List.mem_of_getElem? e1
        cases late with
        | none => exact nomatch m
        | some l =>
        obtain ⟨d, hd, h2⟩ := List.mem_flatMap.mp m
        obtain ⟨o, ho, rfl⟩ := List.mem_map.mp h2
        have z : d = p := z
        subst z
        have ed : e = d := by
          rcases j with j | ⟨_, _, j⟩
          · exact j
          · exact (door_one' j hd).elim
        subst ed
        have ne : e ≠ o := fun c => door_one' ho (c ▸ hd)
        obtain ⟨i1, i2, i3⟩ := scan ks o q e h (.inr ⟨rfl, hd, ho⟩)
        rw [waysOf_none ey]
        refine ⟨i1, i2, ?_⟩
        have e2 : jmpN (some l) e o = ((l : Nat) : Int) := if_neg ne
        rw [e2] at i3
        rw [jmpN_self]
        show costW (some l) e (waysOf ys ks) + jmpN (some l) (lastE e (waysOf ys ks)) q + (-((l : Nat) : Int) + _) = _
        omega
    · rw [if_neg z] at h; cases h
/-- a belt as a way -/
def wyB (b : BR) (n : Nat) : Wy := ⟨b.one, ((b.th.length : Int), 1), [n], b.to⟩
def ysB (bs : List BR) : List Wy := bs.zipIdx.map fun p => wyB p.1 p.2
theorem ysB_len {bs : List BR} : (ysB bs).length = bs.length := by unfold ysB; rw [List.length_map, List.length_zipIdx]
theorem ysB_at {bs : List BR} {n : Nat} {b : BR} (e : bs[n]? = some b) : (ysB bs)[n]? = some (wyB b n) := by
  unfold ysB
  rw [List.getElem?_map, List.getElem?_zipIdx, e]
  show some (wyB b (0 + n)) = _
  rw [Nat.zero_add]
theorem ysB_mem {bs : List BR} {y : Wy} (h : y ∈ ysB bs) : ∃ n b, bs[n]? = some b ∧ y = wyB b n := by
  obtain ⟨n, e⟩ := List.getElem?_of_mem h
  have l := (List.getElem?_eq_some_iff.mp e).1
  rw [ysB_len] at l
  have eb : bs[n]? = some bs[n] := List.getElem?_eq_getElem l
  rw [ysB_at eb] at e
  exact ⟨n, _, eb, (Option.some.inj e).symm⟩
/-- the steps that full_shifts looks at -/
def stF (hs : List HR) (bs : List BR) (late : Option Nat) : List St3 := stepsOf hs (ysB bs) late 0
theorem stF_belt {hs : List HR} {bs : List BR} {late : Option Nat} {b : BR} (hb : b ∈ bs) : (⟨b.one, b.to, 1 - (b.th.length : Int)⟩ : St3) ∈ stF hs bs late := by
  obtain ⟨n, e⟩ := List.getElem?_of_mem hb
  exact List.mem_append_left _ (List.mem_map.mpr ⟨wyB b n, List.mem_of_getElem? (ysB_at e), rfl⟩)
theorem stF_jump {hs : List HR} {bs : List BR} {l d o : Nat} (hd : d ∈ doorsOf "out" hs) (ho : o ∈ doorsOf "in" hs) : (⟨d, o, -((l : Nat) : Int)⟩ : St3) ∈ stF hs bs (some l) :=
  List.mem_append_right _ (List.mem_flatMap.mpr ⟨d, hd, List.mem_map.mpr ⟨o, ho, rfl⟩⟩)
theorem ndS_len {bs : List BR} : ∀ {ws : List Wy}, (∀ y ∈ ws, y ∈ ysB bs) → ndS 0 ws = (ws.length : Int)
  | [], _ => rfl
  | y :: ws, h => by
    obtain ⟨n, b, _, rfl⟩ := ysB_mem (h y (List.mem_cons_self ..))
    have := ndS_len (ws := ws) fun z hz => h z (List.mem_cons_of_mem _ hz)
    show (1 : Int) + ndS 0 ws = ((ws.length + 1 : Nat) : Int)
    omega
theorem waysOf_mem {ys : List Wy} {ks : List Nat} : ∀ y ∈ waysOf ys ks, y ∈ ys := fun y hy => by
  obtain ⟨k, _, hk⟩ := List.mem_filterMap.mp hy
  exact List.mem_of_getElem? hk
/-- a closed walk with more belts than trays -/
structure RingW (hs : List HR) (bs : List BR) (late : Option Nat) (ws : List Wy) : Prop where
  ne : ws ≠ []
  ok : ∀ y ∈ ws, y ∈ ysB bs
  go : okW hs late (lastE 0 ws) ws
  hv : costW late (lastE 0 ws) ws < (ws.length : Int)
theorem RingOk.ringW {hs : List HR} {bs : List BR} {late : Option Nat} {ks : List Nat} (r : RingOk (stF hs bs late) ks) : RingW hs bs late (waysOf (ysB bs) ks) := by
  obtain ⟨p, hp⟩ := r.cl
  have pos := r.pos
  unfold stF at hp pos
  obtain ⟨a1, a2, a3⟩ := scan ks p p p hp (.inl rfl)
  have ne : waysOf (ysB bs) ks ≠ [] := fun z => by
    rw [z] at a3
    have a3 : (0 : Int) + jmpN late p p + _ = 0 + jmpN late p p := a3
    rw [jmpN_self] at a3
    omega
  rw [lastE_any ne (e' := 0)] at a1
  obtain ⟨b1, b2, b3⟩ := scan ks p p (lastE 0 (waysOf (ysB bs) ks)) hp a1
  rw [lastE_any (e := lastE 0 (waysOf (ysB bs) ks)) (e' := 0) ne] at b3
  have nl := ndS_len (bs := bs) (ws := waysOf (ysB bs) ks) waysOf_mem
  exact ⟨ne, waysOf_mem, b2, by omega⟩
/-- shifts that fill a room -/
theorem ShX.fills {hs : List HR} {bs : List BR} {late : Option Nat} {lv sh : Nat → Int} (x : ShX hs late lv sh) (nn : ∀ q, 0 ≤ lv q) (f : ∀ s ∈ stF hs bs late, lv s.u + s.w ≤ lv s.v) (out : ∀ b ∈ bs, b.one ∉ doorsOf "out" hs) (cin : ∀ b ∈ bs, b.to ∉ doorsOf "in" hs) : ∀ b ∈ bs, 1 ≤ (b.th.length : Int) + sh b.to - sh b.one := fun b hb => by
  obtain ⟨gr, to, i1, o1, m1, s1, n1⟩ := x.of
  have h := f _ (stF_belt (hs := hs) (late := late) hb)
  have h : lv b.one + (1 - (b.th.length : Int)) ≤ lv b.to := h
  have one : sh b.one ≤ lv b.one - gr := by
    by_cases z : b.one ∈ doorsOf "in" hs
    · have := i1 _ z
      omega
    · rw [m1 _ z (out b hb)]
      omega
  have two : lv b.to - gr ≤ sh b.to := by
    by_cases z : b.to ∈ doorsOf "out" hs
    · rw [o1 _ z]
      cases el : late with
      | none =>
        obtain ⟨h1, h2⟩ := n1 el
        have := h1 _ z
        rcases h2 with ⟨o, _, g⟩ | g
        · have := nn o
          omega
        · omega
      | some l =>
        obtain ⟨h1, h2⟩ := s1 l el
        rcases h2 with ⟨o, ho, g⟩ | ⟨_, g⟩
        · have := f _ (by rw [el]; exact stF_jump z ho)
          have : lv b.to + -((l : Nat) : Int) ≤ lv o := this
          omega
        · have := g _ z
          omega
    · rw [m1 _ (cin b hb) z]
      omega
  omega
structure FOk (hs : List HR) (bs : List BR) : Prop where
  h : HOk hs
  ends : ∀ b ∈ bs, b.one < hs.length ∧ b.to < hs.length
  out : ∀ b ∈ bs, b.one ∉ doorsOf "out" hs
  cin : ∀ b ∈ bs, b.to ∉ doorsOf "in" hs
  th : ∀ b ∈ bs, b.th.length ≤ 400
  many : bs.length ≤ 20
def PrB (H : Hp) (v : V) (y : Wy) : Prop := ∃ p : Addr, v = .ref p ∧ PairAt H p y.one y.ns
theorem PrB.keep {H H' : Hp} {v : V} {y : Wy} (h : PrB H v y) (k : TK H H') : PrB H' v y := by
  obtain ⟨p, e, g⟩ := h
  exact ⟨p, e, g.keep k⟩
theorem waysOf_take {ys : List Wy} {ks : List Nat} {i k : Nat} (e : ks[i]? = some k) : waysOf ys (ks.take (i + 1)) = waysOf ys (ks.take i) ++ (ys[k]?).toList := by
  unfold waysOf
  rw [List.take_add_one, e, List.filterMap_append]
  congr 1
theorem waysOf_len {ys : List Wy} {ks : List Nat} : (waysOf ys ks).length ≤ ks.length := List.length_filterMap_le ..
/-- what full_shifts tells -/
def Told56 (H : Hp) (hs : List HR) (bs : List BR) (late : Option Nat) (v : V) : Prop := ∃ p p' : Addr, v = .ref p ∧
  ((∃ lv sh : Nat → Int, H p = some (.tup [.str "shifts", .ref p']) ∧ H p' = some (.tup (levL hs.length sh)) ∧ LvIs (stF hs bs late) hs.length lv ∧ ShX hs late lv sh ∧ (∀ q, 0 ≤ lv q) ∧ ∀ s ∈ stF hs bs late, lv s.u + s.w ≤ lv s.v) ∨
  ∃ (pv : List V) (ks : List Nat), H p = some (.tup [.str "ring", .ref p']) ∧ H p' = some (.tup pv) ∧ All2 (PrB H) pv (waysOf (ysB bs) ks) ∧ RingOk (stF hs bs late) ks ∧ RgIs (stF hs bs late) hs.length ks ∧ ks.length ≤ hs.length)
theorem Told56.keep {H H' : Hp} {hs : List HR} {bs : List BR} {late : Option Nat} {v : V} (h : Told56 H hs bs late v) (k : TK H H') : Told56 H' hs bs late v := by
  obtain ⟨p, p', e, h⟩ := h
  refine ⟨p, p', e, ?_⟩
  rcases h with ⟨lv, sh, h1, h2, h3⟩ | ⟨pv, ks, h1, h2, h3, h4⟩
  · exact .inl ⟨lv, sh, k _ _ h1, k _ _ h2, h3⟩
  · exact .inr ⟨pv, ks, k _ _ h1, k _ _ h2, h3.imp fun _ _ z => z.keep k, h4⟩
section
variable {P : Program} {w : World} {K : PySem.W.Frag} {mg : Str → Option Value} {base : Heap}
def sp_full_shifts (K : PySem.W.Frag) : Sp := fun vs H Q _ => ∃ (r : Addr) (hs : List HR) (bs : List BR) (late : Option Nat), vs = [.ref r, lateV late] ∧ RoomAt H r hs bs ∧ FOk hs bs ∧ ∀ (v : V) (H' : Hp), Told56 H' hs bs late v → Same H H' → Q v H'
theorem ok_full_shifts {f : Addr} {fd : FuncData} (F : Fun K "full_shifts" "full_shifts" s_full_shifts f fd) (T : Top K mg) : FnOk P w K mg base CX0 3 f fd ["room", "late"] (sp_full_shifts K) := by
  obtain ⟨f_levels_or_ring, fd_levels_or_ring, F_levels_or_ring, b_levels_or_ring, m_levels_or_ring⟩ := T.d_levels_or_ring
  have G_levels_or_ring := ok_levels_or_ring (P := P) (w := w) (base := base) F_levels_or_ring T
  obtain ⟨f_jumps, fd_jumps, F_jumps, b_jumps, m_jumps⟩ := T.d_jumps
  have G_jumps := ok_jumps (P := P) (w := w) (base := base) F_jumps T
  obtain ⟨f_shifts_by, fd_shifts_by, F_shifts_by, b_shifts_by, m_shifts_by⟩ := T.d_shifts_by
  have G_shifts_by := ok_shifts_by (P := P) (w := w) (base := base) F_shifts_by T
  refine F.ok sc_full_shifts (fun vs H Q E h => ?_) (fun cdv A outer s H vs Q E hr h => ?_)
  · obtain ⟨r, hs, bs, late, rfl, _⟩ := h
    rfl
  obtain ⟨r, hs, bs, late, rfl, hR, ok, q⟩ := h
  obtain ⟨ha, ba, hv, bv, er, eh, eb, alh, alb⟩ := id hR.ex
  have lhv := alh.length
  have lbv := alb.length
  have lh := ok.h.hands
  have lb := ok.many
  let R1 : TS := fun D' σ' H' => D'.rt = Q ∧ ∃ (sl : Addr) (sv : List V), σ' = [some (.ref r), some (lateV late), some (.ref ha), some (.ref ba), some (.ref sl), none, none, none, none, none, none] ∧ H' sl = some (.lst sv) ∧ All2 (StepAt H') sv ((ysB bs).map (wStep 0)) ∧ H sl = none ∧ Same H H'
  refine ⟨_, (pss_cons (ps_asg (pv 0) (pg_tupK K rfl rfl (pgs_cons (pg_name (i := 2) sc_full_shifts.nd rfl (Or.inl rfl)) (pgs_cons (pg_name (i := 3) sc_full_shifts.nd rfl (Or.inr rfl)) pgs_nil))))
      (pss_cons (ps_setLc (i := 4) (own := [("giver", 5), ("taker", 6), ("things", 7)]) (g := gTup K 3 (gCons (gName 5) (gCons (gName 6) (gCons (gName 7) gNil)))) (tt := tYes) (by rfl) sc_full_shifts.nd rfl rfl (sw_true rfl rfl rfl (by decide +kernel)) (pi_tupK K rfl (pv 3)) (blkOk_by (own := [("giver", 5), ("taker", 6), ("things", 7)]) (N := N_full_shifts) (sc := defScope s_full_shifts) (by decide +kernel)) (fun _ _ _ _ _ => (pg_tupK K rfl rfl (pgs_cons (pg_name (i := 5) sc_full_shifts.nd rfl (Or.inl rfl)) (pgs_cons (pg_name (i := 6) sc_full_shifts.nd rfl (Or.inl rfl)) (pgs_cons (pg_name (i := 7) sc_full_shifts.nd rfl (Or.inl rfl)) pgs_nil))))) (fun _ _ _ _ _ => pts_nil) (fun _ _ _ _ _ => (pe_tup (pa_cons (pv 5) (pa_cons (pv 6) (pa_cons (pe_op op_sub pe_int (pe_callB (call_len_seqK K rfl) (by rfl) T.m_len (by decide +kernel) (pa_cons (pv 7) pa_nil))) pa_nil))))))
      (PSs.to (pss_cons (ps_asg (pe_call G_levels_or_ring (hr.mono (by decide)) (by rfl) m_levels_or_ring F_levels_or_ring.kp b_levels_or_ring .nil pass0 (pa_cons (pe_callB (call_len_seqK K rfl) (by rfl) T.m_len (by decide +kernel) (pa_cons (pv 2) pa_nil)) (pa_cons (pe_op op_cat (pv 4) (pe_call G_jumps (hr.mono (by decide)) (by rfl) m_jumps F_jumps.kp b_jumps .nil pass0 (pa_cons (pv 0) (pa_cons (pv 1) pa_nil)))) pa_nil))) (pg_tupK K rfl rfl (pgs_cons (pg_name (i := 8) sc_full_shifts.nd rfl (Or.inl rfl)) (pgs_cons (pg_name (i := 9) sc_full_shifts.nd rfl (Or.inl rfl)) pgs_nil))))
      (pss_cons (ps_if (pt_cmpR op_isN (pv 9) pe_non (nomark _)) (pss_one (ps_ret (pe_tup (pa_cons pe_str (pa_cons (pe_call G_shifts_by (hr.mono (by decide)) (by rfl) m_shifts_by F_shifts_by.kp b_shifts_by .nil pass0 (pa_cons (pv 0) (pa_cons (pv 1) (pa_cons (pv 8) pa_nil)))) pa_nil))))) pss_nil)
      (pss_one (ps_ret (pe_tup (pa_cons pe_str (pa_cons (pe_callTy (call_tuple_ofK K rfl) (by rfl) T.m_tuple (by decide +kernel) (pa_cons (pe_lc (own := [("number", 10)]) (g := gName 10) (by rfl) sc_full_shifts.nd (pi_listK K rfl (pv 9)) (blkOk_by (own := [("number", 10)]) (N := N_full_shifts) (sc := defScope s_full_shifts) (by decide +kernel)) (fun _ _ _ _ _ => (pg_name (i := 10) sc_full_shifts.nd rfl (Or.inl rfl))) (fun _ _ _ _ _ => pts_one (pt_cmpR op_lt (pv 10) (pe_callB (call_len_seqK K rfl) (by rfl) T.m_len (by decide +kernel) (pa_cons (pv 3) pa_nil)) (nomark _))) (fun _ _ _ _ _ => (pe_tup (pa_cons (pe_ix (ix_tupK K rfl) (pe_ix (ix_tupK K rfl) (pv 3) (pv 10) (fun _ _ => rfl)) pe_int (fun _ _ => rfl)) (pa_cons (pe_tup (pa_cons (pv 10) pa_nil)) pa_nil))))) pa_nil)) pa_nil))))))) R1 ?tail1))), ?_⟩
  case tail1 =>
    rintro D' σ' H1 ⟨eD, sl, sv, rfl, hsl, al, nsl, s1⟩
    have lsv := al.length
    rw [List.length_map, ysB_len] at lsv
    refine ⟨_, rfl, ha, _, rfl, .inr (SqT.of (s1 _ _ eh)), _, rfl, _, rfl, _, rfl, r, hs, bs, late, rfl, hR.keep (TK.same s1), ok.h, fun jl sv2 H2 hjl al2 s2 => ?_⟩
    have jn := jumps_len (late := late) lh
    have lsv2 := al2.length
    have hsl2 := s2 _ _ hsl
    refine ⟨sl, jl, sv, sv2, rfl, rfl, hsl2, hjl, little (by omega), fun cl ncl => ?_⟩
    have s12 := s1.trans s2
    have s3 := same_new (o := .lst (sv ++ sv2)) ncl
    have s13 := s12.trans s3
    have st3 : StepsAt (upd H2 cl (.lst (sv ++ sv2))) cl (stF hs bs late) := ⟨_, upd_same, All2.app (al.imp fun _ _ z => z.keep (TK.same (s2.trans s3))) (al2.imp fun _ _ z => z.keep (TK.same s3))⟩
    have bd : ∀ s ∈ stF hs bs late, s.u < hv.length ∧ s.v < hv.length := fun s hs' => by
      rw [lhv]
      rcases List.mem_append.mp hs' with h | h
      · obtain ⟨y, y1, rfl⟩ := List.mem_map.mp h
        obtain ⟨n, b, eb, rfl⟩ := ysB_mem y1
        exact ok.ends b (List.mem_of_getElem? eb)
      · exact jumps_bd s h
    have ls : (stF hs bs late).length ≤ 400 := by
      unfold stF stepsOf
      rw [List.length_append, List.length_map, ysB_len]
      omega
    generalize upd H2 cl (.lst (sv ++ sv2)) = H3 at s3 s13 st3 ⊢
    rw [show ((hv.length : Nat) : Int) = ((hs.length : Nat) : Int) by rw [lhv]]
    rw [lhv] at bd
    refine ⟨cl, hs.length, stF hs bs late, rfl, st3, bd, ls, by omega, fun p ll lv H4 hp hll fe nn lvi s4 => ?_, fun p rl ks H4 hp hrl ring lk rgi s4 => ?_⟩
    · refine ⟨p, _, rfl, SqT.of hp, rfl, _, _, rfl, _, _, rfl, rfl, ?_⟩
      refine ⟨_, rfl, rfl, _, rfl, if_bl (fun _ => ?_) (fun z => absurd rfl (of_decide_eq_false z))⟩
      have s04 := s13.trans s4
      refine ⟨_, rfl, _, rfl, _, rfl, r, ll, hs, bs, late, lv, rfl, hR.keep (TK.same s04), ok.h, hll, fun p3 sh H5 hp3 so s5 => ⟨(by show 2 ≤ sizeLine; decide), fun p4 np4 => ?_⟩⟩
      rw [eD]
      exact q _ _ ⟨p4, p3, rfl, .inl ⟨lv, sh, upd_same, same_new np4 _ _ hp3, lvi, so, nn, fe⟩⟩ ((s04.trans s5).trans (same_new np4))
    · refine ⟨p, _, rfl, SqT.of hp, rfl, _, _, rfl, _, _, rfl, rfl, ?_⟩
      refine ⟨_, rfl, rfl, _, rfl, if_bl (fun z => absurd (of_decide_eq_true z) (fun y => nomatch y)) (fun _ => ?_)⟩
      have s04 := s13.trans s4
      refine ⟨_, rfl, rl, rfl, ⟨_, SqL.of hrl⟩, fun D2 nD2 => lc_list (K := K) (a := rl) (xs := ks.map nV) (fun i H5 => ∃ bv : List V, H5 D2 = some (.lst bv) ∧ All2 (PrB H5) bv (waysOf (ysB bs) (ks.take i)) ∧ Same H4 H5) ⟨[], upd_same, .nil, same_new nD2⟩ (fun i H5 _ ⟨_, _, _, s5⟩ => SqL.of (s5 _ _ hrl)) ?_ ?_⟩
      · rintro i x H5 hx ⟨bv', hD2, lb', s5⟩
        obtain ⟨k, ek, rfl⟩ := nats_at hx
        have il := (List.getElem?_eq_some_iff.mp ek).1
        have s05 := s04.trans s5
        have lbv' := lb'.length
        have lw := waysOf_len (ys := ysB bs) (ks := ks.take i)
        rw [List.length_take] at lw
        refine ⟨rfl, _, rfl, _, rfl, ba, _, rfl, .inr (SqT.of (s05 _ _ eb)), _, _, rfl, rfl, _, rfl, if_bl (fun c => ?_) (fun c => ⟨bv', hD2, ?_, s5⟩)⟩
        · have c : ((k : Nat) : Int) < ((bv.length : Nat) : Int) := of_decide_eq_true c
          have kl : k < bs.length := by omega
          have ekb : bs[k]? = some bs[k] := List.getElem?_eq_getElem kl
          obtain ⟨x, ex, ⟨t2, g, rfl, e1, e2⟩⟩ := alb.get ekb
          refine ⟨_, rfl, _, rfl, ba, _, _, _, rfl, rfl, SqT.of (s05 _ _ eb), atI_nat ex, t2, _, _, _, rfl, rfl, SqT.of (s05 _ _ e1), atI_nat (j := 0) rfl, _, rfl, (by show 1 ≤ sizeLine; decide), fun g2 ng2 => ⟨(by show 2 ≤ sizeLine; decide), fun p2 np2 => ?_⟩⟩
          have u1 := same_new (o := .tup [nV k]) ng2
          have u2 := same_new (o := .tup [nV bs[k].one, V.ref g2]) np2
          have hD6 := u2 _ _ (u1 _ _ hD2)
          refine ⟨bv', hD6, small1000 (by omega), bv' ++ [V.ref p2], upd_same, ?_, Same.own ((s5.trans u1).trans u2) nD2⟩
          rw [waysOf_take ek, ysB_at ekb]
          exact ((lb'.imp fun _ _ z => z.keep (TK.same (u1.trans u2))).snoc ⟨p2, rfl, g2, upd_same, u2 _ _ upd_same⟩).imp fun _ _ z => z.keep (TK.lst hD6)
        · have c : ¬ ((k : Nat) : Int) < ((bv.length : Nat) : Int) := of_decide_eq_false c
          have : (ysB bs)[k]? = none := List.getElem?_eq_none_iff.mpr (by rw [ysB_len]; omega)
          rw [waysOf_take ek, this]
          show All2 (PrB H5) bv' (waysOf (ysB bs) (ks.take i) ++ [])
          rw [List.append_nil]
          exact lb'
      · rintro H5 ⟨bv', hD2, lb', s5⟩
        rw [List.length_map, List.take_length] at lb'
        refine ⟨D2, _, rfl, .inl ⟨SqL.of hD2, fun p3 np3 => ⟨(by show 2 ≤ sizeLine; decide), fun p4 np4 => ?_⟩⟩⟩
        rw [eD]
        exact q _ _ ⟨p4, p3, rfl, .inr ⟨_, ks, upd_same, same_new np4 _ _ upd_same, lb'.imp fun _ _ z => z.keep ((TK.new np3).trans (TK.new np4)), ring, rgi, lk⟩⟩ (((s04.trans s5).trans (same_new np3)).trans (same_new np4))
  refine ⟨_, rfl, r, _, rfl, SqT.of er, rfl, _, _, rfl, _, _, rfl, rfl, ?_⟩
  refine ⟨_, rfl, ba, rfl, ⟨_, SqT.of eb⟩, fun D nD => lc_tup (K := K) (a := ba) (xs := bv) (fun i H5 => ∃ sv : List V, H5 D = some (.lst sv) ∧ All2 (StepAt H5) sv (((ysB bs).take i).map (wStep 0)) ∧ Same H H5) ⟨[], upd_same, .nil, same_new nD⟩ (fun i H5 _ ⟨_, _, _, s5⟩ => SqT.of (s5 _ _ eb)) ?_ ?_⟩
  · rintro i x H5 hx ⟨sv, hD, al, s5⟩
    obtain ⟨b, ebj, ⟨t2, g, rfl, e1, e2⟩⟩ := alb.getL hx
    have il := (List.getElem?_eq_some_iff.mp ebj).1
    refine ⟨t2, _, rfl, SqT.of (s5 _ _ e1), rfl, _, _, rfl, _, _, rfl, _, _, rfl, rfl, rfl, ?_⟩
    refine yes_in ?_
    refine ⟨_, rfl, _, rfl, _, rfl, g, _, rfl, .inr (SqT.of (s5 _ _ e2)), _, _, rfl, rfl, (by show 3 ≤ sizeLine; decide), fun t3 nt3 => ?_⟩
    have u := same_new (o := .tup [nV b.one, nV b.to, V.int (1 - (((b.th.map V.int).length : Nat) : Int))]) nt3
    have hD6 := u _ _ hD
    have lsv := al.length
    rw [List.length_map, List.length_take, ysB_len] at lsv
    refine ⟨sv, hD6, small1000 (by omega), sv ++ [V.ref t3], upd_same, ?_, Same.own (s5.trans u) nD⟩
    rw [show ((ysB bs).take (i + 1)).map (wStep 0) = ((ysB bs).take i).map (wStep 0) ++ [wStep 0 (wyB b i)] by rw [List.take_add_one, ysB_at ebj, List.map_append]; rfl]
    refine ((al.imp fun _ _ z => z.keep (TK.new nt3)).snoc ⟨t3, rfl, ?_⟩).imp fun _ _ z => z.keep (TK.lst hD6)
    show (upd H5 t3 _) t3 = some (.tup [nV b.one, nV b.to, V.int (1 - (b.th.length : Int))])
    rw [upd_same, List.length_map]
  rintro H1 ⟨sv, hD, al, s1⟩
  rw [lbv, ← ysB_len, List.take_length] at al
  exact ⟨rfl, D, sv, rfl, hD, al, nD, s1⟩
end
section
variable {P : Program} {w : World} {K : PySem.W.Frag} {mg : Str → Option Value} {base : Heap}
def sp_law_trays (K : PySem.W.Frag) : Sp := fun vs H Q _ => ∃ (r t : Addr) (hs : List HR) (bs : List BR) (k : Nat) (ns : List Nat), vs = [.ref r, .ref t] ∧ RoomAt H r hs bs ∧ PairAt H t k ns ∧ (∀ n ∈ ns, n < bs.length) ∧ ns.length ≤ 400 ∧ ∀ H', Same H H' → Q (.int (ns.map (trB bs)).sum) H'
theorem ok_law_trays {f : Addr} {fd : FuncData} (F : Fun K "_law_trays" "_law_trays" s_law_trays f fd) (T : Top K mg) : FnOk P w K mg base CX0 1 f fd ["_law_room_here", "_law_way"] (sp_law_trays K) := by
  refine F.ok sc_law_trays (fun vs H Q E h => ?_) (fun cdv A outer s H vs Q E hr h => ?_)
  · obtain ⟨r, t, hs, bs, k, ns, rfl, _⟩ := h
    rfl
  obtain ⟨r, t, hs, bs, k, ns, rfl, hR, ⟨g, et, eg⟩, hn, ln, q⟩ := h
  obtain ⟨ha, ba, hv, bv, er, eh, eb, alh, alb⟩ := hR.ex
  refine ⟨_, (pss_one (ps_ret (pe_callB (cr_sumK K rfl rfl) (by rfl) T.m_sum (by decide +kernel) (pa_cons (pe_lc (own := [("_law_b", 2)]) (g := gName 2) (tt := tYes) (by rfl) sc_law_trays.nd (pi_tupK K rfl (pe_ix (ix_tupK K rfl) (pv 1) pe_int (fun _ _ => rfl))) (blkOk_by (own := [("_law_b", 2)]) (N := N_law_trays) (sc := defScope s_law_trays) (by decide +kernel)) (fun _ _ _ _ _ => (pg_name (i := 2) sc_law_trays.nd rfl (Or.inl rfl))) (fun _ _ _ _ _ => pts_nil) (fun _ _ _ _ _ => (pe_callB (call_len_seqK K rfl) (by rfl) T.m_len (by decide +kernel) (pa_cons (pe_ix (ix_tupK K rfl) (pe_ix (ix_tupK K rfl) (pe_ix (ix_tupK K rfl) (pv 0) pe_int (fun _ _ => rfl)) (pv 2) (fun _ _ => rfl)) pe_int (fun _ _ => rfl)) pa_nil)))) pa_nil)))), ?_⟩
  refine ⟨_, rfl, t, _, _, _, rfl, rfl, SqT.of et, atI_nat (j := 1) rfl, g, rfl, ⟨_, SqT.of eg⟩, fun D nD => lc_tup (K := K) (a := g) (xs := ns.map nV) (fun i H5 => H5 D = some (.lst (((ns.take i).map (trB bs)).map V.int)) ∧ Same H H5) ⟨upd_same, same_new nD⟩ (fun i H5 _ ⟨_, s5⟩ => SqT.of (s5 _ _ eg)) ?_ ?_⟩
  · rintro i x H5 hx ⟨hD, s5⟩
    obtain ⟨n, en, rfl⟩ := nats_at hx
    have il := (List.getElem?_eq_some_iff.mp en).1
    have nb := hn n (List.mem_of_getElem? en)
    have ebn : bs[n]? = some bs[n] := List.getElem?_eq_getElem nb
    obtain ⟨x, ex, ⟨t2, g2, rfl, e1, e2⟩⟩ := alb.get ebn
    refine ⟨rfl, yes_in ⟨_, rfl, r, _, _, _, rfl, rfl, SqT.of (s5 _ _ er), atI_nat (j := 1) rfl, _, rfl, ba, _, _, _, rfl, rfl, SqT.of (s5 _ _ eb), atI_nat ex, t2, _, _, _, rfl, rfl, SqT.of (s5 _ _ e1), atI_nat (j := 2) rfl, g2, _, rfl, .inr (SqT.of (s5 _ _ e2)), _, hD, ?_, ?_, Same.own s5 nD⟩⟩
    · rw [List.length_map, List.length_map, List.length_take]; exact small1000 (by omega)
    · rw [upd_same, List.take_add_one, en, List.map_append, List.map_append, List.length_map]
      show _ = some (HO.lst (_ ++ [V.int (trB bs n)]))
      unfold trB
      rw [ebn]
  · rintro H5 ⟨hD, s5⟩
    rw [List.length_map, List.take_length] at hD
    exact ⟨D, _, rfl, SqL.of hD, q _ s5⟩
def sp_law_end (K : PySem.W.Frag) : Sp := fun vs H Q _ => ∃ (r t : Addr) (hs : List HR) (bs : List BR) (k : Nat) (ns : List Nat), vs = [.ref r, .ref t] ∧ RoomAt H r hs bs ∧ PairAt H t k ns ∧ (∀ n ∈ ns, n < bs.length) ∧ ∀ H', Same H H' → Q (onV (wayEnd bs k ns)) H'
theorem ok_law_end {f : Addr} {fd : FuncData} (F : Fun K "_law_end" "_law_end" s_law_end f fd) (T : Top K mg) : FnOk P w K mg base CX0 1 f fd ["_law_room_here", "_law_pair"] (sp_law_end K) := by
  refine F.ok sc_law_end (fun vs H Q E h => ?_) (fun cdv A outer s H vs Q E hr h => ?_)
  · obtain ⟨r, t, hs, bs, k, ns, rfl, _⟩ := h
    rfl
  obtain ⟨r, t, hs, bs, k, ns, rfl, hR, ⟨g, et, eg⟩, hn, q⟩ := h
  obtain ⟨ha, ba, hv, bv, er, eh, eb, alh, alb⟩ := hR.ex
  refine ⟨_, (pss_cons (ps_set (i := 2) sc_law_end.nd rfl (Or.inl rfl) (pe_ix (ix_tupK K rfl) (pv 1) pe_int (fun _ _ => rfl)))
      (pss_cons (ps_for PassesOwn.never rfl (pi_tupK K rfl (pe_ix (ix_tupK K rfl) (pv 1) pe_int (fun _ _ => rfl))) (pg_name (i := 3) sc_law_end.nd rfl (Or.inl rfl))
        (pss_one (ps_if (PW.pt (pw_and (pt_cmpR op_notN (pv 2) pe_non (nomark _)) (pw_and1 (pt_cmpR op_eq (pe_ix (ix_tupK K rfl) (pe_ix (ix_tupK K rfl) (pe_ix (ix_tupK K rfl) (pv 0) pe_int (fun _ _ => rfl)) (pv 3) (fun _ _ => rfl)) pe_int (fun _ _ => rfl)) (pv 2) (nomark _))))) (pss_one (ps_set (i := 2) sc_law_end.nd rfl (Or.inl rfl) (pe_ix (ix_tupK K rfl) (pe_ix (ix_tupK K rfl) (pe_ix (ix_tupK K rfl) (pv 0) pe_int (fun _ _ => rfl)) (pv 3) (fun _ _ => rfl)) pe_int (fun _ _ => rfl)))) (pss_one (ps_set (i := 2) sc_law_end.nd rfl (Or.inl rfl) pe_non)))))
      (pss_one (ps_ret (pv 2))))), ?_⟩
  refine ⟨_, rfl, t, _, _, _, rfl, rfl, SqT.of et, atI_nat (j := 0) rfl, ?_⟩
  refine ⟨_, rfl, t, _, _, _, rfl, rfl, SqT.of et, atI_nat (j := 1) rfl, g, rfl, ⟨_, SqT.of eg⟩, for_tup (K := K) (a := g) (xs := ns.map nV) (fun i σ H2 => ∃ (cur : Option Nat) (v3 : Option V), σ = [some (.ref r), some (.ref t), some (onV cur), v3] ∧ wayEnd bs k ns = (cur.bind fun c => wayEnd bs c (ns.drop i)) ∧ Same H H2)
    ⟨some k, none, rfl, rfl, Same.refl _⟩ (fun i σ H2 _ ⟨_, _, _, _, s2⟩ => SqT.of (s2 _ _ eg)) ?_ ?_⟩
  · rintro i x σ H2 hx ⟨cur, v3, rfl, hw, s2⟩
    obtain ⟨n, en, rfl⟩ := nats_at hx
    have nb := hn n (List.mem_of_getElem? en)
    have ebn : bs[n]? = some bs[n] := List.getElem?_eq_getElem nb
    obtain ⟨x, ex, ⟨t2, g2, rfl, e1, e2⟩⟩ := alb.get ebn
    cases cur with
    | none =>
      refine ⟨_, rfl, rfl, _, rfl, if_bl (fun z => nomatch z) (fun _ => ?_)⟩
      exact ⟨none, _, rfl, hw, s2⟩
    | some c =>
      have hw : wayEnd bs k ns = wayEnd bs c (ns.drop i) := hw
      rw [drop_at en, wayEnd_cons ebn] at hw
      refine ⟨_, rfl, rfl, _, rfl, if_bl (fun _ => ?_) (fun z => nomatch z)⟩
      refine ⟨_, rfl, r, _, _, _, rfl, rfl, SqT.of (s2 _ _ er), atI_nat (j := 1) rfl, _, rfl, ba, _, _, _, rfl, rfl, SqT.of (s2 _ _ eb), atI_nat ex, t2, _, _, _, rfl, rfl, SqT.of (s2 _ _ e1), atI_nat (j := 0) rfl, _, rfl, rfl, _, rfl, ?_⟩
      by_cases cc : bs[n].one = c
      · rw [if_pos cc] at hw
        rw [decide_eq_true (show nV bs[n].one = onV (some c) by rw [cc]; rfl)]
        refine if_bl (fun _ => ?_) (fun z => nomatch z)
        exact ⟨_, rfl, r, _, _, _, rfl, rfl, SqT.of (s2 _ _ er), atI_nat (j := 1) rfl, _, rfl, ba, _, _, _, rfl, rfl, SqT.of (s2 _ _ eb), atI_nat ex, t2, _, _, _, rfl, rfl, SqT.of (s2 _ _ e1), atI_nat (j := 1) rfl, some bs[n].to, _, rfl, hw, s2⟩
      · rw [if_neg cc] at hw
        rw [decide_eq_false (show ¬ nV bs[n].one = onV (some c) from fun z => cc (by have := V.int.inj z; omega))]
        refine if_bl (fun z => nomatch z) (fun _ => ?_)
        exact ⟨none, _, rfl, hw, s2⟩
  · rintro σ H2 ⟨cur, v3, rfl, hw, s2⟩
    rw [List.length_map, List.drop_length] at hw
    have e := q _ s2
    cases cur with
    | none => rw [hw] at e; exact ⟨_, rfl, e⟩
    | some c => rw [hw] at e; exact ⟨_, rfl, e⟩
end
section
variable {P : Program} {w : World} {K : PySem.W.Frag} {mg : Str → Option Value} {base : Heap}
def sp_way_end (K : PySem.W.Frag) : Sp := fun vs H Q _ => ∃ (r t : Addr) (hs : List HR) (bs : List BR) (k : Nat) (ns : List Nat), vs = [.ref r, .ref t] ∧ RoomAt H r hs bs ∧ PairAt H t k ns ∧ k < hs.length ∧ (∀ n ∈ ns, n < bs.length) ∧ ∀ H', Same H H' → Q (onV (wayEnd bs k ns)) H'
theorem ok_way_end {f : Addr} {fd : FuncData} (F : Fun K "way_end" "way_end" s_way_end f fd) (T : Top K mg) : FnOk P w K mg base CX0 1 f fd ["room", "pair"] (sp_way_end K) := by
  refine F.ok sc_way_end (fun vs H Q E h => ?_) (fun cdv A outer s H vs Q E hr h => ?_)
  · obtain ⟨r, t, hs, bs, k, ns, rfl, _⟩ := h
    rfl
  obtain ⟨r, t, hs, bs, k, ns, rfl, hR, ⟨g, et, eg⟩, hk, hn, q⟩ := h
  obtain ⟨ha, ba, hv, bv, er, eh, eb, alh, alb⟩ := hR.ex
  have lhv := alh.length
  have lbv := alb.length
  refine ⟨_, (pss_cons (ps_asg (pv 0) (pg_tupK K rfl rfl (pgs_cons (pg_name (i := 2) sc_way_end.nd rfl (Or.inl rfl)) (pgs_cons (pg_name (i := 3) sc_way_end.nd rfl (Or.inl rfl)) pgs_nil))))
      (pss_cons (ps_asg (pv 1) (pg_tupK K rfl rfl (pgs_cons (pg_name (i := 4) sc_way_end.nd rfl (Or.inl rfl)) (pgs_cons (pg_name (i := 5) sc_way_end.nd rfl (Or.inl rfl)) pgs_nil))))
      (pss_cons (ps_if (pt_not (pt_chain op_le op_lt pe_int (pv 4) (pe_callB (call_len_seqK K rfl) (by rfl) T.m_len (by decide +kernel) (pa_cons (pv 2) pa_nil)))) (pss_one (ps_ret pe_non)) pss_nil)
      (pss_cons (ps_for PassesOwn.never rfl (pi_tupK K rfl (pv 5)) (pg_name (i := 6) sc_way_end.nd rfl (Or.inl rfl))
        (pss_cons (ps_if (PW.pt (pw_or (pt_not (pt_chain op_le op_lt pe_int (pv 6) (pe_callB (call_len_seqK K rfl) (by rfl) T.m_len (by decide +kernel) (pa_cons (pv 3) pa_nil)))) (pw_or1 (pt_cmpR op_ne (pe_ix (ix_tupK K rfl) (pe_ix (ix_tupK K rfl) (pv 3) (pv 6) (fun _ _ => rfl)) pe_int (fun _ _ => rfl)) (pv 4) (nomark _))))) (pss_one (ps_ret pe_non)) pss_nil)
      (pss_one (ps_set (i := 4) sc_way_end.nd rfl (Or.inl rfl) (pe_ix (ix_tupK K rfl) (pe_ix (ix_tupK K rfl) (pv 3) (pv 6) (fun _ _ => rfl)) pe_int (fun _ _ => rfl))))))
      (pss_one (ps_ret (pv 4))))))), ?_⟩
  refine ⟨_, rfl, r, _, rfl, SqT.of er, rfl, _, _, rfl, _, _, rfl, rfl, ?_⟩
  refine ⟨_, rfl, t, _, rfl, SqT.of et, rfl, _, _, rfl, _, _, rfl, rfl, ?_⟩
  refine ⟨_, rfl, _, _, rfl, rfl, _, rfl, if_bl (fun _ => ?_) (fun z => absurd (show (0 : Int) ≤ ((k : Nat) : Int) by omega) (of_decide_eq_false z))⟩
  refine ⟨_, rfl, ha, _, rfl, .inr (SqT.of eh), _, _, rfl, rfl, _, rfl, ?_⟩
  rw [decide_eq_true (show ((k : Nat) : Int) < ((hv.length : Nat) : Int) by omega)]
  refine if_bl (fun z => nomatch z) (fun _ => ?_)
  refine ⟨_, rfl, g, rfl, ⟨_, SqT.of eg⟩, for_tup (K := K) (a := g) (xs := ns.map nV) (fun i σ H2 => ∃ (cur : Nat) (v6 : Option V), σ = [some (.ref r), some (.ref t), some (.ref ha), some (.ref ba), some (nV cur), some (.ref g), v6] ∧ wayEnd bs k ns = wayEnd bs cur (ns.drop i) ∧ Same H H2)
    ⟨k, none, rfl, rfl, Same.refl _⟩ (fun i σ H2 _ ⟨_, _, _, _, s2⟩ => SqT.of (s2 _ _ eg)) ?_ ?_⟩
  · rintro i x σ H2 hx ⟨cur, v6, rfl, hw, s2⟩
    obtain ⟨n, en, rfl⟩ := nats_at hx
    have nb := hn n (List.mem_of_getElem? en)
    have ebn : bs[n]? = some bs[n] := List.getElem?_eq_getElem nb
    obtain ⟨x, ex, ⟨t2, g2, rfl, e1, e2⟩⟩ := alb.get ebn
    rw [drop_at en, wayEnd_cons ebn] at hw
    refine ⟨_, rfl, _, _, rfl, rfl, _, rfl, if_bl (fun _ => ?_) (fun z => absurd (show (0 : Int) ≤ ((n : Nat) : Int) by omega) (of_decide_eq_false z))⟩
    refine ⟨_, rfl, ba, _, rfl, .inr (SqT.of (s2 _ _ eb)), _, _, rfl, rfl, _, rfl, ?_⟩
    rw [decide_eq_true (show ((n : Nat) : Int) < ((bv.length : Nat) : Int) by omega)]
    refine if_bl (fun z => nomatch z) (fun _ => ?_)
    refine ⟨_, rfl, _, rfl, ba, _, _, _, rfl, rfl, SqT.of (s2 _ _ eb), atI_nat ex, t2, _, _, _, rfl, rfl, SqT.of (s2 _ _ e1), atI_nat (j := 0) rfl, _, rfl, rfl, _, rfl, ?_⟩
    by_cases c : bs[n].one = cur
    · rw [decide_eq_true (show nV bs[n].one = nV cur by rw [c])]
      rw [if_pos c] at hw
      refine if_bl (fun z => nomatch z) (fun _ => ?_)
      exact ⟨_, rfl, _, rfl, ba, _, _, _, rfl, rfl, SqT.of (s2 _ _ eb), atI_nat ex, t2, _, _, _, rfl, rfl, SqT.of (s2 _ _ e1), atI_nat (j := 1) rfl, _, _, rfl, hw, s2⟩
    · rw [decide_eq_false (show ¬ nV bs[n].one = nV cur from fun z => c (by have := V.int.inj z; omega))]
      rw [if_neg c] at hw
      refine if_bl (fun _ => ?_) (fun z => nomatch z)
      have := q _ s2
      rw [hw] at this
      exact this
  · rintro σ H2 ⟨cur, v6, rfl, hw, s2⟩
    rw [List.length_map, List.drop_length] at hw
    have := q _ s2
    rw [hw] at this
    exact ⟨_, rfl, this⟩
end
section
variable {P : Program} {w : World} {K : PySem.W.Frag} {mg : Str → Option Value} {base : Heap}
def sp_trays_on (K : PySem.W.Frag) : Sp := fun vs H Q _ => ∃ (r t : Addr) (hs : List HR) (bs : List BR) (k : Nat) (ns : List Nat), vs = [.ref r, .ref t] ∧ RoomAt H r hs bs ∧ PairAt H t k ns ∧ (∀ n ∈ ns, n < bs.length) ∧ ns.length ≤ 400 ∧ ∀ H', Same H H' → Q (.int (ns.map (trB bs)).sum) H'
theorem ok_trays_on {f : Addr} {fd : FuncData} (F : Fun K "trays_on" "trays_on" s_trays_on f fd) (T : Top K mg) : FnOk P w K mg base CX0 1 f fd ["room", "way"] (sp_trays_on K) := by
  refine F.ok sc_trays_on (fun vs H Q E h => ?_) (fun cdv A outer s H vs Q E hr h => ?_)
  · obtain ⟨r, t, hs, bs, k, ns, rfl, _⟩ := h
    rfl
  obtain ⟨r, t, hs, bs, k, ns, rfl, hR, ⟨g, et, eg⟩, hn, ln, q⟩ := h
  obtain ⟨ha, ba, hv, bv, er, eh, eb, alh, alb⟩ := hR.ex
  refine ⟨_, (pss_one (ps_ret (pe_callB (cr_sumK K rfl rfl) (by rfl) T.m_sum (by decide +kernel) (pa_cons (pe_lc (own := [("number", 2)]) (g := gName 2) (tt := tYes) (by rfl) sc_trays_on.nd (pi_tupK K rfl (pe_ix (ix_tupK K rfl) (pv 1) pe_int (fun _ _ => rfl))) (blkOk_by (own := [("number", 2)]) (N := N_trays_on) (sc := defScope s_trays_on) (by decide +kernel)) (fun _ _ _ _ _ => (pg_name (i := 2) sc_trays_on.nd rfl (Or.inl rfl))) (fun _ _ _ _ _ => pts_nil) (fun _ _ _ _ _ => (pe_callB (call_len_seqK K rfl) (by rfl) T.m_len (by decide +kernel) (pa_cons (pe_ix (ix_tupK K rfl) (pe_ix (ix_tupK K rfl) (pe_ix (ix_tupK K rfl) (pv 0) pe_int (fun _ _ => rfl)) (pv 2) (fun _ _ => rfl)) pe_int (fun _ _ => rfl)) pa_nil)))) pa_nil)))), ?_⟩
  refine ⟨_, rfl, t, _, _, _, rfl, rfl, SqT.of et, atI_nat (j := 1) rfl, g, rfl, ⟨_, SqT.of eg⟩, fun D nD => lc_tup (K := K) (a := g) (xs := ns.map nV) (fun i H5 => H5 D = some (.lst (((ns.take i).map (trB bs)).map V.int)) ∧ Same H H5) ⟨upd_same, same_new nD⟩ (fun i H5 _ ⟨_, s5⟩ => SqT.of (s5 _ _ eg)) ?_ ?_⟩
  · rintro i x H5 hx ⟨hD, s5⟩
    obtain ⟨n, en, rfl⟩ := nats_at hx
    have il := (List.getElem?_eq_some_iff.mp en).1
    have nb := hn n (List.mem_of_getElem? en)
    have ebn : bs[n]? = some bs[n] := List.getElem?_eq_getElem nb
    obtain ⟨x, ex, ⟨t2, g2, rfl, e1, e2⟩⟩ := alb.get ebn
    refine ⟨rfl, yes_in ⟨_, rfl, r, _, _, _, rfl, rfl, SqT.of (s5 _ _ er), atI_nat (j := 1) rfl, _, rfl, ba, _, _, _, rfl, rfl, SqT.of (s5 _ _ eb), atI_nat ex, t2, _, _, _, rfl, rfl, SqT.of (s5 _ _ e1), atI_nat (j := 2) rfl, g2, _, rfl, .inr (SqT.of (s5 _ _ e2)), _, hD, ?_, ?_, Same.own s5 nD⟩⟩
    · rw [List.length_map, List.length_map, List.length_take]; exact small1000 (by omega)
    · rw [upd_same, List.take_add_one, en, List.map_append, List.map_append, List.length_map]
      show _ = some (HO.lst (_ ++ [V.int (trB bs n)]))
      unfold trB
      rw [ebn]
  · rintro H5 ⟨hD, s5⟩
    rw [List.length_map, List.take_length] at hD
    exact ⟨D, _, rfl, SqL.of hD, q _ s5⟩
end
/-! ### all rings of a room: the list of them, and how long it is -/
structure Rw where
  h : Nat
  ns : List Nat
  met : List Nat
def extB (bs : List BR) (m : Nat) (x : Rw) (b : Nat) : Option Rw := match bs[b]? with
  | some y => if y.one = x.h ∧ m < y.to ∧ y.to ∉ x.met then some ⟨y.to, x.ns ++ [b], x.met ++ [y.to]⟩ else none
  | none => none
def cloB (bs : List BR) (m : Nat) (x : Rw) (b : Nat) : Option (Nat × List Nat) := match bs[b]? with
  | some y => if y.one = x.h ∧ y.to = m then some (m, x.ns ++ [b]) else none
  | none => none
def nextX (bs : List BR) (m : Nat) (X : List Rw) : List Rw := X.flatMap fun x => (List.range bs.length).filterMap (extB bs m x)
def cloX (bs : List BR) (m : Nat) (X : List Rw) : List (Nat × List Nat) := X.flatMap fun x => (List.range bs.length).filterMap (cloB bs m x)
def Xs (bs : List BR) (m : Nat) : Nat → List Rw
  | 0 => [⟨m, [], [m]⟩]
  | j + 1 => nextX bs m (Xs bs m j)
def cntW (X : List Rw) (h : Nat) : Nat := (X.filter fun x => decide (x.h = h)).length
def sumN (l : List Nat) : Nat := l.foldr (· + ·) 0
theorem sumN_cons {a : Nat} {l : List Nat} : sumN (a :: l) = a + sumN l := rfl
theorem sumN_le {α : Type} {f g : α → Nat} (h : ∀ x, f x ≤ g x) : ∀ l : List α, sumN (l.map f) ≤ sumN (l.map g)
  | [] => Nat.le_refl _
  | a :: l => by
    rw [List.map_cons, List.map_cons, sumN_cons, sumN_cons]
    exact Nat.add_le_add (h a) (sumN_le h l)
theorem sumN_add {α : Type} {f g : α → Nat} : ∀ l : List α, sumN (l.map fun x => f x + g x) = sumN (l.map f) + sumN (l.map g)
  | [] => rfl
  | a :: l => by
    rw [List.map_cons, List.map_cons, List.map_cons, sumN_cons, sumN_cons, sumN_cons, sumN_add l]
    omega
def toIs (bs : List BR) (t b : Nat) : Bool := match bs[b]? with | some y => decide (y.to = t) | none => false
def oneOf (bs : List BR) (b : Nat) : Nat := match bs[b]? with | some y => y.one | none => 0
/-- whatever is made of an item and a belt that leaves where it ends, to one hand -/
theorem pairs_len {β : Type} {bs : List BR} {t : Nat} {f : Rw → Nat → Option β} (hf : ∀ x b, (f x b).isSome = true → toIs bs t b = true ∧ oneOf bs b = x.h) (l : List Nat) : ∀ X : List Rw, (X.flatMap fun x => l.filterMap (f x)).length ≤ sumN (l.map fun b => if toIs bs t b = true then cntW X (oneOf bs b) else 0)
  | [] => Nat.zero_le _
  | x :: X => by
    rw [List.flatMap_cons, List.length_append]
    have ih := pairs_len hf l X
    have one : ∀ l : List Nat, (l.filterMap (f x)).length ≤ sumN (l.map fun b => if toIs bs t b = true then (if x.h = oneOf bs b then 1 else 0) else 0) := fun l => by
      induction l with
      | nil => exact Nat.le_refl _
      | cons b l ih =>
        rw [List.map_cons, sumN_cons]
        cases e : f x b with
        | none => rw [List.filterMap_cons_none e]; omega
        | some y =>
          obtain ⟨h1, h2⟩ := hf x b (by rw [e]; rfl)
          rw [List.filterMap_cons_some e, List.length_cons, if_pos h1, if_pos h2.symm]
          omega
    have o := one l
    have e : sumN (l.map fun b => if toIs bs t b = true then cntW (x :: X) (oneOf bs b) else 0) = sumN (l.map fun b => if toIs bs t b = true then (if x.h = oneOf bs b then 1 else 0) else 0) + sumN (l.map fun b => if toIs bs t b = true then cntW X (oneOf bs b) else 0) := by
      rw [← sumN_add]
      refine congrArg sumN (List.map_congr_left fun b _ => ?_)
      by_cases z : toIs bs t b = true
      · rw [if_pos z, if_pos z, if_pos z]
        unfold cntW
        by_cases y : x.h = oneOf bs b
        · rw [if_pos y, List.filter_cons_of_pos (by simpa using y), List.length_cons]
          omega
        · rw [if_neg y, List.filter_cons_of_neg (by simpa using y)]
          omega
      · rw [if_neg z, if_neg z, if_neg z]
    omega
theorem tos_range {bs : List BR} {t : Nat} {c : Nat} : ∀ n : Nat, n ≤ bs.length → sumN (((List.range n).map fun b => if toIs bs t b = true then c else 0)) = c * ((bs.take n).map BR.to).count t
  | 0, _ => by simp [sumN]
  | n + 1, h => by
    have ih := tos_range (bs := bs) (t := t) (c := c) n (by omega)
    have sn : ∀ (l : List Nat) (a : Nat), sumN (l ++ [a]) = sumN l + a := fun l a => by
      induction l with
      | nil => show a + 0 = 0 + a; omega
      | cons b l ih => rw [List.cons_append, sumN_cons, sumN_cons, ih]; omega
    rw [List.range_succ, List.map_append, List.map_cons, List.map_nil, sn, ih, List.take_add_one, List.getElem?_eq_getElem (by omega), List.map_append, List.count_append]
    show c * _ + (if toIs bs t n = true then c else 0) = c * (_ + List.count t [bs[n].to])
    have e : toIs bs t n = decide (bs[n].to = t) := by unfold toIs; rw [List.getElem?_eq_getElem (by omega)]
    rw [e, Nat.mul_add]
    by_cases z : bs[n].to = t
    · rw [decide_eq_true z, if_pos rfl, z, List.count_singleton_self]
      omega
    · rw [decide_eq_false z, if_neg Bool.false_ne_true, List.count_singleton, if_neg (by simpa using z)]
      omega
/-- with at most three belts to each hand -/
theorem pairs_three {β : Type} {bs : List BR} {t c : Nat} {f : Rw → Nat → Option β} (hf : ∀ x b, (f x b).isSome = true → toIs bs t b = true ∧ oneOf bs b = x.h) {X : List Rw} (hc : ∀ h, cntW X h ≤ c) (h3 : (bs.map BR.to).count t ≤ 3) : (X.flatMap fun x => (List.range bs.length).filterMap (f x)).length ≤ 3 * c := by
  refine Nat.le_trans (pairs_len hf _ X) ?_
  have h1 : sumN ((List.range bs.length).map fun b => if toIs bs t b = true then cntW X (oneOf bs b) else 0) ≤ sumN ((List.range bs.length).map fun b => if toIs bs t b = true then c else 0) := sumN_le (fun b => by
    by_cases z : toIs bs t b = true
    · rw [if_pos z, if_pos z]; exact hc _
    · rw [if_neg z, if_neg z]; exact Nat.le_refl _) _
  have h2 := tos_range (bs := bs) (t := t) (c := c) bs.length (Nat.le_refl _)
  rw [List.take_length] at h2
  have : c * (bs.map BR.to).count t ≤ c * 3 := Nat.mul_le_mul_left _ h3
  omega
theorem filter_flat {α β : Type} {p : β → Bool} {g : α → List β} : ∀ l : List α, (l.flatMap g).filter p = l.flatMap fun x => (g x).filter p
  | [] => rfl
  | a :: l => by rw [List.flatMap_cons, List.flatMap_cons, List.filter_append, filter_flat l]
theorem filter_fm {α β : Type} {p : β → Bool} {g : α → Option β} : ∀ l : List α, (l.filterMap g).filter p = l.filterMap fun x => (g x).filter p
  | [] => rfl
  | a :: l => by
    have ih := filter_fm (p := p) (g := g) l
    cases e : g a with
    | none => rw [List.filterMap_cons_none e, List.filterMap_cons_none (by rw [e]; rfl)]; exact ih
    | some y =>
      rw [List.filterMap_cons_some e]
      by_cases z : p y = true
      · rw [List.filter_cons_of_pos z, List.filterMap_cons_some (b := y) (by rw [e]; simp [z]), ih]
      · rw [List.filter_cons_of_neg z, List.filterMap_cons_none (by rw [e]; simp [z]), ih]
theorem cnt_next {bs : List BR} {m c : Nat} {X : List Rw} (h3 : ∀ t, (bs.map BR.to).count t ≤ 3) (hc : ∀ h, cntW X h ≤ c) : ∀ h, cntW (nextX bs m X) h ≤ 3 * c := fun h => by
  unfold cntW nextX
  rw [filter_flat]
  have e : (fun x => ((List.range bs.length).filterMap (extB bs m x)).filter fun x => decide (x.h = h)) = fun x => (List.range bs.length).filterMap fun b => (extB bs m x b).filter fun x => decide (x.h = h) := funext fun x => filter_fm _
  rw [e]
  refine pairs_three (t := h) (c := c) (fun x b z => ?_) hc (h3 h)
  unfold extB at z
  unfold toIs oneOf
  cases eb : bs[b]? with
  | none => rw [eb] at z; cases z
  | some y =>
    rw [eb] at z
    dsimp only at z ⊢
    by_cases k : y.one = x.h ∧ m < y.to ∧ y.to ∉ x.met
    · rw [if_pos k] at z
      by_cases q : y.to = h
      · exact ⟨decide_eq_true q, k.1⟩
      · simp [q] at z
    · rw [if_neg k] at z; cases z
theorem cnt_Xs {bs : List BR} {m : Nat} (h3 : ∀ t, (bs.map BR.to).count t ≤ 3) : ∀ j h, cntW (Xs bs m j) h ≤ 3 ^ j
  | 0, h => by
    show cntW [⟨m, [], [m]⟩] h ≤ 1
    unfold cntW
    exact Nat.le_trans (List.length_filter_le ..) (Nat.le_refl _)
  | j + 1, h => by
    have := cnt_next (m := m) (X := Xs bs m j) h3 (cnt_Xs h3 j) h
    show cntW (nextX bs m (Xs bs m j)) h ≤ 3 ^ (j + 1)
    rw [Nat.pow_succ]
    omega
theorem clo_len {bs : List BR} {m c : Nat} {X : List Rw} (h3 : ∀ t, (bs.map BR.to).count t ≤ 3) (hc : ∀ h, cntW X h ≤ c) : (cloX bs m X).length ≤ 3 * c := by
  refine pairs_three (t := m) (c := c) (fun x b z => ?_) hc (h3 m)
  unfold cloB at z
  unfold toIs oneOf
  cases eb : bs[b]? with
  | none => rw [eb] at z; cases z
  | some y =>
    rw [eb] at z
    dsimp only at z ⊢
    by_cases k : y.one = x.h ∧ y.to = m
    · exact ⟨decide_eq_true k.2, k.1⟩
    · rw [if_neg k] at z; cases z
theorem len_cnt {c : Nat} : ∀ (n : Nat) (X : List Rw), (∀ x ∈ X, x.h < n) → (∀ h, cntW X h ≤ c) → X.length ≤ n * c
  | 0, X, hX, _ => by
    cases X with
    | nil => exact Nat.zero_le _
    | cons x X => exact absurd (hX x (List.mem_cons_self ..)) (Nat.not_lt_zero _)
  | n + 1, X, hX, hc => by
    have split : X.length = (X.filter fun x => decide (x.h = n)).length + (X.filter fun x => !decide (x.h = n)).length := by
      have : ∀ X : List Rw, X.length = (X.filter fun x => decide (x.h = n)).length + (X.filter fun x => !decide (x.h = n)).length := fun X => by
        induction X with
        | nil => rfl
        | cons x X ih =>
          by_cases z : x.h = n
          · rw [List.filter_cons_of_pos (by simpa using z), List.filter_cons_of_neg (by simpa using z), List.length_cons, List.length_cons, ih]; omega
          · rw [List.filter_cons_of_neg (by simpa using z), List.filter_cons_of_pos (by simpa using z), List.length_cons, List.length_cons, ih]; omega
      exact this X
    have ih := len_cnt n (X.filter fun x => !decide (x.h = n)) (fun x hx => by
      obtain ⟨h1, h2⟩ := List.mem_filter.mp hx
      have := hX x h1
      have h2 : x.h ≠ n := by simpa using h2
      omega) (fun h => Nat.le_trans (by
        unfold cntW
        rw [List.filter_filter]
        have : ∀ X : List Rw, (X.filter fun x => decide (x.h = h) && !decide (x.h = n)).length ≤ (X.filter fun x => decide (x.h = h)).length := fun X => by
          have e : (X.filter fun x => decide (x.h = h) && !decide (x.h = n)) = (X.filter fun x => decide (x.h = h)).filter fun x => !decide (x.h = n) := by
            rw [List.filter_filter]
            refine congrArg (fun p => List.filter p X) (funext fun x => Bool.and_comm ..)
          rw [e]
          exact List.length_filter_le ..
        exact this X) (hc h))
    have := hc n
    unfold cntW at this
    rw [split, Nat.add_mul, Nat.one_mul]
    omega
/-- what an item is: a way from m, its hands met -/
structure RwOk (bs : List BR) (m j : Nat) (x : Rw) : Prop where
  way : wayEnd bs m x.ns = some x.h
  lt : ∀ n ∈ x.ns, n < bs.length
  len : x.ns.length = j
  met : x.met = m :: x.ns.map (toB bs)
theorem Xs_ok {bs : List BR} {m : Nat} : ∀ j, ∀ x ∈ Xs bs m j, RwOk bs m j x
  | 0, x, hx => by
    obtain rfl : x = ⟨m, [], [m]⟩ := by simpa [Xs] using hx
    exact ⟨rfl, (fun _ z => nomatch z), rfl, rfl⟩
  | j + 1, x, hx => by
    obtain ⟨y, hy, hx⟩ := List.mem_flatMap.mp hx
    obtain ⟨b, hb, e⟩ := List.mem_filterMap.mp hx
    have ok := Xs_ok j y hy
    unfold extB at e
    cases eb : bs[b]? with
    | none => rw [eb] at e; cases e
    | some z =>
      rw [eb] at e
      dsimp only at e
      by_cases k : z.one = y.h ∧ m < z.to ∧ z.to ∉ y.met
      · rw [if_pos k] at e
        cases e
        refine ⟨?_, fun n hn => ?_, by rw [List.length_append, ok.len]; rfl, ?_⟩
        · have app : ∀ {ns : List Nat} {k : Nat}, wayEnd bs k ns = some y.h → wayEnd bs k (ns ++ [b]) = some z.to := by
            intro ns
            induction ns with
            | nil => intro k w; cases w; rw [List.nil_append, wayEnd_cons eb, if_pos k.1]; rfl
            | cons a ns ih =>
              intro k w
              cases ea : bs[a]? with
              | none =>
                have : wayEnd bs k (a :: ns) = none := by
                  show (match bs[a]? with | some b => if b.one = k then wayEnd bs b.to ns else none | none => none) = none
                  rw [ea]
                rw [this] at w; cases w
              | some v =>
                rw [wayEnd_cons ea] at w
                rw [List.cons_append, wayEnd_cons ea]
                by_cases q : v.one = k
                · rw [if_pos q] at w ⊢; exact ih w
                · rw [if_neg q] at w; cases w
          exact app ok.way
        · rcases List.mem_append.mp hn with hn | hn
          · exact ok.lt n hn
          · rw [List.mem_singleton.mp hn]; exact List.mem_range.mp hb
        · rw [ok.met, List.map_append]
          show m :: _ ++ _ = m :: (_ ++ [toB bs b])
          rw [show toB bs b = z.to by unfold toB; rw [eb]]
          rfl
      · rw [if_neg k] at e; cases e
def ringsM (bs : List BR) (n m : Nat) : List (Nat × List Nat) := (List.range n).flatMap fun j => cloX bs m (Xs bs m j)
def allR (bs : List BR) (n : Nat) : List (Nat × List Nat) := (List.range n).flatMap (ringsM bs n)
theorem flat_succ {α : Type} {g : Nat → List α} (i : Nat) : (List.range (i + 1)).flatMap g = (List.range i).flatMap g ++ g i := by
  rw [List.range_succ, List.flatMap_append]
  simp
theorem clos_len {bs : List BR} {m : Nat} (h3 : ∀ t, (bs.map BR.to).count t ≤ 3) : ∀ j, 2 * ((List.range j).flatMap fun j => cloX bs m (Xs bs m j)).length + 3 ≤ 3 ^ (j + 1)
  | 0 => Nat.le_refl _
  | j + 1 => by
    have ih := clos_len (m := m) h3 j
    have c := clo_len (m := m) h3 (cnt_Xs (m := m) h3 j)
    rw [flat_succ, List.length_append, Nat.pow_succ 3 (j + 1)]
    rw [Nat.pow_succ] at ih ⊢
    omega
theorem all_len {bs : List BR} {n : Nat} (h3 : ∀ t, (bs.map BR.to).count t ≤ 3) (n12 : n ≤ 12) : ∀ i, ((List.range i).flatMap (ringsM bs n)).length ≤ i * 797160
  | 0 => Nat.zero_le _
  | i + 1 => by
    have ih := all_len h3 n12 i
    have c : 2 * (ringsM bs n i).length + 3 ≤ 3 ^ (n + 1) := clos_len (m := i) h3 n
    have p : 3 ^ (n + 1) ≤ 3 ^ 13 := Nat.pow_le_pow_right (by decide) (by omega)
    rw [flat_succ, List.length_append, Nat.add_mul]
    have e : (3 : Nat) ^ 13 = 1594323 := by decide
    omega
theorem part_len {α β : Type} {X : List α} {g : α → Nat → Option β} {N i b : Nat} {x : α} (e : X[i]? = some x) (hb : b ≤ N) : ((X.take i).flatMap (fun x => (List.range N).filterMap (g x)) ++ (List.range b).filterMap (g x)).length ≤ (X.flatMap fun x => (List.range N).filterMap (g x)).length := by
  obtain ⟨hi, z⟩ := List.getElem?_eq_some_iff.mp e
  have split : X = X.take i ++ (x :: X.drop (i + 1)) := by
    rw [← z, ← List.drop_eq_getElem_cons hi, List.take_append_drop]
  have r : (List.range b).filterMap (g x) <+: (List.range N).filterMap (g x) := by
    have : List.range b <+: List.range N := by
      rw [List.prefix_iff_eq_take, List.length_range, List.take_range, Nat.min_eq_left hb]
    obtain ⟨l, hl⟩ := this
    rw [← hl, List.filterMap_append]
    exact List.prefix_append ..
  have e2 : (X.flatMap fun x => (List.range N).filterMap (g x)).length = ((X.take i).flatMap fun x => (List.range N).filterMap (g x)).length + (((List.range N).filterMap (g x)).length + ((X.drop (i + 1)).flatMap fun x => (List.range N).filterMap (g x)).length) := by
    conv => lhs; rw [split, List.flatMap_append, List.length_append, List.flatMap_cons, List.length_append]
  rw [e2, List.length_append]
  have := r.length_le
  omega
theorem fm_succ {β : Type} {f : Nat → Option β} (b : Nat) : (List.range (b + 1)).filterMap f = (List.range b).filterMap f ++ (f b).toList := by
  rw [List.range_succ, List.filterMap_append]
  cases e : f b with
  | none => rw [List.filterMap_cons_none e]; rfl
  | some y => rw [List.filterMap_cons_some e]; rfl
theorem fm_none {β : Type} {f : Nat → Option β} {b : Nat} (e : f b = none) : (List.range (b + 1)).filterMap f = (List.range b).filterMap f := by rw [fm_succ, e]; exact List.append_nil _
theorem fm_some {β : Type} {f : Nat → Option β} {b : Nat} {y : β} (e : f b = some y) : (List.range (b + 1)).filterMap f = (List.range b).filterMap f ++ [y] := by rw [fm_succ, e]; rfl
def RgAt (H : Hp) (v : V) (x : Nat × List Nat) : Prop := ∃ p : Addr, v = .ref p ∧ PairAt H p x.1 x.2
theorem RgAt.keep {H H' : Hp} {v : V} {x : Nat × List Nat} (a : RgAt H v x) (k : TK H H') : RgAt H' v x := by
  obtain ⟨p, e, h⟩ := a
  exact ⟨p, e, h.keep k⟩
def RwAt (H : Hp) (v : V) (x : Rw) : Prop := ∃ t g q : Addr, v = .ref t ∧ H t = some (.tup [nV x.h, .ref g, .ref q]) ∧ H g = some (.tup (x.ns.map nV)) ∧ H q = some (.tup (x.met.map nV))
theorem RwAt.keep {H H' : Hp} {v : V} {x : Rw} (a : RwAt H v x) (k : TK H H') : RwAt H' v x := by
  obtain ⟨t, g, q, e, h1, h2, h3⟩ := a
  exact ⟨t, g, q, e, k _ _ h1, k _ _ h2, k _ _ h3⟩
theorem inV_nats {k : Nat} {ns : List Nat} : inV (nV k) (ns.map nV) = true ↔ k ∈ ns := by
  unfold inV
  induction ns with
  | nil => simp
  | cons z zs ih =>
    rw [List.map_cons, List.any_cons, Bool.or_eq_true, ih, List.mem_cons]
    refine or_congr_left ?_
    show ((z : Int) == (k : Int)) = true ↔ k = z
    rw [beq_iff_eq]
    omega
section
variable {P : Program} {w : World} {K : PySem.W.Frag} {mg : Str → Option Value} {base : Heap}
def sp_law_rings (K : PySem.W.Frag) : Sp := fun vs H Q _ => ∃ (r : Addr) (hs : List HR) (bs : List BR), vs = [.ref r] ∧ RoomAt H r hs bs ∧ hs.length ≤ 12 ∧ bs.length ≤ 20 ∧ (∀ b ∈ bs, b.to < hs.length) ∧ (∀ t, (bs.map BR.to).count t ≤ 3) ∧
  ∀ (l : Addr) (rv : List V) (H' : Hp), H' l = some (.lst rv) → All2 (RgAt H') rv (allR bs hs.length) → Same H H' → Q (.ref l) H'
theorem ok_law_rings {f : Addr} {fd : FuncData} (F : Fun K "_law_rings" "_law_rings" s_law_rings f fd) (T : Top K mg) : FnOk P w K mg base CX0 1 f fd ["_law_room_here"] (sp_law_rings K) := by
  refine F.ok sc_law_rings (fun vs H Q E h => ?_) (fun cdv A outer s H vs Q E hr h => ?_)
  · obtain ⟨r, hs, bs, rfl, _⟩ := h
    rfl
  obtain ⟨r, hs, bs, rfl, hR, lh, lb, hto, h3, q⟩ := h
  obtain ⟨ha, ba, hv, bv, er, eh, eb, alh, alb⟩ := hR.ex
  have lhv := alh.length
  have lbv := alb.length
  have p13 : ∀ j, j ≤ 12 → 3 ^ (j + 1) ≤ 1594323 := fun j hj => by
    have p : 3 ^ (j + 1) ≤ 3 ^ 13 := Nat.pow_le_pow_right (by decide) (by omega)
    have e : (3 : Nat) ^ 13 = 1594323 := by decide
    omega
  have line : sizeLine = 16777216 := by decide
  let R1 : TS := fun D' σ' H' => D'.rt = Q ∧ ∃ fl : Addr, H fl = none ∧ H' = upd H fl (.lst []) ∧ σ' = [some (.ref r), some (.ref fl), none, none, none, none, none, none, none, none, none]
  let R2 : TS := fun D' σ' H' => ∃ (fl hl : Addr) (m : Nat) (v4 v5 v6 v7 v8 v9 v10 : Option V) (rv hw : List V), m < hs.length ∧ σ' = [some (.ref r), some (.ref fl), some (nV m), some (.ref hl), v4, v5, v6, v7, v8, v9, v10] ∧ H fl = none ∧ H' fl = some (.lst rv) ∧ All2 (RgAt H') rv ((List.range m).flatMap (ringsM bs hs.length)) ∧ H' hl = some (.lst hw) ∧ All2 (RwAt H') hw (Xs bs m 0) ∧ fl ≠ hl ∧ Same H H' ∧
    ∀ σ2 H2 (rv2 : List V), (∃ v2 v3 v4 v5 v6 v7 v8 v9 v10 : Option V, σ2 = [some (.ref r), some (.ref fl), v2, v3, v4, v5, v6, v7, v8, v9, v10]) → H2 fl = some (.lst rv2) → All2 (RgAt H2) rv2 ((List.range (m + 1)).flatMap (ringsM bs hs.length)) → Same H H2 → D'.nx σ2 H2
  refine ⟨_, (pss_cons (ps_set (i := 1) sc_law_rings.nd rfl (Or.inl rfl) (pe_lst pa_nil))
      (PSs.to (pss_cons (ps_for PassesOwn.never rfl (pi_range1 (by rfl) T.m_range (pa_cons (pe_callB (call_len_seqK K rfl) (by rfl) T.m_len (by decide +kernel) (pa_cons (pe_ix (ix_tupK K rfl) (pv 0) pe_int (fun _ _ => rfl)) pa_nil)) pa_nil)) (pg_name (i := 2) sc_law_rings.nd rfl (Or.inl rfl))
        (pss_cons (ps_set (i := 3) sc_law_rings.nd rfl (Or.inl rfl) (pe_lst (pa_cons (pe_tup (pa_cons (pv 2) (pa_cons (pe_tup pa_nil) (pa_cons (pe_tup (pa_cons (pv 2) pa_nil)) pa_nil)))) pa_nil)))
      (PSs.to (pss_one (ps_for PassesOwn.never rfl (pi_range1 (by rfl) T.m_range (pa_cons (pe_callB (call_len_seqK K rfl) (by rfl) T.m_len (by decide +kernel) (pa_cons (pe_ix (ix_tupK K rfl) (pv 0) pe_int (fun _ _ => rfl)) pa_nil)) pa_nil)) (pg_name (i := 4) sc_law_rings.nd rfl (Or.inl rfl))
        (pss_cons (ps_set (i := 5) sc_law_rings.nd rfl (Or.inl rfl) (pe_lst pa_nil))
      (pss_cons (ps_for PassesOwn.never rfl (pi_listK K rfl (pv 3)) (pg_tupK K rfl rfl (pgs_cons (pg_name (i := 6) sc_law_rings.nd rfl (Or.inl rfl)) (pgs_cons (pg_name (i := 7) sc_law_rings.nd rfl (Or.inl rfl)) (pgs_cons (pg_name (i := 8) sc_law_rings.nd rfl (Or.inl rfl)) pgs_nil))))
        (pss_one (ps_for PassesOwn.never rfl (pi_enumT K rfl (by rfl) T.m_enumerate (pa_cons (pe_ix (ix_tupK K rfl) (pv 0) pe_int (fun _ _ => rfl)) pa_nil)) (pg_tupK K rfl rfl (pgs_cons (pg_name (i := 9) sc_law_rings.nd rfl (Or.inl rfl)) (pgs_cons (pg_name (i := 10) sc_law_rings.nd rfl (Or.inl rfl)) pgs_nil)))
        (pss_one (ps_if (PW.pt (pw_and (pt_cmpR op_eq (pe_ix (ix_tupK K rfl) (pv 10) pe_int (fun _ _ => rfl)) (pv 6) (nomark _)) (pw_and1 (pt_cmpR op_eq (pe_ix (ix_tupK K rfl) (pv 10) pe_int (fun _ _ => rfl)) (pv 2) (nomark _))))) (pss_one (ps_expr (pe_bmK K rfl PySem.F.plainAttrs_list PySem.F.slot_list_append PySem.F.type_list_append mt_append (pv 1) (pa_cons (pe_tup (pa_cons (pv 2) (pa_cons (pe_op (op_catAK K rfl) (pv 7) (pe_tup (pa_cons (pv 9) pa_nil))) pa_nil))) pa_nil)))) (pss_one (ps_if (PW.pt (pw_and (pt_cmpR op_eq (pe_ix (ix_tupK K rfl) (pv 10) pe_int (fun _ _ => rfl)) (pv 6) (nomark _)) (pw_and (pt_cmpR op_gt (pe_ix (ix_tupK K rfl) (pv 10) pe_int (fun _ _ => rfl)) (pv 2) (nomark _)) (pw_and1 (pt_cmpR (op_notIn_seqK K rfl) (pe_ix (ix_tupK K rfl) (pv 10) pe_int (fun _ _ => rfl)) (pv 8) (by with_unfolding_all rfl)))))) (pss_one (ps_expr (pe_bmK K rfl PySem.F.plainAttrs_list PySem.F.slot_list_append PySem.F.type_list_append mt_append (pv 5) (pa_cons (pe_tup (pa_cons (pe_ix (ix_tupK K rfl) (pv 10) pe_int (fun _ _ => rfl)) (pa_cons (pe_op (op_catAK K rfl) (pv 7) (pe_tup (pa_cons (pv 9) pa_nil))) (pa_cons (pe_op (op_catAK K rfl) (pv 8) (pe_tup (pa_cons (pe_ix (ix_tupK K rfl) (pv 10) pe_int (fun _ _ => rfl)) pa_nil))) pa_nil)))) pa_nil)))) pss_nil)))))))
      (pss_one (ps_set (i := 3) sc_law_rings.nd rfl (Or.inl rfl) (pv 5))))))) R2 ?tail2)))
      (pss_one (ps_ret (pv 1)))) R1 ?tail1)), ?_⟩
  case tail2 =>
    rintro D' σ' H1 ⟨fl, hl0, m, v4, v5, v6, v7, v8, v9, v10, rv0, hw0, hm, rfl, nfl, hfl0, al0, hhl0, alw0, fhl0, s1, nx⟩
    have bU := all_len (n := hs.length) h3 lh m
    have bU2 : m * 797160 ≤ 11 * 797160 := Nat.mul_le_mul_right _ (by omega)
    refine ⟨_, rfl, r, _, _, _, rfl, rfl, SqT.of (s1 _ _ er), atI_nat (j := 0) rfl, ha, _, rfl, .inr (SqT.of (s1 _ _ eh)), _, rfl, by omega, by omega, for_range (lo := 0) (n := hv.length) (fun j σ H2 => ∃ (hl : Addr) (rv hw : List V), (∃ v4 v5 v6 v7 v8 v9 v10 : Option V, σ = [some (.ref r), some (.ref fl), some (nV m), some (.ref hl), v4, v5, v6, v7, v8, v9, v10]) ∧ H2 fl = some (.lst rv) ∧ All2 (RgAt H2) rv ((List.range m).flatMap (ringsM bs hs.length) ++ (List.range j).flatMap fun j => cloX bs m (Xs bs m j)) ∧ H2 hl = some (.lst hw) ∧ All2 (RwAt H2) hw (Xs bs m j) ∧ fl ≠ hl ∧ Same H H2) ⟨hl0, rv0, hw0, ⟨_, _, _, _, _, _, _, rfl⟩, hfl0, (by rw [show (List.range 0).flatMap (fun j => cloX bs m (Xs bs m j)) = [] from rfl, List.append_nil]; exact al0), hhl0, alw0, fhl0, s1⟩ ?_ ?_⟩
    · rintro j σ H2 hj ⟨hl, rv, hw, ⟨v4, v5, v6, v7, v8, v9, v10, rfl⟩, hfl, al, hhl, alw, fhl, s2⟩
      have bC := clos_len (m := m) h3 j
      have bP := p13 j (by omega)
      have bP2 := p13 (j + 1) (by omega)
      have bX := cnt_Xs (m := m) h3 j
      have bcl := clo_len (m := m) h3 bX
      have bnx : (nextX bs m (Xs bs m j)).length ≤ 12 * 3 ^ (j + 1) := by
        have h1 := len_cnt hs.length (nextX bs m (Xs bs m j)) (fun x hx => by
          obtain ⟨y, hy, hx⟩ := List.mem_flatMap.mp hx
          obtain ⟨b, hb, e⟩ := List.mem_filterMap.mp hx
          unfold extB at e
          cases ebb : bs[b]? with
          | none => rw [ebb] at e; cases e
          | some z =>
            rw [ebb] at e
            dsimp only at e
            by_cases k : z.one = y.h ∧ m < z.to ∧ z.to ∉ y.met
            · rw [if_pos k] at e; cases e; exact hto z (List.mem_of_getElem? ebb)
            · rw [if_neg k] at e; cases e) (cnt_Xs (m := m) h3 (j + 1))
        exact Nat.le_trans h1 (Nat.mul_le_mul_right _ lh)
      refine ⟨(by show 0 ≤ sizeLine; decide), fun ll nll => ?_⟩
      have fll : fl ≠ ll := ne_of_none hfl nll
      have hll : hl ≠ ll := ne_of_none hhl nll
      have nll0 : H ll = none := same_none s2 nll
      have s3 := same_new (o := .lst []) nll
      refine ⟨_, rfl, hl, rfl, ⟨_, SqL.of (s3 _ _ hhl)⟩, for_list (K := K) (a := hl) (xs := hw) (fun i σ H4 => ∃ rv lw : List V, (∃ v6 v7 v8 v9 v10 : Option V, σ = [some (.ref r), some (.ref fl), some (nV m), some (.ref hl), some (V.int (0 + ((j : Nat) : Int))), some (.ref ll), v6, v7, v8, v9, v10]) ∧ H4 fl = some (.lst rv) ∧ All2 (RgAt H4) rv (((List.range m).flatMap (ringsM bs hs.length) ++ (List.range j).flatMap fun j => cloX bs m (Xs bs m j)) ++ ((Xs bs m j).take i).flatMap fun x => (List.range bs.length).filterMap (cloB bs m x)) ∧ H4 ll = some (.lst lw) ∧ All2 (RwAt H4) lw (((Xs bs m j).take i).flatMap fun x => (List.range bs.length).filterMap (extB bs m x)) ∧ H4 hl = some (.lst hw) ∧ TK H2 H4 ∧ Same H H4) ⟨rv, [], ⟨_, _, _, _, _, rfl⟩, s3 _ _ hfl, (by rw [List.take_zero]; exact (List.append_nil _).symm ▸ al.imp fun _ _ z => z.keep (TK.same s3)), upd_same, (by rw [List.take_zero]; exact .nil), s3 _ _ hhl, TK.same s3, s2.trans s3⟩ (fun i σ H4 _ ⟨_, _, _, _, _, _, _, h, _⟩ => SqL.of h) ?_ ?_⟩
      · rintro i v σ H4 hv4 ⟨rv4, lw4, ⟨v6, v7, v8, v9, v10, rfl⟩, hfl4, al4, hll4, alw4, hhl4, k4, s4⟩
        obtain ⟨x, ex, hx0⟩ := alw.getL hv4
        have xok := Xs_ok j x (List.mem_of_getElem? ex)
        obtain ⟨t, g, qq, rfl, ht, hg, hq⟩ := hx0.keep k4
        refine ⟨t, _, rfl, SqT.of ht, rfl, _, _, rfl, _, _, rfl, _, _, rfl, rfl, ?_⟩
        refine ⟨_, rfl, r, _, _, _, rfl, rfl, SqT.of (s4 _ _ er), atI_nat (j := 1) rfl, ba, bv, rfl, SqT.of (s4 _ _ eb), for_it (J := IteT K ba bv) (n := bv.length) (fun b σ H5 => ∃ rv lw : List V, (∃ v9 v10 : Option V, σ = [some (.ref r), some (.ref fl), some (nV m), some (.ref hl), some (V.int (0 + ((j : Nat) : Int))), some (.ref ll), some (nV x.h), some (.ref g), some (.ref qq), v9, v10]) ∧ H5 fl = some (.lst rv) ∧ All2 (RgAt H5) rv (((List.range m).flatMap (ringsM bs hs.length) ++ (List.range j).flatMap fun j => cloX bs m (Xs bs m j)) ++ (((Xs bs m j).take i).flatMap (fun x => (List.range bs.length).filterMap (cloB bs m x)) ++ (List.range b).filterMap (cloB bs m x))) ∧ H5 ll = some (.lst lw) ∧ All2 (RwAt H5) lw (((Xs bs m j).take i).flatMap (fun x => (List.range bs.length).filterMap (extB bs m x)) ++ (List.range b).filterMap (extB bs m x)) ∧ H5 hl = some (.lst hw) ∧ TK H4 H5 ∧ Same H H5) ⟨rv4, lw4, ⟨_, _, rfl⟩, hfl4, (by rw [show (List.range 0).filterMap (cloB bs m x) = [] from rfl, List.append_nil]; exact al4), hll4, (by rw [show (List.range 0).filterMap (extB bs m x) = [] from rfl, List.append_nil]; exact alw4), hhl4, TK.refl, s4⟩ ?_ ?_ ?_ ?_⟩
        · rintro b σ H5 hb ⟨rv5, lw5, _, _, _, _, _, _, _, s5⟩
          exact ⟨SqT.of (s5 _ _ eb), hb⟩
        · rintro σ H5 ⟨rv5, lw5, _, _, _, _, _, _, _, s5⟩
          exact ⟨SqT.of (s5 _ _ eb), rfl⟩
        · rintro b v σ H5 H6 hb ⟨rv5, lw5, ⟨v9, v10, rfl⟩, hfl5, al5, hll5, alw5, hhl5, k5, s5⟩ ⟨t2, y, rfl, nt2, rfl, ey⟩
          obtain ⟨z, ebz, ⟨tb, gb, rfl, e1, e2⟩⟩ := alb.getL ey
          have s6 := same_new (H := H5) (o := .tup [V.int ((b : Nat) : Int), V.ref tb]) nt2
          have s06 := s5.trans s6
          have ksl := part_len (g := cloB bs m) (N := bs.length) ex (show b ≤ bs.length by omega)
          have kex := part_len (g := extB bs m) (N := bs.length) ex (show b ≤ bs.length by omega)
          have l5 := al5.length
          have lw5' := alw5.length
          have hg6 := s6 _ _ (k5 _ _ hg)
          have hq6 := s6 _ _ (k5 _ _ hq)
          have l12 : x.ns.length ≤ 12 := by rw [xok.len]; omega
          have lmet : x.met.length ≤ 13 := by rw [xok.met, List.length_cons, List.length_map, xok.len]; omega
          rw [List.length_append, List.length_append] at l5
          have room5 : rv5.length < sizeLine := by unfold cloX at bcl; omega
          have room6 : lw5.length < sizeLine := by unfold nextX at bnx; omega
          have same2 : cloB bs m x b = none → extB bs m x b = none → ∃ rv lw : List V, (∃ v9 v10 : Option V, [some (V.ref r), some (V.ref fl), some (nV m), some (V.ref hl), some (V.int (0 + ((j : Nat) : Int))), some (V.ref ll), some (nV x.h), some (V.ref g), some (V.ref qq), some (V.int ((b : Nat) : Int)), some (V.ref tb)] = [some (V.ref r), some (V.ref fl), some (nV m), some (V.ref hl), some (V.int (0 + ((j : Nat) : Int))), some (V.ref ll), some (nV x.h), some (V.ref g), some (V.ref qq), v9, v10]) ∧ upd H5 t2 (.tup [V.int ((b : Nat) : Int), V.ref tb]) fl = some (.lst rv) ∧ All2 (RgAt (upd H5 t2 (.tup [V.int ((b : Nat) : Int), V.ref tb]))) rv (((List.range m).flatMap (ringsM bs hs.length) ++ (List.range j).flatMap fun j => cloX bs m (Xs bs m j)) ++ (((Xs bs m j).take i).flatMap (fun x => (List.range bs.length).filterMap (cloB bs m x)) ++ (List.range (b + 1)).filterMap (cloB bs m x))) ∧ upd H5 t2 (.tup [V.int ((b : Nat) : Int), V.ref tb]) ll = some (.lst lw) ∧ All2 (RwAt (upd H5 t2 (.tup [V.int ((b : Nat) : Int), V.ref tb]))) lw (((Xs bs m j).take i).flatMap (fun x => (List.range bs.length).filterMap (extB bs m x)) ++ (List.range (b + 1)).filterMap (extB bs m x)) ∧ upd H5 t2 (.tup [V.int ((b : Nat) : Int), V.ref tb]) hl = some (.lst hw) ∧ TK H4 (upd H5 t2 (.tup [V.int ((b : Nat) : Int), V.ref tb])) ∧ Same H (upd H5 t2 (.tup [V.int ((b : Nat) : Int), V.ref tb])) := fun n1 n2 =>
            ⟨rv5, lw5, ⟨_, _, rfl⟩, s6 _ _ hfl5, (by rw [fm_none n1]; exact al5.imp fun _ _ z => z.keep (TK.same s6)), s6 _ _ hll5, (by rw [fm_none n2]; exact alw5.imp fun _ _ z => z.keep (TK.same s6)), s6 _ _ hhl5, k5.trans (TK.same s6), s06⟩
          refine ⟨t2, _, rfl, SqT.of upd_same, rfl, _, _, rfl, _, _, rfl, rfl, ?_⟩
          refine ⟨_, rfl, tb, _, _, _, rfl, rfl, SqT.of (s06 _ _ e1), atI_nat (j := 0) rfl, _, rfl, rfl, _, rfl, ?_⟩
          have no1 : z.one ≠ x.h → cloB bs m x b = none ∧ extB bs m x b = none := fun c => by
            unfold cloB extB
            rw [ebz]
            exact ⟨if_neg fun k => c k.1, if_neg fun k => c k.1⟩
          by_cases c1 : z.one = x.h
          · rw [decide_eq_true (show nV z.one = nV x.h by rw [c1])]
            refine if_bl (fun _ => ?_) (fun q => nomatch q)
            refine ⟨_, rfl, tb, _, _, _, rfl, rfl, SqT.of (s06 _ _ e1), atI_nat (j := 1) rfl, _, rfl, rfl, _, rfl, ?_⟩
            by_cases c2 : z.to = m
            · rw [decide_eq_true (show nV z.to = nV m by rw [c2])]
              refine if_bl (fun _ => ?_) (fun q => nomatch q)
              have ec : cloB bs m x b = some (m, x.ns ++ [b]) := by unfold cloB; rw [ebz]; exact if_pos ⟨c1, c2⟩
              have ee : extB bs m x b = none := by unfold extB; rw [ebz]; exact if_neg fun k => by omega
              refine ⟨_, rfl, .inl ⟨rfl, _, SqL.of (s6 _ _ hfl5)⟩, _, rfl, _, rfl, _, rfl, (by show 1 ≤ sizeLine; decide), fun b1 nb1 => ?_⟩
              refine catA_of (same_new nb1 _ _ hg6) upd_same (by rw [List.length_map]; show _ + 1 ≤ 1000; omega) fun p2 H7 h7 s7 => ⟨(by show 2 ≤ sizeLine; decide), fun pt npt => ?_⟩
              have s67 := (s6.trans (same_new (o := .tup [V.int ((b : Nat) : Int)]) nb1)).trans (s7.trans (same_new (o := .tup [nV m, .ref p2]) npt))
              have hfl7 := s67 _ _ hfl5
              refine ⟨fl, _, _, rfl, rfl, hfl7, room5, ?_⟩
              have k7 : TK H5 _ := (TK.same s67).trans (TK.lst (ys := rv5 ++ [.ref pt]) hfl7)
              refine ⟨rv5 ++ [.ref pt], lw5, ⟨_, _, rfl⟩, upd_same, ?_, by rw [upd_ne fll.symm]; exact s67 _ _ hll5, (by rw [fm_none ee]; exact alw5.imp fun _ _ z => z.keep k7), by rw [upd_ne fhl.symm]; exact s67 _ _ hhl5, k5.trans k7, Same.own (s5.trans s67) nfl⟩
              rw [fm_some ec, ← List.append_assoc, ← List.append_assoc]
              refine All2.snoc ⟨pt, rfl, p2, ?_, ?_⟩ (by rw [List.append_assoc]; exact al5.imp fun _ _ z => z.keep k7)
              · exact TK.lst hfl7 _ _ upd_same
              · refine (TK.lst hfl7 _ _ (same_new npt _ _ h7)).trans ?_
                rw [List.map_append]
                rfl
            · rw [decide_eq_false (show ¬ nV z.to = nV m from fun q => c2 (by have := V.int.inj q; omega))]
              refine if_bl (fun q => nomatch q) (fun _ => ?_)
              have ec : cloB bs m x b = none := by unfold cloB; rw [ebz]; exact if_neg fun k => c2 k.2
              refine ⟨_, rfl, tb, _, _, _, rfl, rfl, SqT.of (s06 _ _ e1), atI_nat (j := 0) rfl, _, rfl, rfl, _, rfl, ?_⟩
              rw [decide_eq_true (show nV z.one = nV x.h by rw [c1])]
              refine if_bl (fun _ => ?_) (fun q => nomatch q)
              refine ⟨_, rfl, tb, _, _, _, rfl, rfl, SqT.of (s06 _ _ e1), atI_nat (j := 1) rfl, _, rfl, _, _, rfl, rfl, _, rfl, if_bl (fun c3 => ?_) (fun c3 => ?_)⟩
              · have c3 : m < z.to := by have := of_decide_eq_true c3; omega
                refine ⟨_, rfl, tb, _, _, _, rfl, rfl, SqT.of (s06 _ _ e1), atI_nat (j := 1) rfl, _, rfl, qq, _, rfl, .inr (SqT.of hq6), rfl, (List.all_eq_true.mpr fun v hv => by obtain ⟨n, _, rfl⟩ := List.mem_map.mp hv; rfl), _, rfl, ?_⟩
                rw [if_pos rfl]
                by_cases c4 : z.to ∈ x.met
                · rw [show inV (nV z.to) (x.met.map nV) = true from inV_nats.mpr c4]
                  refine if_bl (fun q => nomatch q) (fun _ => ?_)
                  exact same2 ec (by unfold extB; rw [ebz]; exact if_neg fun k => k.2.2 c4)
                · rw [show inV (nV z.to) (x.met.map nV) = false from Bool.eq_false_iff.mpr fun q => c4 (inV_nats.mp q)]
                  refine if_bl (fun _ => ?_) (fun q => nomatch q)
                  have ee : extB bs m x b = some ⟨z.to, x.ns ++ [b], x.met ++ [z.to]⟩ := by unfold extB; rw [ebz]; exact if_pos ⟨c1, c3, c4⟩
                  have hll6 := s6 _ _ hll5
                  refine ⟨_, rfl, .inl ⟨rfl, _, SqL.of hll6⟩, _, rfl, tb, _, _, _, rfl, rfl, SqT.of (s06 _ _ e1), atI_nat (j := 1) rfl, _, rfl, _, rfl, (by show 1 ≤ sizeLine; decide), fun b1 nb1 => ?_⟩
                  have s61 := s6.trans (same_new (o := .tup [V.int ((b : Nat) : Int)]) nb1)
                  refine catA_of (same_new nb1 _ _ hg6) upd_same (by rw [List.length_map]; show _ + 1 ≤ 1000; omega) fun p2 H7 h7 s7 => ?_
                  have s67 := s61.trans s7
                  refine ⟨_, rfl, _, rfl, tb, _, _, _, rfl, rfl, SqT.of ((s5.trans s67) _ _ e1), atI_nat (j := 1) rfl, (by show 1 ≤ sizeLine; decide), fun b2 nb2 => ?_⟩
                  have s68 := s67.trans (same_new (o := .tup [nV z.to]) nb2)
                  refine catA_of (s68 _ _ (k5 _ _ hq)) upd_same (by rw [List.length_map]; show _ + 1 ≤ 1000; omega) fun p3 H8 h8 s8 => ⟨(by show 3 ≤ sizeLine; decide), fun pt npt => ?_⟩
                  have s8' := (same_new (H := H7) (o := .tup [nV z.to]) nb2).trans (s8.trans (same_new (o := .tup [nV z.to, .ref p2, .ref p3]) npt))
                  have s69 := s67.trans s8'
                  have hll9 := s69 _ _ hll5
                  refine ⟨ll, _, _, rfl, rfl, hll9, room6, ?_⟩
                  have k7 : TK H5 _ := (TK.same s69).trans (TK.lst (ys := lw5 ++ [.ref pt]) hll9)
                  refine ⟨rv5, lw5 ++ [.ref pt], ⟨_, _, rfl⟩, by rw [upd_ne fll]; exact s69 _ _ hfl5, (by rw [fm_none ec]; exact al5.imp fun _ _ z => z.keep k7), upd_same, ?_, by rw [upd_ne hll]; exact s69 _ _ hhl5, k5.trans k7, Same.own (s5.trans s69) nll0⟩
                  rw [fm_some ee, ← List.append_assoc]
                  refine All2.snoc ⟨pt, p2, p3, rfl, ?_, ?_, ?_⟩ (alw5.imp fun _ _ z => z.keep k7)
                  · exact TK.lst hll9 _ _ upd_same
                  · refine (TK.lst hll9 _ _ (s8' _ _ h7)).trans ?_
                    rw [List.map_append]
                    rfl
                  · refine (TK.lst hll9 _ _ (same_new npt _ _ h8)).trans ?_
                    rw [List.map_append]
                    rfl
              · have c3 := of_decide_eq_false c3
                exact same2 ec (by unfold extB; rw [ebz]; exact if_neg fun k => c3 (by have := k.2.1; omega))
          · rw [decide_eq_false (show ¬ nV z.one = nV x.h from fun q => c1 (by have := V.int.inj q; omega))]
            refine if_bl (fun q => nomatch q) (fun _ => ?_)
            refine ⟨_, rfl, tb, _, _, _, rfl, rfl, SqT.of (s06 _ _ e1), atI_nat (j := 0) rfl, _, rfl, rfl, _, rfl, ?_⟩
            rw [decide_eq_false (show ¬ nV z.one = nV x.h from fun q => c1 (by have := V.int.inj q; omega))]
            refine if_bl (fun q => nomatch q) (fun _ => ?_)
            exact same2 (no1 c1).1 (no1 c1).2
        · rintro σ H5 ⟨rv5, lw5, ⟨v9, v10, rfl⟩, hfl5, al5, hll5, alw5, hhl5, k5, s5⟩
          rw [lbv] at al5 alw5
          refine ⟨rv5, lw5, ⟨_, _, _, _, _, rfl⟩, hfl5, ?_, hll5, ?_, hhl5, k4.trans k5, s5⟩
          · rw [List.take_add_one, ex, List.flatMap_append]
            simpa using al5
          · rw [List.take_add_one, ex, List.flatMap_append]
            simpa using alw5
      · rintro σ H4 ⟨rv4, lw4, ⟨v6, v7, v8, v9, v10, rfl⟩, hfl4, al4, hll4, alw4, hhl4, k4, s4⟩
        rw [alw.length, List.take_length] at al4 alw4
        refine ⟨_, rfl, ?_⟩
        exact ⟨ll, rv4, lw4, ⟨_, _, _, _, _, _, _, rfl⟩, hfl4, (by rw [flat_succ, ← List.append_assoc]; exact al4), hll4, alw4, fll, s4⟩
    · rintro σ H2 ⟨hl, rv, hw, ⟨v4, v5, v6, v7, v8, v9, v10, rfl⟩, hfl, al, hhl, alw, fhl, s2⟩
      rw [lhv] at al
      exact nx _ H2 rv ⟨_, _, _, _, _, _, _, _, _, rfl⟩ hfl (by rw [flat_succ]; exact al) s2
  case tail1 =>
    rintro D' σ' H1 ⟨eD, fl, nfl, rfl, rfl⟩
    refine ⟨_, rfl, r, _, _, _, rfl, rfl, SqT.of (same_new nfl _ _ er), atI_nat (j := 0) rfl, ha, _, rfl, .inr (SqT.of (same_new nfl _ _ eh)), _, rfl, by omega, by omega, for_range (lo := 0) (n := hv.length) (fun i σ H2 => ∃ rv : List V, (∃ v2 v3 v4 v5 v6 v7 v8 v9 v10 : Option V, σ = [some (.ref r), some (.ref fl), v2, v3, v4, v5, v6, v7, v8, v9, v10]) ∧ H2 fl = some (.lst rv) ∧ All2 (RgAt H2) rv ((List.range i).flatMap (ringsM bs hs.length)) ∧ Same H H2) ⟨[], ⟨_, _, _, _, _, _, _, _, _, rfl⟩, upd_same, .nil, same_new nfl⟩ ?_ ?_⟩
    · rintro m σ H2 hm ⟨rv, ⟨v2, v3, v4, v5, v6, v7, v8, v9, v10, rfl⟩, hfl, al, s2⟩
      refine ⟨_, rfl, (by show 0 ≤ sizeLine; decide), fun g ng => ⟨_, rfl, (by show 1 ≤ sizeLine; decide), fun q1 nq1 => ⟨(by show 3 ≤ sizeLine; decide), fun t nt => ⟨(by show 1 ≤ sizeLine; decide), fun hl nhl => ?_⟩⟩⟩⟩
      have em : (0 : Int) + ((m : Nat) : Int) = ((m : Nat) : Int) := Int.zero_add _
      have fhl : fl ≠ hl := ne_of_none (same_new nt _ _ (same_new nq1 _ _ (same_new ng _ _ hfl))) nhl
      have s3 : Same H2 _ := ((same_new (o := .tup []) ng).trans (same_new (o := .tup [V.int (0 + ((m : Nat) : Int))]) nq1)).trans ((same_new (o := .tup [V.int (0 + ((m : Nat) : Int)), .ref g, .ref q1]) nt).trans (same_new (o := .lst [.ref t]) nhl))
      refine ⟨fl, hl, m, v4, v5, v6, v7, v8, v9, v10, rv, [.ref t], by omega, congrArg (fun z => [some (V.ref r), some (V.ref fl), some (V.int z), some (V.ref hl), v4, v5, v6, v7, v8, v9, v10]) em, nfl, s3 _ _ hfl, al.imp fun _ _ z => z.keep (TK.same s3), upd_same, .cons ⟨t, g, q1, rfl, ?_, ?_, ?_⟩ .nil, fhl, s2.trans s3, fun σ2 H3 rv2 e h a s => ⟨rv2, e, h, a, s⟩⟩
      · exact (same_new nhl _ _ upd_same).trans (by rw [em])
      · exact same_new nhl _ _ (same_new nt _ _ (same_new nq1 _ _ upd_same))
      · exact (same_new nhl _ _ (same_new nt _ _ upd_same)).trans (by rw [em]; rfl)
    · rintro σ H2 ⟨rv, ⟨v2, v3, v4, v5, v6, v7, v8, v9, v10, rfl⟩, hfl, al, s2⟩
      rw [lhv] at al
      have e := q fl rv H2 hfl al s2
      rw [← eD] at e
      exact ⟨_, rfl, e⟩
  exact ⟨(by show 0 ≤ sizeLine; decide), fun fl nfl => ⟨rfl, fl, nfl, rfl, rfl⟩⟩
end
theorem wayEnd_no {bs : List BR} {n k : Nat} {ns : List Nat} (e : bs[n]? = none) : wayEnd bs k (n :: ns) = none := by
  show (match bs[n]? with | some b => if b.one = k then wayEnd bs b.to ns else none | none => none) = none
  rw [e]
theorem way_join {bs : List BR} : ∀ {xs ys : List Nat} {k m e : Nat}, wayEnd bs k xs = some m → wayEnd bs m ys = some e → wayEnd bs k (xs ++ ys) = some e
  | [], _, k, _, _, w, v => by cases w; exact v
  | n :: xs, ys, k, m, e, w, v => by
    cases eb : bs[n]? with
    | none => rw [wayEnd_no eb] at w; cases w
    | some b =>
      rw [wayEnd_cons eb] at w
      rw [List.cons_append, wayEnd_cons eb]
      by_cases z : b.one = k
      · rw [if_pos z] at w ⊢; exact way_join w v
      · rw [if_neg z] at w; cases w
theorem told_ring {hs : List HR} {bs : List BR} {x : Nat × List Nat} (hx : x ∈ allR bs hs.length) : x.1 < hs.length ∧ wayEnd bs x.1 x.2 = some x.1 ∧ x.2 ≠ [] ∧ (∀ n ∈ x.2, n < bs.length) ∧ x.2.length ≤ hs.length := by
  obtain ⟨m, hm, hx⟩ := List.mem_flatMap.mp hx
  obtain ⟨j, hj, hx⟩ := List.mem_flatMap.mp hx
  obtain ⟨y, hy, hx⟩ := List.mem_flatMap.mp hx
  obtain ⟨b, hb, e⟩ := List.mem_filterMap.mp hx
  have ok := Xs_ok j y hy
  unfold cloB at e
  cases eb : bs[b]? with
  | none => rw [eb] at e; cases e
  | some z =>
    rw [eb] at e
    dsimp only at e
    by_cases k : z.one = y.h ∧ z.to = m
    · rw [if_pos k] at e
      cases e
      refine ⟨List.mem_range.mp hm, way_join ok.way ?_, (fun q => by simp at q), fun n hn => ?_, ?_⟩
      · rw [wayEnd_cons eb, if_pos k.1, k.2]; rfl
      · rcases List.mem_append.mp hn with hn | hn
        · exact ok.lt n hn
        · rw [List.mem_singleton.mp hn]; exact List.mem_range.mp hb
      · show (y.ns ++ [b]).length ≤ _
        rw [List.length_append, ok.len]
        have := List.mem_range.mp hj
        show j + 1 ≤ _
        omega
    · rw [if_neg k] at e; cases e
/-! ### walks looked at, whatever they are -/
abbrev Wk := Nat × List Nat
structure WkOk (hs : List HR) (bs : List BR) (x : Wk) : Prop where
  k : x.1 < hs.length
  lt : ∀ n ∈ x.2, n < bs.length
  ln : x.2.length ≤ 60
def endO (bs : List BR) (x : Wk) : Option Nat := wayEnd bs x.1 x.2
def enD (bs : List BR) (x : Wk) : Nat := (endO bs x).getD 0
def oI : Option Int → V
  | none => .non
  | some i => .int i
def stepT (hs : List HR) (late : Option Nat) (e o : Nat) : Option Int := if o = e then some 0 else match late with
  | none => none
  | some l => if e ∈ doorsOf "out" hs ∧ o ∈ doorsOf "in" hs then some ((l : Nat) : Int) else none
def sumO : List (Option Int) → Option Int
  | [] => some 0
  | o :: os => match o, sumO os with
    | some a, some b => some (a + b)
    | _, _ => none
theorem sumO_none {l : List (Option Int)} (h : none ∈ l) : sumO l = none := by
  induction l with
  | nil => cases h
  | cons o os ih =>
    rcases List.mem_cons.mp h with rfl | h
    · rfl
    · show (match o, sumO os with | some a, some b => some (a + b) | _, _ => none) = none
      rw [ih h]
      cases o <;> rfl
theorem sumO_some {l : List (Option Int)} (h : none ∉ l) : sumO l = some (l.map fun o => o.getD 0).sum := by
  induction l with
  | nil => rfl
  | cons o os ih =>
    have ih := ih fun z => h (List.mem_cons_of_mem _ z)
    cases o with
    | none => exact absurd (List.mem_cons_self ..) h
    | some a =>
      show (match some a, sumO os with | some a, some b => some (a + b) | _, _ => none) = _
      rw [ih]
      rfl
theorem sumO_snoc (l : List (Option Int)) (o : Option Int) : sumO (l ++ [o]) = match sumO l, o with
    | some a, some b => some (a + b)
    | _, _ => none := by
  by_cases hn : none ∈ l
  · rw [sumO_none hn, sumO_none (List.mem_append_left _ hn)]
  · rw [sumO_some hn]
    cases o with
    | none => rw [sumO_none (List.mem_append_right _ (List.mem_singleton.mpr rfl))]
    | some b =>
      have h2 : none ∉ l ++ [some b] := fun z => (List.mem_append.mp z).elim hn fun z => by cases List.mem_singleton.mp z
      rw [sumO_some h2, List.map_append, List.sum_append]
      show some (_ + (b + 0)) = some (_ + b)
      rw [Int.add_zero]
def trW (bs : List BR) (ws : List Wk) : Int := (ws.map fun x => (x.2.map (trB bs)).sum).sum
abbrev later (ws : List Wk) : List Wk := ws.drop 1 ++ ws.take 1
theorem later_len {ws : List Wk} : (later ws).length = ws.length := by
  rw [List.length_append, List.length_drop, List.length_take]
  omega
def pS (hs : List HR) (bs : List BR) (late : Option Nat) (ps : List (Wk × Wk)) : List (Option Int) := ps.map fun p => stepT hs late (enD bs p.1) p.2.1
def allE (bs : List BR) (ws : List Wk) : Prop := ∀ x ∈ ws, (endO bs x).isSome = true
instance {bs : List BR} {ws : List Wk} : Decidable (allE bs ws) := List.decidableBAll _ _
def addT (t : Int) : Option Int → Option Int
  | some s => some (s + t)
  | none => none
def openT (hs : List HR) (bs : List BR) (late : Option Nat) (ws : List Wk) : Option Int := if ws = [] ∨ ¬ allE bs ws then none else addT (trW bs ws) (sumO (pS hs bs late (ws.zip (ws.drop 1))))
def closT (hs : List HR) (bs : List BR) (late : Option Nat) (ws : List Wk) : Option Int := if ws = [] ∨ ¬ allE bs ws then none else addT (trW bs ws) (sumO (pS hs bs late (ws.zip (later ws))))
theorem zip_later {y : Wk} : ∀ (ws : List Wk) (x z : Wk), (x :: ws).zip (ws ++ [z]) = (x :: ws).zip ws ++ [((x :: ws).getLast (List.cons_ne_nil _ _), z)]
  | [], x, z => rfl
  | u :: ws, x, z => by
    show (x, u) :: (u :: ws).zip (ws ++ [z]) = (x, u) :: (u :: ws).zip ws ++ _
    rw [zip_later (y := y) ws u z]
    rfl
theorem closT_open {hs : List HR} {bs : List BR} {late : Option Nat} {ws : List Wk} {x y : Wk} (h0 : ws[0]? = some y) (h1 : ws[ws.length - 1]? = some x) : closT hs bs late ws = match openT hs bs late ws, stepT hs late (enD bs x) y.1 with
    | some a, some b => some (a + b)
    | _, _ => none := by
  cases ws with
  | nil => cases h0
  | cons u ws =>
    obtain rfl : u = y := Option.some.inj h0
    have el : (u :: ws).getLast (List.cons_ne_nil _ _) = x := by
      rw [List.getLast_eq_getElem]
      have h1 := (List.getElem?_eq_some_iff.mp h1)
      obtain ⟨_, h1⟩ := h1
      exact h1
    unfold closT openT
    by_cases c : u :: ws = [] ∨ ¬ allE bs (u :: ws)
    · rw [if_pos c, if_pos c]
    · rw [if_neg c, if_neg c]
      have e : (u :: ws).zip (later (u :: ws)) = (u :: ws).zip ((u :: ws).drop 1) ++ [(x, u)] := by
        show (u :: ws).zip (ws ++ [u]) = (u :: ws).zip ws ++ [(x, u)]
        rw [zip_later (y := u) ws u u, el]
      rw [e]
      unfold pS
      rw [List.map_append]
      show addT _ (sumO (_ ++ [stepT hs late (enD bs x) u.1])) = _
      rw [sumO_snoc]
      generalize sumO ((List.map (fun p => stepT hs late (enD bs p.1) p.2.1) ((u :: ws).zip ((u :: ws).drop 1)))) = s
      cases s with
      | none => rfl
      | some s =>
        cases stepT hs late (enD bs x) u.1 with
        | none => rfl
        | some b =>
          show some (s + b + _) = some (s + _ + b)
          congr 1
          omega
theorem inV_non {α : Type} {f : α → V} {l : List α} : inV .non (l.map f) = l.any fun x => eqV (f x) .non := by
  unfold inV
  rw [List.any_map]
  rfl
theorem wayEnd_lt57 {hs : List HR} {bs : List BR} (hto : ∀ b ∈ bs, b.to < hs.length) : ∀ {ns : List Nat} {k e : Nat}, k < hs.length → wayEnd bs k ns = some e → e < hs.length
  | [], k, e, hk, w => by cases w; exact hk
  | n :: ns, k, e, hk, w => by
    cases eb : bs[n]? with
    | none => rw [wayEnd_no eb] at w; cases w
    | some b =>
      rw [wayEnd_cons eb] at w
      by_cases z : b.one = k
      · rw [if_pos z] at w; exact wayEnd_lt57 hto (hto b (List.mem_of_getElem? eb)) w
      · rw [if_neg z] at w; cases w
section
variable {P : Program} {w : World} {K : PySem.W.Frag} {mg : Str → Option Value} {base : Heap}
def sp_step_trays (K : PySem.W.Frag) : Sp := fun vs H Q _ => ∃ (r : Addr) (hs : List HR) (bs : List BR) (late : Option Nat) (e o : Nat), vs = [.ref r, lateV late, nV e, nV o] ∧ RoomAt H r hs bs ∧ (∀ h ∈ hs, GoodHand h) ∧ e < hs.length ∧ o < hs.length ∧ Q (oI (stepT hs late e o)) H
theorem ok_step_trays {f : Addr} {fd : FuncData} (F : Fun K "step_trays" "step_trays" s_step_trays f fd) (T : Top K mg) : FnOk P w K mg base CX0 1 f fd ["room", "late", "end", "begin"] (sp_step_trays K) := by
  refine F.ok sc_step_trays (fun vs H Q E h => ?_) (fun cdv A outer s H vs Q E hr h => ?_)
  · obtain ⟨r, hs, bs, late, e, o, rfl, _⟩ := h
    rfl
  obtain ⟨aI, mI, hI⟩ := T.x_in
  obtain ⟨aO, mO, hO⟩ := T.x_out
  obtain ⟨r, hs, bs, late, e, o, rfl, hR, good, el, ol, q⟩ := h
  obtain ⟨ha, ba, hv, bv, er, eh, eb, alh, alb⟩ := id hR.ex
  refine ⟨_, (pss_cons (ps_if (pt_cmpR op_eq (pv 3) (pv 2) (nomark _)) (pss_one (ps_ret pe_int)) pss_nil)
      (pss_cons (ps_if (PW.pt (pw_and (pt_cmpR op_notN (pv 1) pe_non (nomark _)) (pw_and (pt_cmpR (op_eqDK K rfl hr.units) (pe_ix (ix_tupK K rfl) (pe_ix (ix_tupK K rfl) (pe_ix (ix_tupK K rfl) (pv 0) pe_int (fun _ _ => rfl)) (pv 2) (fun _ _ => rfl)) pe_int (fun _ _ => rfl)) (pe_glob (v := .ref aO) (by rfl) mO rfl) (nomark _)) (pw_and1 (pt_cmpR (op_eqDK K rfl hr.units) (pe_ix (ix_tupK K rfl) (pe_ix (ix_tupK K rfl) (pe_ix (ix_tupK K rfl) (pv 0) pe_int (fun _ _ => rfl)) (pv 3) (fun _ _ => rfl)) pe_int (fun _ _ => rfl)) (pe_glob (v := .ref aI) (by rfl) mI rfl) (nomark _)))))) (pss_one (ps_ret (pv 1))) pss_nil)
      (pss_one (ps_ret pe_non)))), ?_⟩
  unfold stepT at q
  refine ⟨_, rfl, _, rfl, rfl, _, rfl, if_bl (fun z => ?_) (fun z => ?_)⟩
  · have z : o = e := by
      have := V.int.inj (of_decide_eq_true z : V.int ((o : Nat) : Int) = V.int ((e : Nat) : Int))
      omega
    rw [if_pos z] at q
    exact q
  have ne : ¬ o = e := fun y => by
    have z : decide (V.int ((o : Nat) : Int) = V.int ((e : Nat) : Int)) = false := z
    rw [y, decide_eq_true rfl] at z
    cases z
  rw [if_neg ne] at q
  cases late with
  | none => exact ⟨_, rfl, rfl, _, rfl, if_bl (fun z => nomatch z) (fun _ => if_bl (fun z => nomatch z) (fun _ => q))⟩
  | some l =>
  have q : Q (oI (if e ∈ doorsOf "out" hs ∧ o ∈ doorsOf "in" hs then some ((l : Nat) : Int) else none)) H := q
  have ee : hs[e]? = some hs[e] := List.getElem?_eq_getElem el
  have eo : hs[o]? = some hs[o] := List.getElem?_eq_getElem ol
  obtain ⟨x1, ex1, ⟨t1, r1, rfl, e11, e12⟩⟩ := alh.get ee
  obtain ⟨x2, ex2, ⟨t2, r2, rfl, e21, e22⟩⟩ := alh.get eo
  have g1 := good _ (List.getElem_mem el)
  have g2 := good _ (List.getElem_mem ol)
  have m1 : e ∈ doorsOf "out" hs ↔ hs[e].wd = "out" := by
    rw [mem_doors]
    exact ⟨fun ⟨h, e', w⟩ => by rw [ee] at e'; cases e'; exact w, fun h => ⟨_, ee, h⟩⟩
  have m2 : o ∈ doorsOf "in" hs ↔ hs[o].wd = "in" := by
    rw [mem_doors]
    exact ⟨fun ⟨h, e', w⟩ => by rw [eo] at e'; cases e'; exact w, fun h => ⟨_, eo, h⟩⟩
  refine ⟨_, rfl, rfl, _, rfl, if_bl (fun _ => ?_) (fun z => nomatch z)⟩
  refine ⟨_, rfl, r, _, _, _, rfl, rfl, SqT.of er, atI_nat (j := 0) rfl, _, rfl, ha, _, _, _, rfl, rfl, SqT.of eh, atI_nat ex1, t1, _, _, _, rfl, rfl, SqT.of e11, atI_nat (j := 0) rfl, ?_⟩
  refine ⟨_, _, rule_dp e12, .tup (hO _) (.cons (.str _) .nil), rule_shaped g1.lay, one_shaped (by decide +kernel), _, rfl, ?_⟩
  rw [rule_eqv, g1.door "out" (.inr rfl)]
  by_cases c1 : hs[e].wd = "out"
  · rw [decide_eq_true c1]
    refine if_bl (fun _ => ?_) (fun z => nomatch z)
    refine ⟨_, rfl, r, _, _, _, rfl, rfl, SqT.of er, atI_nat (j := 0) rfl, _, rfl, ha, _, _, _, rfl, rfl, SqT.of eh, atI_nat ex2, t2, _, _, _, rfl, rfl, SqT.of e21, atI_nat (j := 0) rfl, ?_⟩
    refine ⟨_, _, rule_dp e22, .tup (hI _) (.cons (.str _) .nil), rule_shaped g2.lay, one_shaped (by decide +kernel), _, rfl, ?_⟩
    rw [rule_eqv, g2.door "in" (.inl rfl)]
    by_cases c2 : hs[o].wd = "in"
    · rw [decide_eq_true c2]
      rw [if_pos ⟨m1.mpr c1, m2.mpr c2⟩] at q
      exact if_bl (fun _ => ⟨_, rfl, q⟩) (fun z => nomatch z)
    · rw [decide_eq_false c2]
      rw [if_neg fun z => c2 (m2.mp z.2)] at q
      exact if_bl (fun z => nomatch z) (fun _ => q)
  · rw [decide_eq_false c1]
    rw [if_neg fun z => c1 (m1.mp z.1)] at q
    exact if_bl (fun z => nomatch z) (fun _ => if_bl (fun z => nomatch z) (fun _ => q))
def sp_walk_trays (K : PySem.W.Frag) : Sp := fun vs H Q _ => ∃ (r wp : Addr) (hs : List HR) (bs : List BR) (late : Option Nat) (qv : List V) (ws : List Wk), vs = [.ref r, lateV late, .ref wp] ∧ RoomAt H r hs bs ∧ (∀ h ∈ hs, GoodHand h) ∧ (∀ b ∈ bs, b.to < hs.length) ∧ H wp = some (.tup qv) ∧ All2 (RgAt H) qv ws ∧ ws.length ≤ 60 ∧ (∀ x ∈ ws, WkOk hs bs x) ∧ ∀ H', Same H H' → Q (oI (openT hs bs late ws)) H'
theorem ok_walk_trays {f : Addr} {fd : FuncData} (F : Fun K "walk_trays" "walk_trays" s_walk_trays f fd) (T : Top K mg) : FnOk P w K mg base CX0 2 f fd ["room", "late", "walk"] (sp_walk_trays K) := by
  obtain ⟨f_way_end, fd_way_end, F_way_end, b_way_end, m_way_end⟩ := T.d_way_end
  have G_way_end := ok_way_end (P := P) (w := w) (base := base) F_way_end T
  obtain ⟨f_step_trays, fd_step_trays, F_step_trays, b_step_trays, m_step_trays⟩ := T.d_step_trays
  have G_step_trays := ok_step_trays (P := P) (w := w) (base := base) F_step_trays T
  obtain ⟨f_trays_on, fd_trays_on, F_trays_on, b_trays_on, m_trays_on⟩ := T.d_trays_on
  have G_trays_on := ok_trays_on (P := P) (w := w) (base := base) F_trays_on T
  refine F.ok sc_walk_trays (fun vs H Q E h => ?_) (fun cdv A outer s H vs Q E hr h => ?_)
  · obtain ⟨r, wp, hs, bs, late, qv, ws, rfl, _⟩ := h
    rfl
  obtain ⟨r, wp, hs, bs, late, qv, ws, rfl, hR, good, hto, hw, alp, lws, wok, q⟩ := h
  have lqv := alp.length
  let R1 : TS := fun D' σ' H' => D'.rt = Q ∧ ∃ (el : Addr), σ' = [some (.ref r), some (lateV late), some (.ref wp), some (.ref el), none, none, none] ∧ H' el = some (.lst (ws.map fun x => onV (endO bs x))) ∧ Same H H'
  let R2 : TS := fun D' σ' H' => D'.rt = Q ∧ ∃ (el sl : Addr), σ' = [some (.ref r), some (lateV late), some (.ref wp), some (.ref el), none, some (.ref sl), none] ∧ ws ≠ [] ∧ allE bs ws ∧ H' sl = some (.lst ((pS hs bs late (ws.zip (ws.drop 1))).map oI)) ∧ Same H H'
  refine ⟨_, (pss_cons (ps_setLc (i := 3) (own := [("way", 4)]) (g := gName 4) (tt := tYes) (by rfl) sc_walk_trays.nd rfl rfl (sw_true rfl rfl rfl (by decide +kernel)) (pi_tupK K rfl (pv 2)) (blkOk_by (own := [("way", 4)]) (N := N_walk_trays) (sc := defScope s_walk_trays) (by decide +kernel)) (fun _ _ _ _ _ => (pg_name (i := 4) sc_walk_trays.nd rfl (Or.inl rfl))) (fun _ _ _ _ _ => pts_nil) (fun _ _ _ _ _ => (pe_call G_way_end (hr.mono (by decide)) (by rfl) m_way_end F_way_end.kp b_way_end .nil pass0 (pa_cons (pv 0) (pa_cons (pv 4) pa_nil)))))
      (PSs.to (pss_cons (ps_if (PW.pt (pw_or (pt_not (pt_truthK K rfl (pv 3) (by intro _; rfl))) (pw_or1 (pt_cmpR (op_in_seqK K rfl) pe_non (pv 3) (by with_unfolding_all rfl))))) (pss_one (ps_ret pe_non)) pss_nil)
      (pss_cons (ps_setLc (i := 5) (own := [("end", 6), ("way", 4)]) (g := gTup K 2 (gCons (gName 6) (gCons (gName 4) gNil))) (tt := tYes) (by rfl) sc_walk_trays.nd rfl rfl (sw_true rfl rfl rfl (by decide +kernel)) (pi_zipLT K rfl (by rfl) T.m_zip (pa_cons (pv 3) (pa_cons (pe_slice (sl_tupAK K rfl) (pv 2) (po_some pe_int) po_none) pa_nil))) (blkOk_by (own := [("end", 6), ("way", 4)]) (N := N_walk_trays) (sc := defScope s_walk_trays) (by decide +kernel)) (fun _ _ _ _ _ => (pg_tupK K rfl rfl (pgs_cons (pg_name (i := 6) sc_walk_trays.nd rfl (Or.inl rfl)) (pgs_cons (pg_name (i := 4) sc_walk_trays.nd rfl (Or.inl rfl)) pgs_nil)))) (fun _ _ _ _ _ => pts_nil) (fun _ _ _ _ _ => (pe_call G_step_trays (hr.mono (by decide)) (by rfl) m_step_trays F_step_trays.kp b_step_trays .nil pass0 (pa_cons (pv 0) (pa_cons (pv 1) (pa_cons (pv 6) (pa_cons (pe_ix (ix_tupK K rfl) (pv 4) pe_int (fun _ _ => rfl)) pa_nil)))))))
      (PSs.to (pss_cons (ps_if (pt_cmpR (op_in_seqK K rfl) pe_non (pv 5) (by with_unfolding_all rfl)) (pss_one (ps_ret pe_non)) pss_nil)
      (pss_one (ps_ret (pe_op op_add (pe_callB (cr_sumK K rfl rfl) (by rfl) T.m_sum (by decide +kernel) (pa_cons (pv 5) pa_nil)) (pe_callB (cr_sumK K rfl rfl) (by rfl) T.m_sum (by decide +kernel) (pa_cons (pe_lc (own := [("way", 4)]) (g := gName 4) (tt := tYes) (by rfl) sc_walk_trays.nd (pi_tupK K rfl (pv 2)) (blkOk_by (own := [("way", 4)]) (N := N_walk_trays) (sc := defScope s_walk_trays) (by decide +kernel)) (fun _ _ _ _ _ => (pg_name (i := 4) sc_walk_trays.nd rfl (Or.inl rfl))) (fun _ _ _ _ _ => pts_nil) (fun _ _ _ _ _ => (pe_call G_trays_on (hr.mono (by decide)) (by rfl) m_trays_on F_trays_on.kp b_trays_on .nil pass0 (pa_cons (pv 0) (pa_cons (pv 4) pa_nil))))) pa_nil)))))) R2 ?tail2))) R1 ?tail1)), ?_⟩
  case tail2 =>
    rintro D' σ' H1 ⟨eD, el, sl, rfl, wne, ae, hsl, s1⟩
    have flat : ((pS hs bs late (ws.zip (ws.drop 1))).map oI).all flatV = true := by
      rw [List.all_map]
      exact List.all_eq_true.mpr fun o _ => by cases o <;> rfl
    have q := fun H' s => q H' s
    unfold openT at q
    rw [if_neg (fun z => z.elim wne fun y => y ae)] at q
    have ez : (ws.zip (ws.drop 1)).length ≤ ws.length := by rw [List.length_zip]; exact Nat.min_le_left _ _
    refine ⟨_, rfl, sl, _, rfl, .inl (SqL.of hsl), rfl, flat, _, rfl, ?_⟩
    rw [inV_non]
    by_cases hn : none ∈ pS hs bs late (ws.zip (ws.drop 1))
    · rw [show ((pS hs bs late (ws.zip (ws.drop 1))).any fun x => eqV (oI x) .non) = true from List.any_eq_true.mpr ⟨none, hn, rfl⟩]
      refine if_bl (fun _ => ?_) (fun z => nomatch z)
      rw [sumO_none hn] at q
      rw [eD]
      exact q H1 s1
    · rw [show ((pS hs bs late (ws.zip (ws.drop 1))).any fun x => eqV (oI x) .non) = false from List.any_eq_false.mpr fun o ho => by
        cases o with
        | none => exact absurd ho hn
        | some i => exact Bool.false_ne_true]
      refine if_bl (fun z => nomatch z) (fun _ => ?_)
      rw [sumO_some hn] at q
      generalize epl : pS hs bs late (ws.zip (ws.drop 1)) = pl at hsl hn q
      have em : pl.map oI = (pl.map fun o => o.getD 0).map V.int := by
        rw [List.map_map]
        refine List.map_congr_left fun o ho => ?_
        cases o with
        | none => exact absurd ho hn
        | some i => rfl
      refine ⟨_, rfl, sl, pl.map fun o => o.getD 0, rfl, SqL.of (by rw [← em]; exact hsl), ?_⟩
      have hw1 := s1 _ _ hw
      refine ⟨_, rfl, wp, rfl, ⟨_, SqT.of hw1⟩, fun D nD => lc_tup (K := K) (a := wp) (xs := qv) (fun i H5 => H5 D = some (.lst (((ws.take i).map fun x => (x.2.map (trB bs)).sum).map V.int)) ∧ Same H1 H5) ⟨upd_same, same_new nD⟩ (fun i H5 _ ⟨_, s5⟩ => SqT.of (s5 _ _ hw1)) ?_ ?_⟩
      · rintro i x H5 hx ⟨hD, s5⟩
        obtain ⟨y, ey, ⟨p1, rfl, hp1⟩⟩ := alp.getL hx
        have wo := wok _ (List.mem_of_getElem? ey)
        have il := (List.getElem?_eq_some_iff.mp ey).1
        have s15 := s1.trans s5
        refine ⟨rfl, yes_in ⟨_, rfl, _, rfl, r, p1, hs, bs, y.1, y.2, rfl, hR.keep (TK.same s15), hp1.keep (TK.same s15), wo.lt, by have := wo.ln; omega, fun H6 s6 => ⟨_, s6 _ _ hD, by rw [List.length_map, List.length_map, List.length_take]; exact small1000 (by omega), ?_, Same.own (s5.trans s6) nD⟩⟩⟩
        rw [upd_same, List.take_add_one, ey, List.map_append, List.map_append]
        rfl
      · rintro H5 ⟨hD, s5⟩
        rw [lqv, List.take_length] at hD
        refine ⟨D, _, rfl, SqL.of hD, _, _, rfl, rfl, ?_⟩
        rw [eD]
        exact q H5 (s1.trans s5)
  case tail1 =>
    rintro D' σ' H1 ⟨eD, el, rfl, hel, s1⟩
    have flat : (ws.map fun x => onV (endO bs x)).all flatV = true := by
      rw [List.all_map]
      exact List.all_eq_true.mpr fun x _ => by
        show flatV (onV (endO bs x)) = true
        cases endO bs x <;> rfl
    have stop : ws = [] ∨ ¬ allE bs ws → D'.rt .non H1 := fun h => by
      rw [eD]
      have := q H1 s1
      unfold openT at this
      rw [if_pos h] at this
      exact this
    refine ⟨_, rfl, _, .inl ⟨_, SqL.of hel, rfl⟩, if_bl (fun z => ?_) (fun z => ?_)⟩
    · refine if_bl (fun _ => stop (.inl ?_)) (fun z => nomatch z)
      cases ws with
      | nil => rfl
      | cons y ws => simp at z
    have wne : ws ≠ [] := fun e => by
      subst e
      simp at z
    refine ⟨_, rfl, el, _, rfl, .inl (SqL.of hel), rfl, flat, _, rfl, ?_⟩
    rw [inV_non]
    by_cases ae : allE bs ws
    · rw [show (ws.any fun x => eqV (onV (endO bs x)) .non) = false from List.any_eq_false.mpr fun x hx => by
        have := ae x hx
        cases e : endO bs x with
        | none => rw [e] at this; cases this
        | some k => exact Bool.false_ne_true]
      refine if_bl (fun z => nomatch z) (fun _ => ?_)
      refine ⟨_, rfl, _, rfl, ?_⟩
      dsimp only [tNoPart]
      have hw1 := s1 _ _ hw
      refine ⟨_, rfl, slA_of hw1 fun p1 H2 h1 s2 => ?_⟩
      have h1 : H2 p1 = some (.tup (cutV qv (some ((1 : Nat) : Int)) none)) := h1
      rw [cut_drop] at h1
      have s12 := s1.trans s2
      have hel2 := s2 _ _ hel
      have al2 := alp.imp fun _ _ z => z.keep (TK.same s12)
      have pos := List.length_pos_iff.mpr wne
      refine ⟨el, p1, _, _, rfl, SqL.of hel2, SqT.of h1, fun D nD => lc_it (J := IzLT K el p1 (ws.map fun x => onV (endO bs x)) (qv.drop 1)) (n := ws.length - 1) (fun i H5 => H5 D = some (.lst ((pS hs bs late ((ws.zip (ws.drop 1)).take i)).map oI)) ∧ Same H2 H5) ⟨upd_same, same_new nD⟩ ?_ ?_ ?_ ?_⟩
      · rintro i H5 hi ⟨hD, s5⟩
        exact ⟨SqL.of (s5 _ _ hel2), SqT.of (s5 _ _ h1), by rw [List.length_map]; omega, by rw [List.length_drop]; omega⟩
      · rintro H5 ⟨hD, s5⟩
        exact ⟨SqL.of (s5 _ _ hel2), SqT.of (s5 _ _ h1), by rw [List.length_map]; omega, by rw [List.length_drop]; omega, .inr (by rw [List.length_drop]; omega)⟩
      · rintro i x H5 H6 hi ⟨hD, s5⟩ ⟨T', x1, y1, rfl, nT, rfl, hx1, hy1⟩
        have ey : ws[i]? = some (ws[i]'(by omega)) := List.getElem?_eq_getElem (by omega)
        rw [List.getElem?_map, ey] at hx1
        obtain rfl : onV (endO bs (ws[i]'(by omega))) = x1 := Option.some.inj hx1
        generalize (ws[i]'(by omega)) = y at ey nT hD
        have ym := List.mem_of_getElem? ey
        have aey := ae y ym
        obtain ⟨e, ee⟩ : ∃ e, endO bs y = some e := Option.isSome_iff_exists.mp aey
        have elt : e < hs.length := wayEnd_lt57 hto (wok y ym).k ee
        rw [List.getElem?_drop] at hy1
        obtain ⟨u, eu, ⟨p2, rfl, ⟨g2, e21, e22⟩⟩⟩ := al2.getL hy1
        have ult := (wok u (List.mem_of_getElem? eu)).k
        have ezi : (ws.zip (ws.drop 1))[i]? = some (y, u) := by
          rw [List.getElem?_zip_eq_some]
          exact ⟨ey, by rw [List.getElem?_drop]; exact eu⟩
        rw [ee]
        have t := same_new (o := .tup [onV (some e), V.ref p2]) nT
        have s6 := s5.trans t
        have hD6 := t _ _ hD
        refine ⟨T', _, rfl, SqT.of upd_same, rfl, _, _, rfl, _, _, rfl, rfl, rfl, ?_⟩
        refine yes_in ⟨_, rfl, _, rfl, _, rfl, _, rfl, p2, _, _, _, rfl, rfl, SqT.of (s6 _ _ e21), atI_nat (j := 0) rfl, r, hs, bs, late, e, u.1, rfl, hR.keep (TK.same (s12.trans s6)), good, elt, ult, ?_⟩
        refine ⟨_, hD6, ?_, ?_, Same.own s6 nD⟩
        · unfold pS
          rw [List.length_map, List.length_map, List.length_take]
          exact small1000 (by omega)
        · unfold pS
          rw [upd_same, List.take_add_one, ezi, List.map_append, List.map_append]
          have : enD bs y = e := by unfold enD; rw [ee]; rfl
          show _ = some (HO.lst (_ ++ [oI (stepT hs late (enD bs y) u.1)]))
          rw [this]
      · rintro H5 ⟨hD, s5⟩
        rw [show ws.length - 1 = (ws.zip (ws.drop 1)).length by rw [List.length_zip, List.length_drop]; omega, List.take_length] at hD
        exact ⟨eD, el, D, rfl, wne, ae, hD, s12.trans s5⟩
    · rw [show (ws.any fun x => eqV (onV (endO bs x)) .non) = true by
        refine Classical.byContradiction fun n => ae fun x hx => ?_
        have n := List.any_eq_false.mp (Bool.eq_false_iff.mpr n) x hx
        cases e : endO bs x with
        | none => rw [e] at n; exact absurd rfl n
        | some k => rfl]
      exact if_bl (fun _ => stop (.inr ae)) (fun z => nomatch z)
  refine ⟨_, rfl, wp, rfl, ⟨_, SqT.of hw⟩, fun D nD => lc_tup (K := K) (a := wp) (xs := qv) (fun i H5 => H5 D = some (.lst ((ws.take i).map fun x => onV (endO bs x))) ∧ Same H H5) ⟨upd_same, same_new nD⟩ (fun i H5 _ ⟨_, s5⟩ => SqT.of (s5 _ _ hw)) ?_ ?_⟩
  · rintro i x H5 hx ⟨hD, s5⟩
    obtain ⟨y, ey, ⟨p1, rfl, hp1⟩⟩ := alp.getL hx
    have wo := wok _ (List.mem_of_getElem? ey)
    have il := (List.getElem?_eq_some_iff.mp ey).1
    refine ⟨rfl, yes_in ⟨_, rfl, _, rfl, r, p1, hs, bs, y.1, y.2, rfl, hR.keep (TK.same s5), hp1.keep (TK.same s5), wo.k, wo.lt, fun H6 s6 => ?_⟩⟩
    refine ⟨_, s6 _ _ hD, by rw [List.length_map, List.length_take]; exact small1000 (by omega), ?_, Same.own (s5.trans s6) nD⟩
    rw [upd_same, List.take_add_one, ey, List.map_append]
    rfl
  · rintro H2 ⟨hD, s2⟩
    rw [lqv, List.take_length] at hD
    exact ⟨rfl, D, rfl, hD, s2⟩
def sp_closed_trays (K : PySem.W.Frag) : Sp := fun vs H Q _ => ∃ (r wp : Addr) (hs : List HR) (bs : List BR) (late : Option Nat) (qv : List V) (ws : List Wk), vs = [.ref r, lateV late, .ref wp] ∧ RoomAt H r hs bs ∧ (∀ h ∈ hs, GoodHand h) ∧ (∀ b ∈ bs, b.to < hs.length) ∧ H wp = some (.tup qv) ∧ All2 (RgAt H) qv ws ∧ ws.length ≤ 60 ∧ (∀ x ∈ ws, WkOk hs bs x) ∧ ∀ H', Same H H' → Q (oI (closT hs bs late ws)) H'
theorem ok_closed_trays {f : Addr} {fd : FuncData} (F : Fun K "closed_trays" "closed_trays" s_closed_trays f fd) (T : Top K mg) : FnOk P w K mg base CX0 3 f fd ["room", "late", "walk"] (sp_closed_trays K) := by
  obtain ⟨f_walk_trays, fd_walk_trays, F_walk_trays, b_walk_trays, m_walk_trays⟩ := T.d_walk_trays
  have G_walk_trays := ok_walk_trays (P := P) (w := w) (base := base) F_walk_trays T
  obtain ⟨f_step_trays, fd_step_trays, F_step_trays, b_step_trays, m_step_trays⟩ := T.d_step_trays
  have G_step_trays := ok_step_trays (P := P) (w := w) (base := base) F_step_trays T
  obtain ⟨f_way_end, fd_way_end, F_way_end, b_way_end, m_way_end⟩ := T.d_way_end
  have G_way_end := ok_way_end (P := P) (w := w) (base := base) F_way_end T
  refine F.ok sc_closed_trays (fun vs H Q E h => ?_) (fun cdv A outer s H vs Q E hr h => ?_)
  · obtain ⟨r, wp, hs, bs, late, qv, ws, rfl, _⟩ := h
    rfl
  obtain ⟨r, wp, hs, bs, late, qv, ws, rfl, hR, good, hto, hw, alp, lws, wok, q⟩ := h
  have lqv := alp.length
  refine ⟨_, (pss_cons (ps_set (i := 3) sc_closed_trays.nd rfl (Or.inl rfl) (pe_call G_walk_trays (hr.mono (by decide)) (by rfl) m_walk_trays F_walk_trays.kp b_walk_trays .nil pass0 (pa_cons (pv 0) (pa_cons (pv 1) (pa_cons (pv 2) pa_nil)))))
      (pss_cons (ps_if (pt_cmpR op_isN (pv 3) pe_non (nomark _)) (pss_one (ps_ret pe_non)) pss_nil)
      (pss_cons (ps_set (i := 4) sc_closed_trays.nd rfl (Or.inl rfl) (pe_call G_step_trays (hr.mono (by decide)) (by rfl) m_step_trays F_step_trays.kp b_step_trays .nil pass0 (pa_cons (pv 0) (pa_cons (pv 1) (pa_cons (pe_call G_way_end (hr.mono (by decide)) (by rfl) m_way_end F_way_end.kp b_way_end .nil pass0 (pa_cons (pv 0) (pa_cons (pe_ix (ix_tupK K rfl) (pv 2) (pe_un un_neg pe_int) (fun _ _ => rfl)) pa_nil))) (pa_cons (pe_ix (ix_tupK K rfl) (pe_ix (ix_tupK K rfl) (pv 2) pe_int (fun _ _ => rfl)) pe_int (fun _ _ => rfl)) pa_nil))))))
      (pss_one (ps_ret (pe_ifExp (pt_cmpR op_isN (pv 4) pe_non (nomark _)) pe_non (pe_op op_add (pv 3) (pv 4)))))))), ?_⟩
  refine ⟨_, rfl, _, rfl, _, rfl, r, wp, hs, bs, late, qv, ws, rfl, hR, good, hto, hw, alp, lws, wok, fun H1 s1 => ?_⟩
  by_cases wne : ws = []
  · have e : openT hs bs late ws = none := by unfold openT; rw [if_pos (.inl wne)]
    have e2 : closT hs bs late ws = none := by unfold closT; rw [if_pos (.inl wne)]
    rw [e2] at q
    rw [e]
    exact ⟨_, rfl, rfl, _, rfl, if_bl (fun _ => q H1 s1) (fun z => absurd rfl (of_decide_eq_false z))⟩
  have pos := List.length_pos_iff.mpr wne
  have e0 : ws[0]? = some (ws[0]'pos) := List.getElem?_eq_getElem pos
  have el : ws[ws.length - 1]? = some (ws[ws.length - 1]'(by omega)) := List.getElem?_eq_getElem (by omega)
  generalize (ws[0]'pos) = y0 at e0
  generalize (ws[ws.length - 1]'(by omega)) = yl at el
  rw [closT_open e0 el] at q
  cases eo : openT hs bs late ws with
  | none =>
    rw [eo] at q
    exact ⟨_, rfl, rfl, _, rfl, if_bl (fun _ => q H1 s1) (fun z => absurd rfl (of_decide_eq_false z))⟩
  | some tr =>
  rw [eo] at q
  have ae : allE bs ws := by
    refine Classical.byContradiction fun n => ?_
    unfold openT at eo
    rw [if_pos (.inr n)] at eo
    cases eo
  refine ⟨_, rfl, rfl, _, rfl, if_bl (fun z => absurd (of_decide_eq_true z) (fun y => nomatch y)) (fun _ => ?_)⟩
  have hw1 := s1 _ _ hw
  have al1 := alp.imp fun _ _ z => z.keep (TK.same s1)
  obtain ⟨x0, ex0, ⟨p0, rfl, ⟨g0, h0, h0'⟩⟩⟩ := al1.get e0
  obtain ⟨xl, exl, ⟨pl, rfl, hpl⟩⟩ := al1.get el
  have wl := wok _ (List.mem_of_getElem? el)
  have w0 := wok _ (List.mem_of_getElem? e0)
  obtain ⟨e, ee⟩ : ∃ e, endO bs yl = some e := Option.isSome_iff_exists.mp (ae _ (List.mem_of_getElem? el))
  have elt : e < hs.length := wayEnd_lt57 hto wl.k ee
  have end_ : enD bs yl = e := by unfold enD; rw [ee]; rfl
  rw [end_] at q
  have ixl : atI qv (-1) = some (V.ref pl) := by
    have e : qv = qv.take (ws.length - 1) ++ [V.ref pl] := by
      have h := List.take_append_drop (ws.length - 1) qv
      rw [show qv.drop (ws.length - 1) = [V.ref pl] by
        obtain ⟨il, ev⟩ := List.getElem?_eq_some_iff.mp exl
        rw [List.drop_eq_getElem_cons il, ev, List.drop_eq_nil_of_le (by omega)]] at h
      exact h.symm
    rw [e]
    exact atI_last _ _
  refine ⟨_, rfl, _, rfl, _, rfl, _, rfl, 1, rfl, wp, _, _, _, rfl, rfl, SqT.of hw1, ixl, r, pl, hs, bs, yl.1, yl.2, rfl, hR.keep (TK.same s1), hpl, wl.k, wl.lt, fun H2 s2 => ?_⟩
  have ee' : wayEnd bs yl.1 yl.2 = some e := ee
  rw [ee']
  have s12 := s1.trans s2
  refine ⟨_, rfl, wp, _, _, _, rfl, rfl, SqT.of (s12 _ _ hw), atI_nat (j := 0) ex0, p0, _, _, _, rfl, rfl, SqT.of (s2 _ _ h0), atI_nat (j := 0) rfl, r, hs, bs, late, e, y0.1, rfl, hR.keep (TK.same s12), good, elt, w0.k, ?_⟩
  cases est : stepT hs late e y0.1 with
  | none =>
    rw [est] at q
    exact ⟨_, rfl, rfl, _, rfl, if_bl (fun _ => q H2 s12) (fun z => absurd rfl (of_decide_eq_false z))⟩
  | some c =>
    rw [est] at q
    exact ⟨_, rfl, rfl, _, rfl, if_bl (fun z => absurd (of_decide_eq_true z) (fun y => nomatch y)) (fun _ => ⟨_, rfl, _, rfl, _, _, rfl, rfl, q H2 s12⟩)⟩
def nbW (ws : List Wk) : Int := (ws.map fun x => ((x.2.length : Nat) : Int)).sum
def holdsR (hs : List HR) (bs : List BR) (late : Option Nat) (ws : List Wk) : Bool := match closT hs bs late ws with
  | none => false
  | some t => decide (nbW ws > t)
def sp_ring_holds (K : PySem.W.Frag) : Sp := fun vs H Q _ => ∃ (r wp : Addr) (hs : List HR) (bs : List BR) (late : Option Nat) (qv : List V) (ws : List Wk), vs = [.ref r, lateV late, .ref wp] ∧ RoomAt H r hs bs ∧ (∀ h ∈ hs, GoodHand h) ∧ (∀ b ∈ bs, b.to < hs.length) ∧ H wp = some (.tup qv) ∧ All2 (RgAt H) qv ws ∧ ws.length ≤ 60 ∧ (∀ x ∈ ws, WkOk hs bs x) ∧ ∀ H', Same H H' → Q (.bl (holdsR hs bs late ws)) H'
theorem ok_ring_holds {f : Addr} {fd : FuncData} (F : Fun K "ring_holds" "ring_holds" s_ring_holds f fd) (T : Top K mg) : FnOk P w K mg base CX0 4 f fd ["room", "late", "ring"] (sp_ring_holds K) := by
  obtain ⟨f_closed_trays, fd_closed_trays, F_closed_trays, b_closed_trays, m_closed_trays⟩ := T.d_closed_trays
  have G_closed_trays := ok_closed_trays (P := P) (w := w) (base := base) F_closed_trays T
  refine F.ok sc_ring_holds (fun vs H Q E h => ?_) (fun cdv A outer s H vs Q E hr h => ?_)
  · obtain ⟨r, wp, hs, bs, late, qv, ws, rfl, _⟩ := h
    rfl
  obtain ⟨r, wp, hs, bs, late, qv, ws, rfl, hR, good, hto, hw, alp, lws, wok, q⟩ := h
  have lqv := alp.length
  refine ⟨_, (pss_cons (ps_set (i := 3) sc_ring_holds.nd rfl (Or.inl rfl) (pe_call G_closed_trays (hr.mono (by decide)) (by rfl) m_closed_trays F_closed_trays.kp b_closed_trays .nil pass0 (pa_cons (pv 0) (pa_cons (pv 1) (pa_cons (pv 2) pa_nil)))))
      (pss_one (ps_ret (pe_and (pe_cmpR op_notN (pv 3) pe_non (nomark _)) (pe_one (pe_cmpR op_gt (pe_callB (cr_sumK K rfl rfl) (by rfl) T.m_sum (by decide +kernel) (pa_cons (pe_lc (own := [("begin", 4), ("numbers", 5)]) (g := gTup K 2 (gCons (gName 4) (gCons (gName 5) gNil))) (tt := tYes) (by rfl) sc_ring_holds.nd (pi_tupK K rfl (pv 2)) (blkOk_by (own := [("begin", 4), ("numbers", 5)]) (N := N_ring_holds) (sc := defScope s_ring_holds) (by decide +kernel)) (fun _ _ _ _ _ => (pg_tupK K rfl rfl (pgs_cons (pg_name (i := 4) sc_ring_holds.nd rfl (Or.inl rfl)) (pgs_cons (pg_name (i := 5) sc_ring_holds.nd rfl (Or.inl rfl)) pgs_nil)))) (fun _ _ _ _ _ => pts_nil) (fun _ _ _ _ _ => (pe_callB (call_len_seqK K rfl) (by rfl) T.m_len (by decide +kernel) (pa_cons (pv 5) pa_nil)))) pa_nil)) (pv 3) (nomark _))))))), ?_⟩
  unfold holdsR at q
  refine ⟨_, rfl, _, rfl, _, rfl, r, wp, hs, bs, late, qv, ws, rfl, hR, good, hto, hw, alp, lws, wok, fun H1 s1 => ?_⟩
  cases ec : closT hs bs late ws with
  | none =>
    rw [ec] at q
    exact ⟨_, rfl, rfl, false, rfl, if_bl (fun z => nomatch z) (fun _ => q H1 s1)⟩
  | some t =>
  rw [ec] at q
  have hw1 := s1 _ _ hw
  refine ⟨_, rfl, rfl, true, rfl, if_bl (fun _ => ?_) (fun z => nomatch z)⟩
  refine ⟨_, rfl, wp, rfl, ⟨_, SqT.of hw1⟩, fun D nD => lc_tup (K := K) (a := wp) (xs := qv) (fun i H5 => H5 D = some (.lst (((ws.take i).map fun x => ((x.2.length : Nat) : Int)).map V.int)) ∧ Same H1 H5) ⟨upd_same, same_new nD⟩ (fun i H5 _ ⟨_, s5⟩ => SqT.of (s5 _ _ hw1)) ?_ ?_⟩
  · rintro i x H5 hx ⟨hD, s5⟩
    obtain ⟨y, ey, ⟨p1, rfl, ⟨g, h1, h2⟩⟩⟩ := alp.getL hx
    have il := (List.getElem?_eq_some_iff.mp ey).1
    have s15 := s1.trans s5
    refine ⟨p1, _, rfl, SqT.of (s15 _ _ h1), rfl, _, _, rfl, _, _, rfl, rfl, rfl, ?_⟩
    refine yes_in ⟨_, rfl, g, _, rfl, .inr (SqT.of (s15 _ _ h2)), _, hD, by rw [List.length_map, List.length_map, List.length_take]; exact small1000 (by omega), ?_, Same.own s5 nD⟩
    rw [upd_same, List.take_add_one, ey, List.map_append, List.map_append, List.length_map]
    rfl
  rintro H2 ⟨hD, s2⟩
  rw [lqv, List.take_length] at hD
  exact ⟨D, _, rfl, SqL.of hD, _, rfl, _, _, rfl, rfl, q H2 (s1.trans s2)⟩
end
theorem stepT_ne {hs : List HR} {late : Option Nat} {e o : Nat} (h : ¬ e = o) : stepT hs late e o = match late with
  | none => none
  | some l => if e ∈ doorsOf "out" hs ∧ o ∈ doorsOf "in" hs then some ((l : Nat) : Int) else none := by
  unfold stepT
  exact if_neg fun z => h z.symm
theorem stepT_eq {hs : List HR} {late : Option Nat} {e : Nat} : stepT hs late e e = some 0 := by
  unfold stepT
  rw [if_pos rfl]
theorem pS_none {hs : List HR} {bs : List BR} {late : Option Nat} {ps : List (Wk × Wk)} {i : Nat} {y u : Wk} (e : ps[i]? = some (y, u)) (h : stepT hs late (enD bs y) u.1 = none) : sumO (pS hs bs late ps) = none :=
  sumO_none (List.mem_map.mpr ⟨(y, u), List.mem_of_getElem? e, h⟩)
theorem pS_next {hs : List HR} {bs : List BR} {late : Option Nat} {ps : List (Wk × Wk)} {i : Nat} {y u : Wk} {s c : Int} (e : ps[i]? = some (y, u)) (h : stepT hs late (enD bs y) u.1 = some c) (hs' : sumO (pS hs bs late (ps.take i)) = some s) : sumO (pS hs bs late (ps.take (i + 1))) = some (s + c) := by
  unfold pS at hs' ⊢
  rw [List.take_add_one, e, List.map_append]
  show sumO (_ ++ [stepT hs late (enD bs y) u.1]) = _
  rw [sumO_snoc, hs', h]
section
variable {P : Program} {w : World} {K : PySem.W.Frag} {mg : Str → Option Value} {base : Heap}
def sp_law_walk_trays (K : PySem.W.Frag) : Sp := fun vs H Q _ => ∃ (r wp : Addr) (hs : List HR) (bs : List BR) (late : Option Nat) (qv : List V) (ws : List Wk), vs = [.ref r, lateV late, .ref wp, .bl true] ∧ RoomAt H r hs bs ∧ (∀ h ∈ hs, GoodHand h) ∧ (∀ b ∈ bs, b.to < hs.length) ∧ H wp = some (.tup qv) ∧ All2 (RgAt H) qv ws ∧ ws.length ≤ 60 ∧ (∀ x ∈ ws, WkOk hs bs x) ∧ ∀ H', Same H H' → Q (oI (closT hs bs late ws)) H'
theorem ok_law_walk_trays {f : Addr} {fd : FuncData} (F : Fun K "_law_walk_trays" "_law_walk_trays" s_law_walk_trays f fd) (T : Top K mg) : FnOk P w K mg base CX0 2 f fd ["_law_room_here", "_law_late_here", "_law_walk", "_law_closed"] (sp_law_walk_trays K) := by
  obtain ⟨f_law_end, fd_law_end, F_law_end, b_law_end, m_law_end⟩ := T.d_law_end
  have G_law_end := ok_law_end (P := P) (w := w) (base := base) F_law_end T
  obtain ⟨f_law_trays, fd_law_trays, F_law_trays, b_law_trays, m_law_trays⟩ := T.d_law_trays
  have G_law_trays := ok_law_trays (P := P) (w := w) (base := base) F_law_trays T
  refine F.ok sc_law_walk_trays (fun vs H Q E h => ?_) (fun cdv A outer s H vs Q E hr h => ?_)
  · obtain ⟨r, wp, hs, bs, late, qv, ws, rfl, _⟩ := h
    rfl
  obtain ⟨r, wp, hs, bs, late, qv, ws, rfl, hR, good, hto, hw, alp, lws, wok, q⟩ := h
  obtain ⟨ha, ba, hv, bv, er, eh, eb, alh, alb⟩ := id hR.ex
  have lqv := alp.length
  let R1 : TS := fun D' σ' H' => D'.rt = Q ∧ ws ≠ [] ∧ allE bs ws ∧ σ' = [some (.ref r), some (lateV late), some (.ref wp), some (.bl true), none, none, none, none, none] ∧ Same H H'
  let R2 : TS := fun D' σ' H' => D'.rt = Q ∧ ws ≠ [] ∧ allE bs ws ∧ ∃ (v4 : Option V), σ' = [some (.ref r), some (lateV late), some (.ref wp), some (.bl true), v4, some (.int (trW bs ws)), none, none, none] ∧ Same H H'
  let R3 : TS := fun D' σ' H' => D'.rt = Q ∧ ws ≠ [] ∧ allE bs ws ∧ ∃ (v4 : Option V) (ll : Addr) (lv : List V), σ' = [some (.ref r), some (lateV late), some (.ref wp), some (.bl true), v4, some (.int (trW bs ws)), some (.ref ll), none, none] ∧ H' ll = some (.lst lv) ∧ All2 (RgAt H') lv (later ws) ∧ Same H H'
  refine ⟨_, (pss_cons (ps_if (PW.pt (pw_or (pt_cmpR op_eq (pe_callB (call_len_seqK K rfl) (by rfl) T.m_len (by decide +kernel) (pa_cons (pv 2) pa_nil)) pe_int (nomark _)) (pw_or1 (pt_val (pe_callB (cr_anyK K rfl rfl) (by rfl) T.m_any (by decide +kernel) (pa_cons (pe_lc (own := [("_law_way", 4)]) (g := gName 4) (tt := tYes) (by rfl) sc_law_walk_trays.nd (pi_tupK K rfl (pv 2)) (blkOk_by (own := [("_law_way", 4)]) (N := N_law_walk_trays) (sc := defScope s_law_walk_trays) (by decide +kernel)) (fun _ _ _ _ _ => (pg_name (i := 4) sc_law_walk_trays.nd rfl (Or.inl rfl))) (fun _ _ _ _ _ => pts_nil) (fun _ _ _ _ _ => (pe_cmpR op_isN (pe_call G_law_end (hr.mono (by decide)) (by rfl) m_law_end F_law_end.kp b_law_end .nil pass0 (pa_cons (pv 0) (pa_cons (pv 4) pa_nil))) pe_non (nomark _)))) pa_nil)))))) (pss_one (ps_ret pe_non)) pss_nil)
      (PSs.to (pss_cons (ps_set (i := 5) sc_law_walk_trays.nd rfl (Or.inl rfl) (pe_callB (cr_sumK K rfl rfl) (by rfl) T.m_sum (by decide +kernel) (pa_cons (pe_lc (own := [("_law_way", 4)]) (g := gName 4) (tt := tYes) (by rfl) sc_law_walk_trays.nd (pi_tupK K rfl (pv 2)) (blkOk_by (own := [("_law_way", 4)]) (N := N_law_walk_trays) (sc := defScope s_law_walk_trays) (by decide +kernel)) (fun _ _ _ _ _ => (pg_name (i := 4) sc_law_walk_trays.nd rfl (Or.inl rfl))) (fun _ _ _ _ _ => pts_nil) (fun _ _ _ _ _ => (pe_call G_law_trays (hr.mono (by decide)) (by rfl) m_law_trays F_law_trays.kp b_law_trays .nil pass0 (pa_cons (pv 0) (pa_cons (pv 4) pa_nil))))) pa_nil)))
      (PSs.to (pss_cons (ps_set (i := 6) sc_law_walk_trays.nd rfl (Or.inl rfl) (pe_op op_cat (pe_callTy (call_list_ofK K rfl) (by rfl) T.m_list (by decide +kernel) (pa_cons (pe_slice (sl_tupAK K rfl) (pv 2) (po_some pe_int) po_none) pa_nil)) (pe_callTy (call_list_ofK K rfl) (by rfl) T.m_list (by decide +kernel) (pa_cons (pe_slice (sl_tupAK K rfl) (pv 2) po_none (po_some (pe_callTy call_int1 (by rfl) T.m_int (by decide +kernel) (pa_cons (pv 3) pa_nil)))) pa_nil))))
      (PSs.to (pss_cons (ps_for PassesOwn.never rfl (pi_zipTL K rfl (by rfl) T.m_zip (pa_cons (pv 2) (pa_cons (pv 6) pa_nil))) (pg_tupK K rfl rfl (pgs_cons (pg_name (i := 4) sc_law_walk_trays.nd rfl (Or.inl rfl)) (pgs_cons (pg_name (i := 7) sc_law_walk_trays.nd rfl (Or.inl rfl)) pgs_nil)))
        (pss_cons (ps_set (i := 8) sc_law_walk_trays.nd rfl (Or.inl rfl) (pe_call G_law_end (hr.mono (by decide)) (by rfl) m_law_end F_law_end.kp b_law_end .nil pass0 (pa_cons (pv 0) (pa_cons (pv 4) pa_nil))))
      (pss_one (ps_if (pt_cmpR op_ne (pv 8) (pe_ix (ix_tupK K rfl) (pv 7) pe_int (fun _ _ => rfl)) (nomark _)) (pss_cons (ps_if (PW.pt (pw_or (pt_cmpR op_isN (pv 1) pe_non (nomark _)) (pw_or (pt_cmpR (op_neDK K rfl hr.units) (pe_ix (ix_tupK K rfl) (pe_ix (ix_tupK K rfl) (pe_ix (ix_tupK K rfl) (pv 0) pe_int (fun _ _ => rfl)) (pv 8) (fun _ _ => rfl)) pe_int (fun _ _ => rfl)) (pe_tup (pa_cons pe_str pa_nil)) (nomark _)) (pw_or1 (pt_cmpR (op_neDK K rfl hr.units) (pe_ix (ix_tupK K rfl) (pe_ix (ix_tupK K rfl) (pe_ix (ix_tupK K rfl) (pv 0) pe_int (fun _ _ => rfl)) (pe_ix (ix_tupK K rfl) (pv 7) pe_int (fun _ _ => rfl)) (fun _ _ => rfl)) pe_int (fun _ _ => rfl)) (pe_tup (pa_cons pe_str pa_nil)) (nomark _)))))) (pss_one (ps_ret pe_non)) pss_nil)
      (pss_one (ps_set (i := 5) sc_law_walk_trays.nd rfl (Or.inl rfl) (pe_op op_add (pv 5) (pv 1))))) pss_nil))))
      (pss_one (ps_ret (pv 5)))) R3 ?tail3)) R2 ?tail2)) R1 ?tail1)), ?_⟩
  case tail3 =>
    rintro D' σ' H1 ⟨eD, wne, ae, v4, ll, lv, rfl, hll, all, s1⟩
    have llv := all.length
    rw [later_len] at llv
    unfold closT at q
    rw [if_neg (fun z => z.elim wne fun y => y ae)] at q
    refine ⟨_, rfl, _, rfl, wp, ll, qv, lv, rfl, SqT.of (s1 _ _ hw), SqL.of hll, for_it (n := ws.length) (fun i σ H5 => ∃ (v4 v7 v8 : Option V) (s : Int), σ = [some (.ref r), some (lateV late), some (.ref wp), some (.bl true), v4, some (.int (trW bs ws + s)), some (.ref ll), v7, v8] ∧ sumO (pS hs bs late ((ws.zip (later ws)).take i)) = some s ∧ Same H1 H5)
      ⟨v4, none, none, 0, (by rw [Int.add_zero]), rfl, Same.refl _⟩ ?_ ?_ ?_ ?_⟩
    · rintro i σ H5 hi ⟨v4, v7, v8, s, rfl, es, s5⟩
      exact ⟨SqT.of (s5 _ _ (s1 _ _ hw)), SqL.of (s5 _ _ hll), by omega, by omega⟩
    · rintro σ H5 ⟨v4, v7, v8, s, rfl, es, s5⟩
      exact ⟨SqT.of (s5 _ _ (s1 _ _ hw)), SqL.of (s5 _ _ hll), by omega, by omega, .inl (by omega)⟩
    · rintro i x σ H5 H6 hi ⟨v4, v7, v8, s, rfl, es, s5⟩ ⟨T', x1, y1, rfl, nT, rfl, hx1, hy1⟩
      obtain ⟨y, ey, ⟨p1, rfl, hp1⟩⟩ := alp.getL hx1
      obtain ⟨u, eu, ⟨p2, rfl, hp2⟩⟩ := all.getL hy1
      have s6 := s5.trans (same_new (o := .tup [V.ref p1, V.ref p2]) nT)
      have s16 := s1.trans s6
      have yo := wok _ (List.mem_of_getElem? ey)
      have um : u ∈ ws := by
        have := List.mem_of_getElem? eu
        rcases List.mem_append.mp this with h | h
        · exact List.mem_of_mem_drop h
        · exact List.mem_of_mem_take h
      have uo := wok _ um
      have ezi : (ws.zip (later ws))[i]? = some (y, u) := by
        rw [List.getElem?_zip_eq_some]
        exact ⟨ey, eu⟩
      obtain ⟨e, ee⟩ : ∃ e, endO bs y = some e := Option.isSome_iff_exists.mp (ae _ (List.mem_of_getElem? ey))
      have elt : e < hs.length := wayEnd_lt57 hto yo.k ee
      have end_ : enD bs y = e := by unfold enD; rw [ee]; rfl
      have ee' : wayEnd bs y.1 y.2 = some e := ee
      refine ⟨T', _, rfl, SqT.of upd_same, rfl, _, _, rfl, _, _, rfl, rfl, ?_⟩
      refine ⟨_, rfl, _, rfl, r, p1, hs, bs, y.1, y.2, rfl, hR.keep (TK.same s16), hp1.keep (TK.same s16), yo.lt, fun H7 s7 => ?_⟩
      rw [ee']
      have s17 := s16.trans s7
      have t7 := s6.trans s7
      have hp2' := hp2.keep (TK.same t7)
      obtain ⟨g2, e21, e22⟩ := id hp2'
      refine ⟨_, rfl, _, rfl, p2, _, _, _, rfl, rfl, SqT.of e21, atI_nat (j := 0) rfl, rfl, _, rfl, if_bl (fun c => ?_) (fun c => ?_)⟩
      · have c : e ≠ u.1 := fun z => by
          have c : (!decide (nV e = nV u.1)) = true := c
          rw [z, decide_eq_true rfl] at c
          cases c
        have st := stepT_ne (hs := hs) (late := late) c
        rw [← end_] at st
        cases late with
        | none =>
          refine ⟨_, rfl, rfl, _, rfl, if_bl (fun _ => if_bl (fun _ => ?_) (fun z => nomatch z)) (fun z => absurd rfl (of_decide_eq_false z))⟩
          have := q H7 s17
          rw [pS_none ezi st] at this
          rw [eD]
          exact this
        | some l =>
        have st : stepT hs (some l) (enD bs y) u.1 = if enD bs y ∈ doorsOf "out" hs ∧ u.1 ∈ doorsOf "in" hs then some ((l : Nat) : Int) else none := st
        rw [end_] at st
        have fail : ¬ (e ∈ doorsOf "out" hs ∧ u.1 ∈ doorsOf "in" hs) → ∀ H8, Same H H8 → D'.rt .non H8 := fun n H8 s8 => by
          rw [if_neg n, ← end_] at st
          have := q H8 s8
          rw [pS_none ezi st] at this
          rw [eD]
          exact this
        have eh1 : hs[e]? = some hs[e] := List.getElem?_eq_getElem elt
        have eh2 : hs[u.1]? = some (hs[u.1]'uo.k) := List.getElem?_eq_getElem uo.k
        obtain ⟨x1, ex1, ⟨t1, r1, rfl, e11, e12⟩⟩ := alh.get eh1
        obtain ⟨x2, ex2, ⟨t2, r2, rfl, e21', e22'⟩⟩ := alh.get eh2
        have g1 := good _ (List.mem_of_getElem? eh1)
        have g2' := good _ (List.mem_of_getElem? eh2)
        have m1 : e ∈ doorsOf "out" hs ↔ hs[e].wd = "out" := by
          rw [mem_doors]
          exact ⟨fun ⟨h, e', w⟩ => by rw [eh1] at e'; cases e'; exact w, fun h => ⟨_, eh1, h⟩⟩
        have m2 : u.1 ∈ doorsOf "in" hs ↔ (hs[u.1]'uo.k).wd = "in" := by
          rw [mem_doors]
          exact ⟨fun ⟨h, e', w⟩ => by rw [eh2] at e'; cases e'; exact w, fun h => ⟨_, eh2, h⟩⟩
        refine ⟨_, rfl, rfl, _, rfl, if_bl (fun z => absurd (of_decide_eq_true z) (fun y => nomatch y)) (fun _ => ?_)⟩
        refine ⟨_, rfl, r, _, _, _, rfl, rfl, SqT.of (s17 _ _ er), atI_nat (j := 0) rfl, _, rfl, ha, _, _, _, rfl, rfl, SqT.of (s17 _ _ eh), atI_nat ex1, t1, _, _, _, rfl, rfl, SqT.of (s17 _ _ e11), atI_nat (j := 0) rfl, (by show 1 ≤ sizeLine; decide), fun o1 no1 => ?_⟩
        have v1 := same_new (o := .tup [V.str "out"]) no1
        have s18 := s17.trans v1
        refine ⟨_, _, rule_dp (s18 _ _ e12), .tup (SqT.of upd_same) (.cons (.str _) .nil), rule_shaped g1.lay, one_shaped (by decide +kernel), _, rfl, ?_⟩
        rw [rule_eqv, g1.door "out" (.inr rfl)]
        by_cases c1 : hs[e].wd = "out"
        case neg =>
          rw [decide_eq_false c1]
          exact if_bl (fun _ => if_bl (fun _ => fail (fun z => c1 (m1.mp z.1)) _ s18) (fun z => nomatch z)) (fun z => nomatch z)
        rw [decide_eq_true c1]
        refine if_bl (fun z => nomatch z) (fun _ => ?_)
        refine ⟨_, rfl, r, _, _, _, rfl, rfl, SqT.of (s18 _ _ er), atI_nat (j := 0) rfl, _, rfl, p2, _, _, _, rfl, rfl, SqT.of (v1 _ _ e21), atI_nat (j := 0) rfl, ha, _, _, _, rfl, rfl, SqT.of (s18 _ _ eh), atI_nat ex2, t2, _, _, _, rfl, rfl, SqT.of (s18 _ _ e21'), atI_nat (j := 0) rfl, (by show 1 ≤ sizeLine; decide), fun o2 no2 => ?_⟩
        have v2 := same_new (o := .tup [V.str "in"]) no2
        have s19 := s18.trans v2
        refine ⟨_, _, rule_dp (s19 _ _ e22'), .tup (SqT.of upd_same) (.cons (.str _) .nil), rule_shaped g2'.lay, one_shaped (by decide +kernel), _, rfl, ?_⟩
        rw [rule_eqv, g2'.door "in" (.inl rfl)]
        by_cases c2 : (hs[u.1]'uo.k).wd = "in"
        case neg =>
          rw [decide_eq_false c2]
          exact if_bl (fun _ => fail (fun z => c2 (m2.mp z.2)) _ s19) (fun z => nomatch z)
        rw [decide_eq_true c2]
        refine if_bl (fun z => nomatch z) (fun _ => ?_)
        rw [if_pos ⟨m1.mpr c1, m2.mpr c2⟩, ← end_] at st
        refine ⟨_, rfl, _, rfl, _, _, rfl, rfl, some (.ref p1), some (.ref p2), some (nV e), s + ((l : Nat) : Int), ?_, pS_next ezi st es, (t7.trans v1).trans v2⟩
        rw [← Int.add_assoc]
        rfl
      · have c : e = u.1 := by
          have c : (!decide (nV e = nV u.1)) = false := c
          have c2 : decide (nV e = nV u.1) = true := by
            cases h : decide (nV e = nV u.1) with
            | true => rfl
            | false => rw [h] at c; cases c
          have := V.int.inj (of_decide_eq_true c2)
          omega
        have st : stepT hs late (enD bs y) u.1 = some 0 := by rw [end_, c]; exact stepT_eq
        exact ⟨some (.ref p1), some (.ref p2), some (nV e), s, rfl, by rw [pS_next ezi st es, Int.add_zero], t7⟩
    · rintro σ H5 ⟨v4, v7, v8, s, rfl, es, s5⟩
      rw [show ws.length = (ws.zip (later ws)).length by rw [List.length_zip, later_len, Nat.min_self], List.take_length] at es
      refine ⟨_, rfl, ?_⟩
      have := q _ (s1.trans s5)
      rw [es] at this
      rw [eD, Int.add_comm]
      exact this
  case tail2 =>
    rintro D' σ' H1 ⟨eD, wne, ae, v4, rfl, s1⟩
    have hw1 := s1 _ _ hw
    refine ⟨_, rfl, ?_⟩
    dsimp only [tNoPart]
    refine ⟨_, rfl, slA_of hw1 fun p1 H2 h1 s2 => ?_⟩
    have h1 : H2 p1 = some (.tup (cutV qv (some ((1 : Nat) : Int)) none)) := h1
    rw [cut_drop] at h1
    refine ⟨p1, _, rfl, .inr (SqT.of h1), fun l1 nl1 => ?_⟩
    have t1 := same_new (o := .lst (qv.drop 1)) nl1
    have hl1 : (upd H2 l1 (.lst (qv.drop 1))) l1 = some (.lst (qv.drop 1)) := upd_same
    generalize upd H2 l1 _ = H3 at t1 hl1 ⊢
    have s3 := s2.trans t1
    refine ⟨_, rfl, ?_⟩
    dsimp only [tNoPart]
    refine ⟨_, rfl, .inr ⟨true, rfl, _, rfl, slA_of (s3 _ _ hw1) fun p2 H4 h2 s4 => ?_⟩⟩
    have h2 : H4 p2 = some (.tup (cutV qv none (some ((1 : Nat) : Int)))) := h2
    rw [cut_take] at h2
    refine ⟨p2, _, rfl, .inr (SqT.of h2), fun l2 nl2 => ?_⟩
    have t2 := same_new (o := .lst (qv.take 1)) nl2
    have s4' := s4.trans t2
    refine ⟨l1, l2, _, _, rfl, rfl, s4' _ _ hl1, upd_same, by rw [List.length_drop, List.length_take]; exact little (by omega), fun l3 nl3 => ?_⟩
    have t3 := same_new (o := .lst (qv.drop 1 ++ qv.take 1)) nl3
    have s15 := ((s1.trans s3).trans s4').trans t3
    refine ⟨eD, wne, ae, v4, l3, _, rfl, upd_same, ?_, s15⟩
    have a := alp.imp fun _ _ z => z.keep (TK.same s15)
    exact (All2.drop a 1).app (All2.take a 1)
  case tail1 =>
    rintro D' σ' H1 ⟨eD, wne, ae, rfl, s1⟩
    have hw1 := s1 _ _ hw
    refine ⟨_, rfl, wp, rfl, ⟨_, SqT.of hw1⟩, fun D nD => lc_tup (K := K) (a := wp) (xs := qv) (fun i H5 => H5 D = some (.lst (((ws.take i).map fun x => (x.2.map (trB bs)).sum).map V.int)) ∧ Same H1 H5) ⟨upd_same, same_new nD⟩ (fun i H5 _ ⟨_, s5⟩ => SqT.of (s5 _ _ hw1)) ?_ ?_⟩
    · rintro i x H5 hx ⟨hD, s5⟩
      obtain ⟨y, ey, ⟨p1, rfl, hp1⟩⟩ := alp.getL hx
      have wo := wok _ (List.mem_of_getElem? ey)
      have il := (List.getElem?_eq_some_iff.mp ey).1
      have s15 := s1.trans s5
      refine ⟨rfl, yes_in ⟨_, rfl, _, rfl, r, p1, hs, bs, y.1, y.2, rfl, hR.keep (TK.same s15), hp1.keep (TK.same s15), wo.lt, by have := wo.ln; omega, fun H6 s6 => ⟨_, s6 _ _ hD, by rw [List.length_map, List.length_map, List.length_take]; exact small1000 (by omega), ?_, Same.own (s5.trans s6) nD⟩⟩⟩
      rw [upd_same, List.take_add_one, ey, List.map_append, List.map_append]
      rfl
    · rintro H5 ⟨hD, s5⟩
      rw [lqv, List.take_length] at hD
      exact ⟨D, _, rfl, SqL.of hD, eD, wne, ae, _, rfl, s1.trans s5⟩
  have stop : ws = [] ∨ ¬ allE bs ws → ∀ H1, Same H H1 → Q .non H1 := fun h H1 s1 => by
    have := q H1 s1
    unfold closT at this
    rw [if_pos h] at this
    exact this
  refine ⟨_, rfl, wp, _, rfl, .inr (SqT.of hw), rfl, _, rfl, if_bl (fun z => ?_) (fun z => ?_)⟩
  · have z := V.int.inj (of_decide_eq_true z)
    exact if_bl (fun _ => stop (.inl (List.eq_nil_of_length_eq_zero (by omega))) H (Same.refl _)) (fun z => nomatch z)
  have wne : ws ≠ [] := fun e => by
    subst e
    have e2 : qv = [] := List.eq_nil_of_length_eq_zero lqv
    subst e2
    exact absurd rfl (of_decide_eq_false z)
  refine ⟨_, rfl, wp, rfl, ⟨_, SqT.of hw⟩, fun D nD => lc_tup (K := K) (a := wp) (xs := qv) (fun i H5 => H5 D = some (.lst (((ws.take i).map fun x => decide (onV (endO bs x) = .non)).map V.bl)) ∧ Same H H5) ⟨upd_same, same_new nD⟩ (fun i H5 _ ⟨_, s5⟩ => SqT.of (s5 _ _ hw)) ?_ ?_⟩
  · rintro i x H5 hx ⟨hD, s5⟩
    obtain ⟨y, ey, ⟨p1, rfl, hp1⟩⟩ := alp.getL hx
    have wo := wok _ (List.mem_of_getElem? ey)
    have il := (List.getElem?_eq_some_iff.mp ey).1
    refine ⟨rfl, yes_in ⟨_, rfl, _, rfl, r, p1, hs, bs, y.1, y.2, rfl, hR.keep (TK.same s5), hp1.keep (TK.same s5), wo.lt, fun H6 s6 => ?_⟩⟩
    refine ⟨rfl, _, s6 _ _ hD, by rw [List.length_map, List.length_map, List.length_take]; exact small1000 (by omega), ?_, Same.own (s5.trans s6) nD⟩
    rw [upd_same, List.take_add_one, ey, List.map_append, List.map_append]
    rfl
  rintro H2 ⟨hD, s2⟩
  rw [lqv, List.take_length] at hD
  refine ⟨D, _, rfl, SqL.of hD, _, rfl, ?_⟩
  by_cases ae : allE bs ws
  · rw [show (ws.map fun x => decide (onV (endO bs x) = .non)).any id = false by
      rw [List.any_map, List.any_eq_false]
      intro x hx
      have := ae x hx
      cases e : endO bs x with
      | none => rw [e] at this; cases this
      | some k =>
        show ¬ decide (onV (endO bs x) = .non) = true
        rw [e, decide_eq_false (fun z => nomatch z)]
        exact Bool.false_ne_true]
    exact if_bl (fun z => nomatch z) (fun _ => ⟨rfl, wne, ae, rfl, s2⟩)
  · rw [show (ws.map fun x => decide (onV (endO bs x) = .non)).any id = true by
      refine Classical.byContradiction fun n => ae fun x hx => ?_
      rw [List.any_map] at n
      have n := List.any_eq_false.mp (Bool.eq_false_iff.mpr n) x hx
      cases e : endO bs x with
      | none => exact absurd (show decide (onV (endO bs x) = .non) = true by rw [e]; rfl) n
      | some k => rfl]
    exact if_bl (fun _ => stop (.inr ae) H2 s2) (fun z => nomatch z)
def sp_law_belts (K : PySem.W.Frag) : Sp := fun vs H Q _ => ∃ (wp : Addr) (qv : List V) (ws : List Wk), vs = [.ref wp] ∧ H wp = some (.tup qv) ∧ All2 (RgAt H) qv ws ∧ ws.length ≤ 60 ∧ ∀ H', Same H H' → Q (.int (nbW ws)) H'
theorem ok_law_belts {f : Addr} {fd : FuncData} (F : Fun K "_law_belts" "_law_belts" s_law_belts f fd) (T : Top K mg) : FnOk P w K mg base CX0 1 f fd ["_law_walk"] (sp_law_belts K) := by
  refine F.ok sc_law_belts (fun vs H Q E h => ?_) (fun cdv A outer s H vs Q E hr h => ?_)
  · obtain ⟨wp, qv, ws, rfl, _⟩ := h
    rfl
  obtain ⟨wp, qv, ws, rfl, hw, alp, lws, q⟩ := h
  have lqv := alp.length
  refine ⟨_, (pss_one (ps_ret (pe_callB (cr_sumK K rfl rfl) (by rfl) T.m_sum (by decide +kernel) (pa_cons (pe_lc (own := [("_law_way", 1)]) (g := gName 1) (tt := tYes) (by rfl) sc_law_belts.nd (pi_tupK K rfl (pv 0)) (blkOk_by (own := [("_law_way", 1)]) (N := N_law_belts) (sc := defScope s_law_belts) (by decide +kernel)) (fun _ _ _ _ _ => (pg_name (i := 1) sc_law_belts.nd rfl (Or.inl rfl))) (fun _ _ _ _ _ => pts_nil) (fun _ _ _ _ _ => (pe_callB (call_len_seqK K rfl) (by rfl) T.m_len (by decide +kernel) (pa_cons (pe_ix (ix_tupK K rfl) (pv 1) pe_int (fun _ _ => rfl)) pa_nil)))) pa_nil)))), ?_⟩
  refine ⟨_, rfl, wp, rfl, ⟨_, SqT.of hw⟩, fun D nD => lc_tup (K := K) (a := wp) (xs := qv) (fun i H5 => H5 D = some (.lst (((ws.take i).map fun x => ((x.2.length : Nat) : Int)).map V.int)) ∧ Same H H5) ⟨upd_same, same_new nD⟩ (fun i H5 _ ⟨_, s5⟩ => SqT.of (s5 _ _ hw)) ?_ ?_⟩
  · rintro i x H5 hx ⟨hD, s5⟩
    obtain ⟨y, ey, ⟨p1, rfl, ⟨g, h1, h2⟩⟩⟩ := alp.getL hx
    have il := (List.getElem?_eq_some_iff.mp ey).1
    refine ⟨rfl, yes_in ⟨_, rfl, p1, _, _, _, rfl, rfl, SqT.of (s5 _ _ h1), atI_nat (j := 1) rfl, g, _, rfl, .inr (SqT.of (s5 _ _ h2)), _, hD, by rw [List.length_map, List.length_map, List.length_take]; exact small1000 (by omega), ?_, Same.own s5 nD⟩⟩
    rw [upd_same, List.take_add_one, ey, List.map_append, List.map_append, List.length_map]
    rfl
  rintro H2 ⟨hD, s2⟩
  rw [lqv, List.take_length] at hD
  exact ⟨D, _, rfl, SqL.of hD, q H2 s2⟩
def sp_law_ring_holds (K : PySem.W.Frag) : Sp := fun vs H Q _ => ∃ (r wp : Addr) (hs : List HR) (bs : List BR) (late : Option Nat) (qv : List V) (ws : List Wk), vs = [.ref r, lateV late, .ref wp] ∧ RoomAt H r hs bs ∧ (∀ h ∈ hs, GoodHand h) ∧ (∀ b ∈ bs, b.to < hs.length) ∧ H wp = some (.tup qv) ∧ All2 (RgAt H) qv ws ∧ ws.length ≤ 60 ∧ (∀ x ∈ ws, WkOk hs bs x) ∧ ∀ H', Same H H' → Q (.bl (holdsR hs bs late ws)) H'
theorem ok_law_ring_holds {f : Addr} {fd : FuncData} (F : Fun K "_law_ring_holds" "_law_ring_holds" s_law_ring_holds f fd) (T : Top K mg) : FnOk P w K mg base CX0 3 f fd ["_law_room_here", "_law_late_here", "_law_ring"] (sp_law_ring_holds K) := by
  obtain ⟨f_law_walk_trays, fd_law_walk_trays, F_law_walk_trays, b_law_walk_trays, m_law_walk_trays⟩ := T.d_law_walk_trays
  have G_law_walk_trays := ok_law_walk_trays (P := P) (w := w) (base := base) F_law_walk_trays T
  obtain ⟨f_law_belts, fd_law_belts, F_law_belts, b_law_belts, m_law_belts⟩ := T.d_law_belts
  have G_law_belts := ok_law_belts (P := P) (w := w) (base := base) F_law_belts T
  refine F.ok sc_law_ring_holds (fun vs H Q E h => ?_) (fun cdv A outer s H vs Q E hr h => ?_)
  · obtain ⟨r, wp, hs, bs, late, qv, ws, rfl, _⟩ := h
    rfl
  obtain ⟨r, wp, hs, bs, late, qv, ws, rfl, hR, good, hto, hw, alp, lws, wok, q⟩ := h
  refine ⟨_, (pss_cons (ps_set (i := 3) sc_law_ring_holds.nd rfl (Or.inl rfl) (pe_call G_law_walk_trays (hr.mono (by decide)) (by rfl) m_law_walk_trays F_law_walk_trays.kp b_law_walk_trays .nil pass0 (pa_cons (pv 0) (pa_cons (pv 1) (pa_cons (pv 2) (pa_cons pe_bl pa_nil))))))
      (pss_one (ps_ret (pe_and (pe_cmpR op_notN (pv 3) pe_non (nomark _)) (pe_one (pe_cmpR op_gt (pe_call G_law_belts (hr.mono (by decide)) (by rfl) m_law_belts F_law_belts.kp b_law_belts .nil pass0 (pa_cons (pv 2) pa_nil)) (pv 3) (nomark _))))))), ?_⟩
  unfold holdsR at q
  refine ⟨_, rfl, _, rfl, _, rfl, r, wp, hs, bs, late, qv, ws, rfl, hR, good, hto, hw, alp, lws, wok, fun H1 s1 => ?_⟩
  cases ec : closT hs bs late ws with
  | none =>
    rw [ec] at q
    exact ⟨_, rfl, rfl, false, rfl, if_bl (fun z => nomatch z) (fun _ => q H1 s1)⟩
  | some t =>
    rw [ec] at q
    refine ⟨_, rfl, rfl, true, rfl, if_bl (fun _ => ?_) (fun z => nomatch z)⟩
    exact ⟨_, rfl, wp, qv, ws, rfl, s1 _ _ hw, alp.imp fun _ _ z => z.keep (TK.same s1), lws, fun H2 s2 => ⟨_, rfl, _, _, rfl, rfl, q H2 (s1.trans s2)⟩⟩
end
theorem cutT (ns : List Nat) (a : Nat) : cutV (ns.map nV) none (some ((a : Nat) : Int)) = (ns.take a).map nV := by rw [cut_take, List.map_take]
theorem cutD (ns : List Nat) (a : Nat) : cutV (ns.map nV) (some ((a : Nat) : Int)) none = (ns.drop a).map nV := by rw [cut_drop, List.map_drop]
theorem cutM (ns : List Nat) (a : Nat) : ∃ cs : List Nat, cutV (ns.map nV) (some ((a : Nat) : Int)) (some (((a : Nat) : Int) + 1)) = cs.map nV ∧ cs.length ≤ 1 ∧ ∀ x ∈ cs, x ∈ ns := by
  refine ⟨(ns.drop (min a ns.length)).take (min (a + 1) ns.length - min a ns.length), ?_, ?_, fun x hx => List.mem_of_mem_drop (List.mem_of_mem_take hx)⟩
  · unfold cutV
    rw [show ((a : Nat) : Int) + 1 = ((a + 1 : Nat) : Int) by omega, HT.sIx_nat, HT.sIx_nat, List.length_map, List.map_take, List.map_drop]
  · rw [List.length_take, List.length_drop]
    omega
section
variable {P : Program} {w : World} {K : PySem.W.Frag} {mg : Str → Option Value} {base : Heap}
def sp_law_any_way (K : PySem.W.Frag) : Sp := fun vs H Q _ => ∃ (f c r : Addr) (hs : List HR) (bs : List BR) (m : Int), vs = [.ref f, .ref r, .int m] ∧ 0 ≤ m ∧ m ≤ 40 ∧ Flow H f c ∧ RoomAt H r hs bs ∧ RoomOk hs bs ∧ 0 < hs.length ∧
  ∀ (p : Addr) (k : Nat) (ms : List Nat) (H' : Hp), PairAt H' p k ms → k < hs.length → (∀ n ∈ ms, n < bs.length) → (ms.length : Int) ≤ m → Flow H' f c → But f H H' → Q (.ref p) H'
theorem ok_law_any_way {f : Addr} {fd : FuncData} (F : Fun K "_law_any_way" "_law_any_way" s_law_any_way f fd) (T : Top K mg) : FnOk P w K mg base CX0 2 f fd ["_law_flow_here", "_law_room_here", "_law_most"] (sp_law_any_way K) := by
  obtain ⟨f_law_pick, fd_law_pick, F_law_pick, b_law_pick, m_law_pick⟩ := T.d_law_pick
  have G_law_pick := ok_law_pick (P := P) (w := w) (base := base) F_law_pick T
  refine F.ok sc_law_any_way (fun vs H Q E h => ?_) (fun cdv A outer s H vs Q E hr h => ?_)
  · obtain ⟨f, c, r, hs, bs, m, rfl, _⟩ := h
    rfl
  obtain ⟨f, c, r, hs, bs, m, rfl, m0, m1, hF, hR, ok, pos, q⟩ := h
  obtain ⟨ha, ba, hv, bv, er, eh, eb, alh, alb⟩ := hR.ex
  have lhv := alh.length
  have lbv := alb.length
  have lh := ok.hands
  have lb := ok.many
  refine ⟨_, (pss_cons (ps_set (i := 3) sc_law_any_way.nd rfl (Or.inr rfl) (pe_call G_law_pick (hr.mono (by decide)) (by rfl) m_law_pick F_law_pick.kp b_law_pick .nil pass0 (pa_cons (pv 0) (pa_cons (pe_callB (call_len_seqK K rfl) (by rfl) T.m_len (by decide +kernel) (pa_cons (pe_ix (ix_tupK K rfl) (pv 1) pe_int (fun _ _ => rfl)) pa_nil)) pa_nil))))
      (pss_cons (ps_set (i := 4) sc_law_any_way.nd rfl (Or.inl rfl) (pv 3))
      (pss_cons (ps_set (i := 5) sc_law_any_way.nd rfl (Or.inl rfl) (pe_lst pa_nil))
      (pss_cons (ps_for PassesOwn.never rfl (pi_range1 (by rfl) T.m_range (pa_cons (pe_call G_law_pick (hr.mono (by decide)) (by rfl) m_law_pick F_law_pick.kp b_law_pick .nil pass0 (pa_cons (pv 0) (pa_cons (pe_op op_add (pv 2) pe_int) pa_nil))) pa_nil)) (pg_name (i := 6) sc_law_any_way.nd rfl (Or.inl rfl))
        (pss_cons (ps_setLc (i := 7) (own := [("_law_b", 8), ("_law_belt", 9)]) (g := gTup K 2 (gCons (gName 8) (gCons (gName 9) gNil))) (by rfl) sc_law_any_way.nd rfl rfl (sw_true rfl rfl rfl (by decide +kernel)) (pi_enumT K rfl (by rfl) T.m_enumerate (pa_cons (pe_ix (ix_tupK K rfl) (pv 1) pe_int (fun _ _ => rfl)) pa_nil)) (blkOk_by (own := [("_law_b", 8), ("_law_belt", 9)]) (N := N_law_any_way) (sc := defScope s_law_any_way) (by decide +kernel)) (fun _ _ _ _ _ => (pg_tupK K rfl rfl (pgs_cons (pg_name (i := 8) sc_law_any_way.nd rfl (Or.inl rfl)) (pgs_cons (pg_name (i := 9) sc_law_any_way.nd rfl (Or.inl rfl)) pgs_nil)))) (fun _ _ _ _ _ => pts_one (pt_cmpR op_eq (pe_ix (ix_tupK K rfl) (pv 9) pe_int (fun _ _ => rfl)) (pv 3) (nomark _))) (fun _ _ _ _ _ => (pv 8)))
      (pss_one (ps_if (pt_cmpR op_gt (pe_callB (call_len_seqK K rfl) (by rfl) T.m_len (by decide +kernel) (pa_cons (pv 7) pa_nil)) pe_int (nomark _)) (pss_cons (ps_expr (pe_bmK K rfl PySem.F.plainAttrs_list PySem.F.slot_list_append PySem.F.type_list_append mt_append (pv 5) (pa_cons (pe_ix (ix_listK K rfl) (pv 7) (pe_call G_law_pick (hr.mono (by decide)) (by rfl) m_law_pick F_law_pick.kp b_law_pick .nil pass0 (pa_cons (pv 0) (pa_cons (pe_callB (call_len_seqK K rfl) (by rfl) T.m_len (by decide +kernel) (pa_cons (pv 7) pa_nil)) pa_nil))) (fun _ _ => rfl)) pa_nil)))
      (pss_one (ps_set (i := 3) sc_law_any_way.nd rfl (Or.inr rfl) (pe_ix (ix_tupK K rfl) (pe_ix (ix_tupK K rfl) (pe_ix (ix_tupK K rfl) (pv 1) pe_int (fun _ _ => rfl)) (pe_ix (ix_listK K rfl) (pv 5) (pe_un un_neg pe_int) (fun _ _ => rfl)) (fun _ _ => rfl)) pe_int (fun _ _ => rfl))))) pss_nil))))
      (pss_one (ps_ret (pe_tup (pa_cons (pv 4) (pa_cons (pe_callTy (call_tuple_ofK K rfl) (by rfl) T.m_tuple (by decide +kernel) (pa_cons (pv 5) pa_nil)) pa_nil))))))))), ?_⟩
  refine ⟨_, rfl, _, rfl, r, _, _, _, rfl, rfl, SqT.of er, atI_nat (j := 0) rfl, ha, _, rfl, .inr (SqT.of eh), f, c, _, rfl, by omega, log_small (by omega), hF, fun v H1 v0 v1 F1 B1 => ?_⟩
  obtain ⟨k, rfl⟩ : ∃ k : Nat, v = ((k : Nat) : Int) := ⟨v.toNat, by omega⟩
  refine ⟨_, rfl, ?_⟩
  refine ⟨(by show 0 ≤ sizeLine; decide), fun al nal => ?_⟩
  have af : al ≠ f := F1.ne nal
  have ac : al ≠ c := F1.nec nal
  have al0 : H al = none := B1.none nal af
  have F2 := F1.new (o := .lst []) nal
  have hm1 : (m + 1).natAbs.log2 < 9000 := by
    obtain ⟨z, rfl⟩ : ∃ z : Nat, m = ((z : Nat) : Int) := ⟨m.toNat, by omega⟩
    exact log_small (m := z + 1) (by omega)
  refine ⟨_, rfl, _, rfl, _, _, rfl, rfl, f, c, _, rfl, by omega, hm1, F2, fun z H3 z0 z1 F3 B3 => ?_⟩
  refine ⟨_, rfl, by omega, by omega, for_range (lo := 0) (n := z.toNat) (fun i σ H4 => ∃ (cur : Nat) (ns : List Nat) (v6 v7 : Option V), σ = [some (.ref f), some (.ref r), some (.int m), some (nV cur), some (nV k), some (.ref al), v6, v7, none, none] ∧ H4 al = some (.lst (ns.map nV)) ∧ (∀ n ∈ ns, n < bs.length) ∧ ns.length ≤ i ∧ Flow H4 f c ∧ But f H H4)
    ⟨k, [], none, none, rfl, B3 _ _ upd_same af, (fun _ z => nomatch z), Nat.le_refl _, F3, (B1.new nal).trans B3⟩ ?_ ?_⟩
  · rintro i σ H4 hi ⟨cur, ns, v6, v7, rfl, hal, hn, ln, F4, B4⟩
    have K4 := TK.but hF B4
    refine ⟨_, rfl, r, _, _, _, rfl, rfl, SqT.of (K4 _ _ er), atI_nat (j := 1) rfl, ba, bv, rfl, SqT.of (K4 _ _ eb), fun D nD => lc_it (J := IteT K ba bv) (n := bv.length) (fun j H5 => H5 D = some (.lst (((List.range j).filter fun j => decide (bs[j]?.map BR.one = some cur)).map nV)) ∧ Same H4 H5) ⟨upd_same, same_new nD⟩ ?_ ?_ ?_ ?_⟩
    · rintro j H5 hj ⟨hD, s5⟩
      exact ⟨SqT.of (s5 _ _ (K4 _ _ eb)), hj⟩
    · rintro H5 ⟨hD, s5⟩
      exact ⟨SqT.of (s5 _ _ (K4 _ _ eb)), rfl⟩
    · rintro j v H5 H6 hj ⟨hD, s5⟩ ⟨t, y, rfl, nt, rfl, ey⟩
      obtain ⟨b, eb2, ⟨t2, g, rfl, e1, e2⟩⟩ := alb.getL ey
      have s6 := s5.trans (same_new (o := .tup [V.int ((j : Nat) : Int), V.ref t2]) nt)
      have hD6 := same_new (o := .tup [V.int ((j : Nat) : Int), V.ref t2]) nt _ _ hD
      have few := filt_len (p := fun j => decide (bs[j]?.map BR.one = some cur)) j
      refine ⟨t, _, rfl, SqT.of upd_same, rfl, _, _, rfl, _, _, rfl, rfl, rfl, _, rfl, t2, _, _, _, rfl, rfl, SqT.of (s6 _ _ (K4 _ _ e1)), atI_nat (j := 0) rfl, _, rfl, rfl, _, rfl, if_bl (fun c => ?_) (fun c => ?_)⟩
      · have c : b.one = cur := by have := V.int.inj (of_decide_eq_true c); omega
        refine ⟨_, rfl, _, hD6, by rw [List.length_map]; exact small1000 (by omega), ?_, Same.own s6 nD⟩
        rw [upd_same, filt_succ, if_pos (decide_eq_true (by rw [eb2, ← c]; rfl)), List.map_append]
        rfl
      · have c : ¬ b.one = cur := fun z => of_decide_eq_false c (by rw [z])
        refine ⟨?_, s6⟩
        rw [filt_succ, if_neg fun z => c (by have := of_decide_eq_true z; rw [eb2] at this; exact Option.some.inj this), List.append_nil]
        exact hD6
    · rintro H5 ⟨hD, s5⟩
      obtain ⟨som, esom, hsom⟩ : ∃ som : List Nat, H5 D = some (.lst (som.map nV)) ∧ ∀ x ∈ som, x < bs.length := by
        refine ⟨_, hD, fun x hx => ?_⟩
        have := List.mem_range.mp (List.mem_filter.mp hx).1
        omega
      have lsom : som.length ≤ 20 := by
        rw [hD] at esom
        have e := congrArg (fun o => match o with | some (HO.lst l) => l.length | _ => 0) esom
        dsimp only at e
        rw [List.length_map, List.length_map] at e
        have := filt_len (p := fun j => decide (bs[j]?.map BR.one = some cur)) bv.length
        omega
      have F5 := F4.same s5
      have hal5 := s5 _ _ hal
      refine ⟨_, rfl, D, _, rfl, .inl (SqL.of esom), _, _, rfl, rfl, _, rfl, if_bl (fun c1 => ?_) (fun c1 => ?_)⟩
      · have c1 : (0 : Int) < (((som.map nV).length : Nat) : Int) := of_decide_eq_true c1
        rw [List.length_map] at c1
        have df : D ≠ f := F4.ne nD
        refine ⟨_, rfl, .inl ⟨rfl, _, SqL.of hal5⟩, _, rfl, _, rfl, _, rfl, D, _, rfl, .inl (SqL.of esom), f, c, _, rfl, by rw [List.length_map]; omega, by rw [List.length_map]; exact log_small (by omega), F5, fun y H6 y0 y1 F6 B6 => ?_⟩
        rw [List.length_map] at y1
        obtain ⟨yk, rfl⟩ : ∃ k : Nat, y = ((k : Nat) : Int) := ⟨y.toNat, by omega⟩
        have yl : yk < som.length := by omega
        have eyk : som[yk]? = some som[yk] := List.getElem?_eq_getElem yl
        have nb := hsom _ (List.getElem_mem yl)
        have hal6 := B6 _ _ hal5 af
        refine ⟨D, _, _, _, rfl, rfl, SqL.of (B6 _ _ esom df), atI_nat (by rw [List.getElem?_map, eyk]; rfl), al, _, _, rfl, rfl, hal6, by rw [List.length_map]; exact small1000 (by omega), ?_⟩
        have B7 : But f H (upd H6 al (.lst (ns.map nV ++ [nV som[yk]]))) := ((B4.same s5).trans B6).own al0
        have K7 := TK.but hF B7
        have ebn : bs[som[yk]]? = some bs[som[yk]] := List.getElem?_eq_getElem nb
        obtain ⟨x, ex, ⟨t2, g2, rfl, e1, e2⟩⟩ := alb.get ebn
        refine ⟨_, rfl, r, _, _, _, rfl, rfl, SqT.of (K7 _ _ er), atI_nat (j := 1) rfl, _, rfl, _, rfl, al, _, _, _, rfl, rfl, SqL.of upd_same, atI_last _ _, ba, _, _, _, rfl, rfl, SqT.of (K7 _ _ eb), atI_nat ex, t2, _, _, _, rfl, rfl, SqT.of (K7 _ _ e1), atI_nat (j := 1) rfl, ?_⟩
        refine ⟨bs[som[yk]].to, ns ++ [som[yk]], _, _, rfl, ?_, ?_, by rw [List.length_append]; show ns.length + 1 ≤ _; omega, F6.lst af ac, B7⟩
        · rw [upd_same, List.map_append]; rfl
        · intro n hm
          rcases List.mem_append.mp hm with hm | hm
          · exact hn n hm
          · obtain rfl : n = som[yk] := by simpa using hm
            exact nb
      · exact ⟨cur, ns, _, _, rfl, hal5, hn, by omega, F5, B4.same s5⟩
  · rintro σ H4 ⟨cur, ns, v6, v7, rfl, hal, hn, ln, F4, B4⟩
    refine ⟨_, rfl, _, rfl, al, _, rfl, .inl ⟨SqL.of hal, fun p np => ⟨(by show 2 ≤ sizeLine; decide), fun p2 np2 => ?_⟩⟩⟩
    exact q p2 k ns _ ⟨p, upd_same, same_new np2 _ _ upd_same⟩ (by omega) hn (by omega) ((F4.new np).new np2) ((B4.new np).new np2)
def sp_law_way_otherwise (K : PySem.W.Frag) : Sp := fun vs H Q _ => ∃ (f c r t : Addr) (hs : List HR) (bs : List BR) (k : Nat) (ns : List Nat), vs = [.ref f, .ref r, .ref t] ∧ Flow H f c ∧ RoomAt H r hs bs ∧ RoomOk hs bs ∧ 0 < hs.length ∧ PairAt H t k ns ∧ k < hs.length ∧ (∀ n ∈ ns, n < bs.length) ∧ ns.length ≤ 100 ∧
  ∀ (p : Addr) (k : Nat) (ms : List Nat) (H' : Hp), PairAt H' p k ms → k < hs.length → (∀ n ∈ ms, n < bs.length) → ms.length ≤ ns.length + 1 → Flow H' f c → But f H H' → Q (.ref p) H'
theorem ok_law_way_otherwise {f : Addr} {fd : FuncData} (F : Fun K "_law_way_otherwise" "_law_way_otherwise" s_law_way_otherwise f fd) (T : Top K mg) : FnOk P w K mg base CX0 2 f fd ["_law_flow_here", "_law_room_here", "_law_way"] (sp_law_way_otherwise K) := by
  obtain ⟨f_law_pick, fd_law_pick, F_law_pick, b_law_pick, m_law_pick⟩ := T.d_law_pick
  have G_law_pick := ok_law_pick (P := P) (w := w) (base := base) F_law_pick T
  refine F.ok sc_law_way_otherwise (fun vs H Q E h => ?_) (fun cdv A outer s H vs Q E hr h => ?_)
  · obtain ⟨f, c, r, t, hs, bs, k, ns, rfl, _⟩ := h
    rfl
  obtain ⟨f, c, r, t, hs, bs, k, ns, rfl, hF, hR, ok, pos, ⟨g, et, eg⟩, hk, hn, ln, q⟩ := h
  obtain ⟨ha, ba, hv, bv, er, eh, eb, alh, alb⟩ := hR.ex
  have lhv := alh.length
  have lbv := alb.length
  have lh := ok.hands
  have lb := ok.many
  have lg1 : (((ns.map nV).length : Nat) + 1 : Int).natAbs.log2 < 9000 := by
    rw [List.length_map]
    exact log_small (m := ns.length + 1) (by omega)
  refine ⟨_, (pss_cons (ps_set (i := 3) sc_law_way_otherwise.nd rfl (Or.inl rfl) (pe_call G_law_pick (hr.mono (by decide)) (by rfl) m_law_pick F_law_pick.kp b_law_pick .nil pass0 (pa_cons (pv 0) (pa_cons pe_int pa_nil))))
      (pss_cons (ps_set (i := 4) sc_law_way_otherwise.nd rfl (Or.inl rfl) (pe_call G_law_pick (hr.mono (by decide)) (by rfl) m_law_pick F_law_pick.kp b_law_pick .nil pass0 (pa_cons (pv 0) (pa_cons (pe_op op_add (pe_callB (call_len_seqK K rfl) (by rfl) T.m_len (by decide +kernel) (pa_cons (pe_ix (ix_tupK K rfl) (pv 2) pe_int (fun _ _ => rfl)) pa_nil)) pe_int) pa_nil))))
      (pss_cons (ps_if (pt_cmpR op_eq (pv 3) pe_int (nomark _)) (pss_one (ps_ret (pe_tup (pa_cons (pe_ix (ix_tupK K rfl) (pv 2) pe_int (fun _ _ => rfl)) (pa_cons (pe_tup pa_nil) pa_nil))))) pss_nil)
      (pss_cons (ps_if (PW.pt (pw_or (pt_cmpR op_eq (pv 3) pe_int (nomark _)) (pw_or1 (pt_cmpR op_eq (pe_callB (call_len_seqK K rfl) (by rfl) T.m_len (by decide +kernel) (pa_cons (pe_ix (ix_tupK K rfl) (pv 1) pe_int (fun _ _ => rfl)) pa_nil)) pe_int (nomark _))))) (pss_one (ps_ret (pe_tup (pa_cons (pe_call G_law_pick (hr.mono (by decide)) (by rfl) m_law_pick F_law_pick.kp b_law_pick .nil pass0 (pa_cons (pv 0) (pa_cons (pe_callB (call_len_seqK K rfl) (by rfl) T.m_len (by decide +kernel) (pa_cons (pe_ix (ix_tupK K rfl) (pv 1) pe_int (fun _ _ => rfl)) pa_nil)) pa_nil))) (pa_cons (pe_ix (ix_tupK K rfl) (pv 2) pe_int (fun _ _ => rfl)) pa_nil))))) pss_nil)
      (pss_cons (ps_set (i := 5) sc_law_way_otherwise.nd rfl (Or.inl rfl) (pe_call G_law_pick (hr.mono (by decide)) (by rfl) m_law_pick F_law_pick.kp b_law_pick .nil pass0 (pa_cons (pv 0) (pa_cons (pe_callB (call_len_seqK K rfl) (by rfl) T.m_len (by decide +kernel) (pa_cons (pe_ix (ix_tupK K rfl) (pv 1) pe_int (fun _ _ => rfl)) pa_nil)) pa_nil))))
      (pss_cons (ps_if (pt_cmpR op_eq (pv 3) pe_int (nomark _)) (pss_one (ps_ret (pe_tup (pa_cons (pe_ix (ix_tupK K rfl) (pv 2) pe_int (fun _ _ => rfl)) (pa_cons (pe_op (op_catAK K rfl) (pe_slice (sl_tupAK K rfl) (pe_ix (ix_tupK K rfl) (pv 2) pe_int (fun _ _ => rfl)) po_none (po_some (pv 4))) (pe_slice (sl_tupAK K rfl) (pe_ix (ix_tupK K rfl) (pv 2) pe_int (fun _ _ => rfl)) (po_some (pe_op op_add (pv 4) pe_int)) po_none)) pa_nil))))) pss_nil)
      (pss_cons (ps_if (pt_cmpR op_eq (pv 3) pe_int (nomark _)) (pss_one (ps_ret (pe_tup (pa_cons (pe_ix (ix_tupK K rfl) (pv 2) pe_int (fun _ _ => rfl)) (pa_cons (pe_op (op_catAK K rfl) (pe_op (op_catAK K rfl) (pe_slice (sl_tupAK K rfl) (pe_ix (ix_tupK K rfl) (pv 2) pe_int (fun _ _ => rfl)) po_none (po_some (pv 4))) (pe_tup (pa_cons (pv 5) pa_nil))) (pe_slice (sl_tupAK K rfl) (pe_ix (ix_tupK K rfl) (pv 2) pe_int (fun _ _ => rfl)) (po_some (pv 4)) po_none)) pa_nil))))) pss_nil)
      (pss_cons (ps_if (pt_cmpR op_eq (pv 3) pe_int (nomark _)) (pss_one (ps_ret (pe_tup (pa_cons (pe_ix (ix_tupK K rfl) (pv 2) pe_int (fun _ _ => rfl)) (pa_cons (pe_op (op_catAK K rfl) (pe_op (op_catAK K rfl) (pe_slice (sl_tupAK K rfl) (pe_ix (ix_tupK K rfl) (pv 2) pe_int (fun _ _ => rfl)) po_none (po_some (pv 4))) (pe_tup (pa_cons (pv 5) pa_nil))) (pe_slice (sl_tupAK K rfl) (pe_ix (ix_tupK K rfl) (pv 2) pe_int (fun _ _ => rfl)) (po_some (pe_op op_add (pv 4) pe_int)) po_none)) pa_nil))))) pss_nil)
      (pss_one (ps_ret (pe_tup (pa_cons (pe_ix (ix_tupK K rfl) (pv 2) pe_int (fun _ _ => rfl)) (pa_cons (pe_op (op_catAK K rfl) (pe_op (op_catAK K rfl) (pe_slice (sl_tupAK K rfl) (pe_ix (ix_tupK K rfl) (pv 2) pe_int (fun _ _ => rfl)) po_none (po_some (pv 4))) (pe_slice (sl_tupAK K rfl) (pe_ix (ix_tupK K rfl) (pv 2) pe_int (fun _ _ => rfl)) (po_some (pv 4)) (po_some (pe_op op_add (pv 4) pe_int)))) (pe_slice (sl_tupAK K rfl) (pe_ix (ix_tupK K rfl) (pv 2) pe_int (fun _ _ => rfl)) (po_some (pv 4)) po_none)) pa_nil))))))))))))), ?_⟩
  refine ⟨_, rfl, f, c, 6, rfl, by decide, by decide +kernel, hF, fun z H1 z0 z1 F1 B1 => ?_⟩
  have K1 := TK.but hF B1
  refine ⟨_, rfl, _, rfl, t, _, _, _, rfl, rfl, SqT.of (K1 _ _ et), atI_nat (j := 1) rfl, g, _, rfl, .inr (SqT.of (K1 _ _ eg)), _, _, rfl, rfl, f, c, _, rfl, by omega, lg1, F1, fun a H2 a0 a1 F2 B2 => ?_⟩
  rw [List.length_map] at a1
  obtain ⟨a, rfl⟩ : ∃ k : Nat, a = ((k : Nat) : Int) := ⟨a.toNat, by omega⟩
  have B2 := B1.trans B2
  have K2 := TK.but hF B2
  have et2 := K2 _ _ et
  have eg2 := K2 _ _ eg
  have done : ∀ (ms : List Nat) (u : Addr) (H4 : Hp), H4 u = some (.tup (ms.map nV)) → Flow H4 f c → But f H H4 → (∀ n ∈ ms, n < bs.length) → ms.length ≤ ns.length + 1 → ∀ p, H4 p = none → Q (.ref p) (upd H4 p (.tup [nV k, V.ref u])) := fun ms u H4 hu F4 B4 hm lm p np =>
    q p k ms _ ⟨u, upd_same, same_new np _ _ hu⟩ hk hm lm (F4.new np) (B4.new np)
  refine ⟨_, rfl, rfl, _, rfl, if_bl (fun _ => ?_) (fun _ => ?_)⟩
  · refine ⟨_, rfl, t, _, _, _, rfl, rfl, SqT.of et2, atI_nat (j := 0) rfl, (by show 0 ≤ sizeLine; decide), fun u nu => ⟨(by show 2 ≤ sizeLine; decide), fun p np => ?_⟩⟩
    exact done [] u _ upd_same (F2.new nu) (B2.new nu) (fun _ z => nomatch z) (Nat.zero_le _) p np
  have other : ∀ (v : Int) (H4 : Hp), 0 ≤ v → v < ((hv.length : Nat) : Int) → Flow H4 f c → But f H2 H4 → ∀ p, H4 p = none → Q (.ref p) (upd H4 p (.tup [V.int v, V.ref g])) := fun v H4 v0 v1 F4 B4 p np => by
    obtain ⟨v, rfl⟩ : ∃ k : Nat, v = ((k : Nat) : Int) := ⟨v.toNat, by omega⟩
    exact q p v ns _ ⟨g, upd_same, same_new np _ _ (TK.but F2 B4 _ _ eg2)⟩ (by omega) hn (by omega) (F4.new np) ((B2.trans B4).new np)
  refine ⟨_, rfl, rfl, _, rfl, if_bl (fun _ => ?_) (fun _ => ?_)⟩
  · exact if_bl (fun _ => ⟨_, rfl, _, rfl, r, _, _, _, rfl, rfl, SqT.of (K2 _ _ er), atI_nat (j := 0) rfl, ha, _, rfl, .inr (SqT.of (K2 _ _ eh)), f, c, _, rfl, by omega, log_small (by omega), F2, fun v H4 v0 v1 F4 B4 => ⟨_, rfl, t, _, _, _, rfl, rfl, SqT.of (TK.but F2 B4 _ _ et2), atI_nat (j := 1) rfl, (by show 2 ≤ sizeLine; decide), fun p np => other v H4 v0 v1 F4 B4 p np⟩⟩) (fun z => nomatch z)
  refine ⟨_, rfl, r, _, _, _, rfl, rfl, SqT.of (K2 _ _ er), atI_nat (j := 1) rfl, ba, _, rfl, .inr (SqT.of (K2 _ _ eb)), rfl, _, rfl, if_bl (fun _ => ?_) (fun cb => ?_)⟩
  · exact ⟨_, rfl, _, rfl, r, _, _, _, rfl, rfl, SqT.of (K2 _ _ er), atI_nat (j := 0) rfl, ha, _, rfl, .inr (SqT.of (K2 _ _ eh)), f, c, _, rfl, by omega, log_small (by omega), F2, fun v H4 v0 v1 F4 B4 => ⟨_, rfl, t, _, _, _, rfl, rfl, SqT.of (TK.but F2 B4 _ _ et2), atI_nat (j := 1) rfl, (by show 2 ≤ sizeLine; decide), fun p np => other v H4 v0 v1 F4 B4 p np⟩⟩
  have cb : 0 < bs.length := by
    have := of_decide_eq_false cb
    refine Nat.pos_of_ne_zero fun z => this ?_
    rw [lbv, z]
    rfl
  refine ⟨_, rfl, _, rfl, r, _, _, _, rfl, rfl, SqT.of (K2 _ _ er), atI_nat (j := 1) rfl, ba, _, rfl, .inr (SqT.of (K2 _ _ eb)), f, c, _, rfl, by omega, log_small (by omega), F2, fun b H3 b0 b1 F3 B3 => ?_⟩
  obtain ⟨b, rfl⟩ : ∃ k : Nat, b = ((k : Nat) : Int) := ⟨b.toNat, by omega⟩
  have B3 := B2.trans B3
  have K3 := TK.but hF B3
  have et3 := K3 _ _ et
  have eg3 := K3 _ _ eg
  have hb : ∀ (xs ys : List Nat), (∀ n ∈ xs, n ∈ ns) → (∀ n ∈ ys, n ∈ ns) → ∀ n ∈ xs ++ [b] ++ ys, n < bs.length := fun xs ys h1 h2 n hm => by
    rcases List.mem_append.mp hm with hm | hm
    · rcases List.mem_append.mp hm with hm | hm
      · exact hn n (h1 n hm)
      · rw [List.mem_singleton.mp hm]; omega
    · exact hn n (h2 n hm)
  refine ⟨_, rfl, rfl, _, rfl, if_bl (fun _ => ?_) (fun _ => ?_)⟩
  · refine ⟨_, rfl, t, _, _, _, rfl, rfl, SqT.of et3, atI_nat (j := 0) rfl, _, rfl, t, _, _, _, rfl, rfl, SqT.of et3, atI_nat (j := 1) rfl, _, rfl, _, rfl, slA_of eg3 fun p1 H4 h1 s1 => ?_⟩
    rw [cutT] at h1
    refine ⟨_, rfl, t, _, _, _, rfl, rfl, SqT.of (s1 _ _ et3), atI_nat (j := 1) rfl, _, rfl, _, _, rfl, rfl, _, rfl, ?_⟩
    dsimp only [tNoPart]
    refine slA_of (s1 _ _ eg3) fun p2 H5 h2 s2 => ?_
    rw [show ((a : Nat) : Int) + 1 = ((a + 1 : Nat) : Int) by omega, cutD] at h2
    refine catA_of (s2 _ _ h1) h2 (by rw [List.length_map, List.length_map, List.length_take, List.length_drop]; omega) fun p3 H6 h3 s3 => ?_
    rw [← List.map_append] at h3
    have s := (s1.trans s2).trans s3
    refine ⟨(by show 2 ≤ sizeLine; decide), fun p np => done _ p3 H6 h3 (F3.same s) (B3.same s) (fun n hm => ?_) ?_ p np⟩
    · rcases List.mem_append.mp hm with hm | hm
      · exact hn n (List.mem_of_mem_take hm)
      · exact hn n (List.mem_of_mem_drop hm)
    · rw [List.length_append, List.length_take, List.length_drop]; omega
  refine ⟨_, rfl, rfl, _, rfl, if_bl (fun _ => ?_) (fun _ => ?_)⟩
  · refine ⟨_, rfl, t, _, _, _, rfl, rfl, SqT.of et3, atI_nat (j := 0) rfl, _, rfl, t, _, _, _, rfl, rfl, SqT.of et3, atI_nat (j := 1) rfl, _, rfl, _, rfl, slA_of eg3 fun p1 H4 h1 s1 => ?_⟩
    rw [cutT] at h1
    refine ⟨_, rfl, (by show 1 ≤ sizeLine; decide), fun u nu => ?_⟩
    have s1u := s1.trans (same_new (o := .tup [nV b]) nu)
    refine catA_of (same_new nu _ _ h1) upd_same (by rw [List.length_map, List.length_take]; show _ + 1 ≤ 1000; omega) fun p2 H5 h2 s2 => ?_
    have s12 := s1u.trans s2
    refine ⟨_, rfl, t, _, _, _, rfl, rfl, SqT.of (s12 _ _ et3), atI_nat (j := 1) rfl, _, rfl, _, rfl, ?_⟩
    dsimp only [tNoPart]
    refine slA_of (s12 _ _ eg3) fun p3 H6 h3 s3 => ?_
    rw [cutD] at h3
    refine catA_of (s3 _ _ h2) h3 (by rw [List.length_append, List.length_map, List.length_map, List.length_take, List.length_drop]; show _ + 1 + _ ≤ 1000; omega) fun p4 H7 h4 s4 => ?_
    have s := s12.trans (s3.trans s4)
    have h4 : H7 p4 = some (.tup ((ns.take a ++ [b] ++ ns.drop a).map nV)) := by rw [h4, List.map_append, List.map_append]; rfl
    refine ⟨(by show 2 ≤ sizeLine; decide), fun p np => done _ p4 H7 h4 (F3.same s) (B3.same s) (hb _ _ (fun n hm => List.mem_of_mem_take hm) (fun n hm => List.mem_of_mem_drop hm)) ?_ p np⟩
    rw [List.length_append, List.length_append, List.length_take, List.length_drop]; show _ + 1 + _ ≤ _; omega
  refine ⟨_, rfl, rfl, _, rfl, if_bl (fun _ => ?_) (fun _ => ?_)⟩
  · refine ⟨_, rfl, t, _, _, _, rfl, rfl, SqT.of et3, atI_nat (j := 0) rfl, _, rfl, t, _, _, _, rfl, rfl, SqT.of et3, atI_nat (j := 1) rfl, _, rfl, _, rfl, slA_of eg3 fun p1 H4 h1 s1 => ?_⟩
    rw [cutT] at h1
    refine ⟨_, rfl, (by show 1 ≤ sizeLine; decide), fun u nu => ?_⟩
    have s1u := s1.trans (same_new (o := .tup [nV b]) nu)
    refine catA_of (same_new nu _ _ h1) upd_same (by rw [List.length_map, List.length_take]; show _ + 1 ≤ 1000; omega) fun p2 H5 h2 s2 => ?_
    have s12 := s1u.trans s2
    refine ⟨_, rfl, t, _, _, _, rfl, rfl, SqT.of (s12 _ _ et3), atI_nat (j := 1) rfl, _, rfl, _, _, rfl, rfl, _, rfl, ?_⟩
    dsimp only [tNoPart]
    refine slA_of (s12 _ _ eg3) fun p3 H6 h3 s3 => ?_
    rw [show ((a : Nat) : Int) + 1 = ((a + 1 : Nat) : Int) by omega, cutD] at h3
    refine catA_of (s3 _ _ h2) h3 (by rw [List.length_append, List.length_map, List.length_map, List.length_take, List.length_drop]; show _ + 1 + _ ≤ 1000; omega) fun p4 H7 h4 s4 => ?_
    have s := s12.trans (s3.trans s4)
    have h4 : H7 p4 = some (.tup ((ns.take a ++ [b] ++ ns.drop (a + 1)).map nV)) := by rw [h4, List.map_append, List.map_append]; rfl
    refine ⟨(by show 2 ≤ sizeLine; decide), fun p np => done _ p4 H7 h4 (F3.same s) (B3.same s) (hb _ _ (fun n hm => List.mem_of_mem_take hm) (fun n hm => List.mem_of_mem_drop hm)) ?_ p np⟩
    rw [List.length_append, List.length_append, List.length_take, List.length_drop]; show _ + 1 + _ ≤ _; omega
  · refine ⟨_, rfl, t, _, _, _, rfl, rfl, SqT.of et3, atI_nat (j := 0) rfl, _, rfl, t, _, _, _, rfl, rfl, SqT.of et3, atI_nat (j := 1) rfl, _, rfl, _, rfl, slA_of eg3 fun p1 H4 h1 s1 => ?_⟩
    rw [cutT] at h1
    refine ⟨_, rfl, t, _, _, _, rfl, rfl, SqT.of (s1 _ _ et3), atI_nat (j := 1) rfl, _, rfl, _, rfl, _, rfl, _, _, rfl, rfl, _, rfl, slA_of (s1 _ _ eg3) fun p2 H5 h2 s2 => ?_⟩
    obtain ⟨cs, ec, lc, hc⟩ := cutM ns a
    rw [ec] at h2
    refine catA_of (s2 _ _ h1) h2 (by rw [List.length_map, List.length_map, List.length_take]; omega) fun p3 H6 h3 s3 => ?_
    rw [← List.map_append] at h3
    have s13 := (s1.trans s2).trans s3
    refine ⟨_, rfl, t, _, _, _, rfl, rfl, SqT.of (s13 _ _ et3), atI_nat (j := 1) rfl, _, rfl, _, rfl, ?_⟩
    dsimp only [tNoPart]
    refine slA_of (s13 _ _ eg3) fun p4 H7 h4 s4 => ?_
    rw [cutD] at h4
    refine catA_of (s4 _ _ h3) h4 (by rw [List.length_map, List.length_map, List.length_append, List.length_take, List.length_drop]; omega) fun p5 H8 h5 s5 => ?_
    rw [← List.map_append] at h5
    have s := (s13.trans s4).trans s5
    refine ⟨(by show 2 ≤ sizeLine; decide), fun p np => done _ p5 H8 h5 (F3.same s) (B3.same s) (fun n hm => ?_) ?_ p np⟩
    · rcases List.mem_append.mp hm with hm | hm
      · rcases List.mem_append.mp hm with hm | hm
        · exact hn n (List.mem_of_mem_take hm)
        · exact hn n (hc n hm)
      · exact hn n (List.mem_of_mem_drop hm)
    · rw [List.length_append, List.length_append, List.length_take, List.length_drop]; omega
end
theorem RoomOk.fok {hs : List HR} {bs : List BR} (ok : RoomOk hs bs) : FOk hs bs := by
  refine ⟨⟨ok.hands, ok.good⟩, ok.ends, fun b hb z => ?_, fun b hb z => ?_, fun b hb => by have := (ok.th b hb).1; omega, ok.many⟩
  · obtain ⟨h, e, w⟩ := mem_doors.mp z
    exact ok.out b hb h e w
  · obtain ⟨h, e, w⟩ := mem_doors.mp z
    have cnt := ok.count _ _ e
    rw [w, show needs "in" = 0 by decide +kernel] at cnt
    have pos := List.count_pos_iff.mpr (List.mem_map.mpr ⟨b, hb, rfl⟩ : b.to ∈ bs.map BR.to)
    omega
theorem RoomOk.three58 {hs : List HR} {bs : List BR} (ok : RoomOk hs bs) : ∀ t, (bs.map BR.to).count t ≤ 3 := fun t => by
  by_cases c : t < hs.length
  · have e : hs[t]? = some hs[t] := List.getElem?_eq_getElem c
    have := ok.count t _ e
    have g : needs hs[t].wd ≤ 3 := by
      unfold needs
      split
      · decide
      · split
        · decide
        · split <;> decide
    omega
  · have : (bs.map BR.to).count t = 0 := by
      refine List.count_eq_zero.mpr fun z => ?_
      obtain ⟨b, hb, rfl⟩ := List.mem_map.mp z
      exact c (ok.ends b hb).2
    omega
theorem mid_all {H : Hp} {qv : List V} {ws : List Wk} (al : All2 (RgAt H) qv ws) (a : Nat) : ∃ cs : List Wk, All2 (RgAt H) (cutV qv (some ((a : Nat) : Int)) (some (((a : Nat) : Int) + 1))) cs ∧ cs.length ≤ 1 ∧ ∀ x ∈ cs, x ∈ ws := by
  refine ⟨(ws.drop (min a qv.length)).take (min (a + 1) qv.length - min a qv.length), ?_, ?_, fun x hx => List.mem_of_mem_drop (List.mem_of_mem_take hx)⟩
  · have e : cutV qv (some ((a : Nat) : Int)) (some (((a : Nat) : Int) + 1)) = (qv.drop (min a qv.length)).take (min (a + 1) qv.length - min a qv.length) := by
      unfold cutV
      rw [show ((a : Nat) : Int) + 1 = ((a + 1 : Nat) : Int) by omega, HT.sIx_nat, HT.sIx_nat]
    rw [e]
    exact (al.drop _).take _
  · rw [List.length_take, List.length_drop]
    omega
structure WkN (hs : List HR) (bs : List BR) (N : Nat) (x : Wk) : Prop where
  k : x.1 < hs.length
  lt : ∀ n ∈ x.2, n < bs.length
  ln : x.2.length ≤ N
theorem WkN.mono {hs : List HR} {bs : List BR} {N M : Nat} {x : Wk} (h : WkN hs bs N x) (m : N ≤ M) : WkN hs bs M x := ⟨h.k, h.lt, Nat.le_trans h.ln m⟩
theorem WkN.ok {hs : List HR} {bs : List BR} {N : Nat} {x : Wk} (h : WkN hs bs N x) (m : N ≤ 60) : WkOk hs bs x := ⟨h.k, h.lt, Nat.le_trans h.ln m⟩
section
variable {P : Program} {w : World} {K : PySem.W.Frag} {mg : Str → Option Value} {base : Heap}
def sp_law_late (K : PySem.W.Frag) : Sp := fun vs H Q _ => ∃ f c : Addr, vs = [.ref f] ∧ Flow H f c ∧ ∀ (late : Option Nat) (H' : Hp), Flow H' f c → But f H H' → Q (lateV late) H'
theorem ok_law_late {f : Addr} {fd : FuncData} (F : Fun K "_law_late" "_law_late" s_law_late f fd) (T : Top K mg) : FnOk P w K mg base CX0 2 f fd ["_law_flow_here"] (sp_law_late K) := by
  obtain ⟨f_law_pick, fd_law_pick, F_law_pick, b_law_pick, m_law_pick⟩ := T.d_law_pick
  have G_law_pick := ok_law_pick (P := P) (w := w) (base := base) F_law_pick T
  refine F.ok sc_law_late (fun vs H Q E h => ?_) (fun cdv A outer s H vs Q E hr h => ?_)
  · obtain ⟨f, c, rfl, _⟩ := h
    rfl
  obtain ⟨f, c, rfl, hF, q⟩ := h
  refine ⟨_, (pss_one (ps_ret (pe_ix (ix_listK K rfl) (pe_lst (pa_cons pe_non (pa_cons pe_int (pa_cons pe_int (pa_cons pe_int (pa_cons (pe_call G_law_pick (hr.mono (by decide)) (by rfl) m_law_pick F_law_pick.kp b_law_pick .nil pass0 (pa_cons (pv 0) (pa_cons pe_int pa_nil))) pa_nil)))))) (pe_call G_law_pick (hr.mono (by decide)) (by rfl) m_law_pick F_law_pick.kp b_law_pick .nil pass0 (pa_cons (pv 0) (pa_cons pe_int pa_nil))) (fun _ _ => rfl)))), ?_⟩
  refine ⟨_, rfl, f, c, 7, rfl, by decide, by decide +kernel, hF, fun v1 H1 x0 x1 F1 B1 => ?_⟩
  refine ⟨(by show 5 ≤ sizeLine; decide), fun l nl => ?_⟩
  have F2 := F1.new (o := .lst [V.non, V.int 0, V.int 1, V.int 2, V.int v1]) nl
  have lf := F1.ne nl
  refine ⟨_, rfl, f, c, 5, rfl, by decide, by decide +kernel, F2, fun v H3 v0 v1' F3 B3 => ?_⟩
  obtain ⟨late, hl⟩ : ∃ late : Option Nat, atI [V.non, V.int 0, V.int 1, V.int 2, V.int v1] v = some (lateV late) := by
    rcases (show v = 0 ∨ v = 1 ∨ v = 2 ∨ v = 3 ∨ v = 4 by omega) with rfl | rfl | rfl | rfl | rfl
    · exact ⟨none, rfl⟩
    · exact ⟨some 0, rfl⟩
    · exact ⟨some 1, rfl⟩
    · exact ⟨some 2, rfl⟩
    · refine ⟨some v1.toNat, ?_⟩
      show some (V.int v1) = some (V.int ((v1.toNat : Nat) : Int))
      rw [Int.toNat_of_nonneg x0]
  exact ⟨l, _, _, _, rfl, rfl, SqL.of (B3 _ _ upd_same lf), hl, q late H3 F3 (But.trans (But.trans B1 (But.of (same_new nl))) B3)⟩
def sp_law_walk_otherwise (K : PySem.W.Frag) : Sp := fun vs H Q _ => ∃ (f c r wp : Addr) (hs : List HR) (bs : List BR) (qv : List V) (ws : List Wk) (N : Nat), vs = [.ref f, .ref r, .ref wp] ∧ Flow H f c ∧ RoomAt H r hs bs ∧ RoomOk hs bs ∧ 0 < hs.length ∧ H wp = some (.tup qv) ∧ All2 (RgAt H) qv ws ∧ ws.length ≤ 50 ∧ 3 ≤ N ∧ N ≤ 50 ∧ (∀ x ∈ ws, WkN hs bs N x) ∧
  ∀ (p : Addr) (qv' : List V) (ws' : List Wk) (H' : Hp), H' p = some (.tup qv') → All2 (RgAt H') qv' ws' → ws'.length ≤ ws.length + 1 → (∀ x ∈ ws', WkN hs bs (N + 1) x) → Flow H' f c → But f H H' → Q (.ref p) H'
theorem ok_law_walk_otherwise {f : Addr} {fd : FuncData} (F : Fun K "_law_walk_otherwise" "_law_walk_otherwise" s_law_walk_otherwise f fd) (T : Top K mg) : FnOk P w K mg base CX0 3 f fd ["_law_flow_here", "_law_room_here", "_law_walk"] (sp_law_walk_otherwise K) := by
  obtain ⟨f_law_pick, fd_law_pick, F_law_pick, b_law_pick, m_law_pick⟩ := T.d_law_pick
  have G_law_pick := ok_law_pick (P := P) (w := w) (base := base) F_law_pick T
  obtain ⟨f_law_way_otherwise, fd_law_way_otherwise, F_law_way_otherwise, b_law_way_otherwise, m_law_way_otherwise⟩ := T.d_law_way_otherwise
  have G_law_way_otherwise := ok_law_way_otherwise (P := P) (w := w) (base := base) F_law_way_otherwise T
  obtain ⟨f_law_any_way, fd_law_any_way, F_law_any_way, b_law_any_way, m_law_any_way⟩ := T.d_law_any_way
  have G_law_any_way := ok_law_any_way (P := P) (w := w) (base := base) F_law_any_way T
  refine F.ok sc_law_walk_otherwise (fun vs H Q E h => ?_) (fun cdv A outer s H vs Q E hr h => ?_)
  · obtain ⟨f, c, r, wp, hs, bs, qv, ws, N, rfl, _⟩ := h
    rfl
  obtain ⟨f, c, r, wp, hs, bs, qv, ws, N, rfl, hF, hR, ok, pos, hw, alp, lws, N3, N50, wok, q⟩ := h
  have lqv := alp.length
  have lg1 : (((qv.length : Nat) : Int) + 1).natAbs.log2 < 9000 := log_small (m := qv.length + 1) (by omega)
  refine ⟨_, (pss_cons (ps_set (i := 3) sc_law_walk_otherwise.nd rfl (Or.inl rfl) (pe_call G_law_pick (hr.mono (by decide)) (by rfl) m_law_pick F_law_pick.kp b_law_pick .nil pass0 (pa_cons (pv 0) (pa_cons pe_int pa_nil))))
      (pss_cons (ps_set (i := 4) sc_law_walk_otherwise.nd rfl (Or.inl rfl) (pe_call G_law_pick (hr.mono (by decide)) (by rfl) m_law_pick F_law_pick.kp b_law_pick .nil pass0 (pa_cons (pv 0) (pa_cons (pe_op op_add (pe_callB (call_len_seqK K rfl) (by rfl) T.m_len (by decide +kernel) (pa_cons (pv 2) pa_nil)) pe_int) pa_nil))))
      (pss_cons (ps_if (pt_cmpR op_eq (pv 3) pe_int (nomark _)) (pss_one (ps_ret (pe_op (op_catAK K rfl) (pe_slice (sl_tupAK K rfl) (pv 2) po_none (po_some (pv 4))) (pe_slice (sl_tupAK K rfl) (pv 2) (po_some (pe_op op_add (pv 4) pe_int)) po_none)))) pss_nil)
      (pss_cons (ps_if (pt_cmpR op_eq (pv 3) pe_int (nomark _)) (pss_one (ps_ret (pe_op (op_catAK K rfl) (pe_op (op_catAK K rfl) (pe_slice (sl_tupAK K rfl) (pv 2) po_none (po_some (pv 4))) (pe_tup (pa_cons (pe_call G_law_any_way (hr.mono (by decide)) (by rfl) m_law_any_way F_law_any_way.kp b_law_any_way .nil pass0 (pa_cons (pv 0) (pa_cons (pv 1) (pa_cons pe_int pa_nil)))) pa_nil))) (pe_slice (sl_tupAK K rfl) (pv 2) (po_some (pv 4)) po_none)))) pss_nil)
      (pss_cons (ps_if (pt_cmpR op_eq (pv 3) pe_int (nomark _)) (pss_one (ps_ret (pe_op (op_catAK K rfl) (pe_slice (sl_tupAK K rfl) (pv 2) (po_some (pv 4)) po_none) (pe_slice (sl_tupAK K rfl) (pv 2) po_none (po_some (pv 4)))))) pss_nil)
      (pss_cons (ps_if (PW.pt (pw_or (pt_cmpR op_eq (pv 3) pe_int (nomark _)) (pw_or1 (pt_cmpR op_eq (pv 4) (pe_callB (call_len_seqK K rfl) (by rfl) T.m_len (by decide +kernel) (pa_cons (pv 2) pa_nil)) (nomark _))))) (pss_one (ps_ret (pe_op (op_catAK K rfl) (pe_op (op_catAK K rfl) (pe_slice (sl_tupAK K rfl) (pv 2) po_none (po_some (pv 4))) (pe_slice (sl_tupAK K rfl) (pv 2) (po_some (pv 4)) (po_some (pe_op op_add (pv 4) pe_int)))) (pe_slice (sl_tupAK K rfl) (pv 2) (po_some (pv 4)) po_none)))) pss_nil)
      (pss_one (ps_ret (pe_op (op_catAK K rfl) (pe_op (op_catAK K rfl) (pe_slice (sl_tupAK K rfl) (pv 2) po_none (po_some (pv 4))) (pe_tup (pa_cons (pe_call G_law_way_otherwise (hr.mono (by decide)) (by rfl) m_law_way_otherwise F_law_way_otherwise.kp b_law_way_otherwise .nil pass0 (pa_cons (pv 0) (pa_cons (pv 1) (pa_cons (pe_ix (ix_tupK K rfl) (pv 2) (pv 4) (fun _ _ => rfl)) pa_nil)))) pa_nil))) (pe_slice (sl_tupAK K rfl) (pv 2) (po_some (pe_op op_add (pv 4) pe_int)) po_none)))))))))), ?_⟩
  refine ⟨_, rfl, f, c, 6, rfl, by decide, by decide +kernel, hF, fun z H1 z0 z1 F1 B1 => ?_⟩
  have K1 := TK.but hF B1
  refine ⟨_, rfl, _, rfl, wp, _, rfl, .inr (SqT.of (K1 _ _ hw)), _, _, rfl, rfl, f, c, _, rfl, by omega, lg1, F1, fun a H2 a0 a1 F2 B2 => ?_⟩
  obtain ⟨a, rfl⟩ : ∃ k : Nat, a = ((k : Nat) : Int) := ⟨a.toNat, by omega⟩
  have B2 := B1.trans B2
  have K2 := TK.but hF B2
  have hw2 := K2 _ _ hw
  have al2 := alp.imp fun _ _ z => z.keep K2
  have up : ∀ x ∈ ws, WkN hs bs (N + 1) x := fun x hx => (wok x hx).mono (Nat.le_succ N)
  have cd1 : cutV qv (some (((a : Nat) : Int) + 1)) none = qv.drop (a + 1) := by rw [show ((a : Nat) : Int) + 1 = ((a + 1 : Nat) : Int) by omega, cut_drop]
  refine ⟨_, rfl, rfl, _, rfl, if_bl (fun _ => ?_) (fun _ => ?_)⟩
  · refine ⟨_, rfl, ?_⟩
    dsimp only [tNoPart]
    refine ⟨_, rfl, _, rfl, slA_of hw2 fun p1 H3 h1 s3 => ?_⟩
    rw [cut_take] at h1
    refine ⟨_, rfl, _, rfl, _, _, rfl, rfl, ?_⟩
    dsimp only [tNoPart]
    refine ⟨_, rfl, slA_of (s3 _ _ hw2) fun p2 H4 h2 s4 => ?_⟩
    rw [cd1] at h2
    refine catA_of (s4 _ _ h1) h2 (by rw [List.length_take, List.length_drop]; omega) fun p3 H5 h3 s5 => ?_
    have s25 := (s3.trans s4).trans s5
    refine q p3 _ (ws.take a ++ ws.drop (a + 1)) H5 h3 ((al2.take a).app (al2.drop (a + 1)) |>.imp fun _ _ z => z.keep (TK.same s25)) (by rw [List.length_append, List.length_take, List.length_drop]; omega) (fun x hx => ?_) (F2.same s25) (B2.same s25)
    exact up x ((List.mem_append.mp hx).elim List.mem_of_mem_take List.mem_of_mem_drop)
  refine ⟨_, rfl, rfl, _, rfl, if_bl (fun _ => ?_) (fun _ => ?_)⟩
  · refine ⟨_, rfl, ?_⟩
    dsimp only [tNoPart]
    refine ⟨_, rfl, _, rfl, slA_of hw2 fun p1 H3 h1 s3 => ?_⟩
    rw [cut_take] at h1
    refine ⟨_, rfl, _, rfl, f, c, r, hs, bs, 3, rfl, by decide, by decide, F2.same s3, hR.keep (K2.trans (TK.same s3)), ok, pos, fun p2 k ms H4 h2 hk hm lm F4 B4 => ?_⟩
    have K4 := TK.but (F2.same s3) B4
    refine ⟨(by show 1 ≤ sizeLine; decide), fun p3 np3 => ?_⟩
    have s5 := same_new (o := .tup [V.ref p2]) np3
    refine catA_of (s5 _ _ (K4 _ _ h1)) upd_same (by rw [List.length_take]; show _ + 1 ≤ 1000; omega) fun p4 H6 h4 s6 => ?_
    have s46 := s5.trans s6
    have k26 : TK H2 H6 := ((TK.same s3).trans K4).trans (TK.same s46)
    refine ⟨_, rfl, _, rfl, ?_⟩
    dsimp only [tNoPart]
    refine ⟨_, rfl, slA_of (k26 _ _ hw2) fun p5 H7 h5 s7 => ?_⟩
    rw [cut_drop] at h5
    refine catA_of (s7 _ _ h4) h5 (by rw [List.length_append, List.length_take, List.length_drop]; show _ + 1 + _ ≤ 1000; omega) fun p6 H8 h6 s8 => ?_
    have s48 := s46.trans (s7.trans s8)
    have k28 : TK H2 H8 := k26.trans (TK.same (s7.trans s8))
    have b28 : But f H2 H8 := (But.trans (But.of s3) B4).same s48
    refine q p6 _ (ws.take a ++ [(k, ms)] ++ ws.drop a) H8 h6 ?_ (by rw [List.length_append, List.length_append, List.length_take, List.length_drop]; show _ + 1 + _ ≤ _; omega) (fun x hx => ?_) (F4.same s48) (B2.trans b28)
    · refine ((al2.take a).imp fun _ _ z => z.keep k28).app (.cons ⟨p2, rfl, h2.keep (TK.same s48)⟩ .nil) |>.app ((al2.drop a).imp fun _ _ z => z.keep k28)
    · rcases List.mem_append.mp hx with hx | hx
      · rcases List.mem_append.mp hx with hx | hx
        · exact up x (List.mem_of_mem_take hx)
        · obtain rfl := List.mem_singleton.mp hx
          exact ⟨hk, hm, by show ms.length ≤ N + 1; omega⟩
      · exact up x (List.mem_of_mem_drop hx)
  refine ⟨_, rfl, rfl, _, rfl, if_bl (fun _ => ?_) (fun _ => ?_)⟩
  · refine ⟨_, rfl, _, rfl, ?_⟩
    dsimp only [tNoPart]
    refine ⟨_, rfl, slA_of hw2 fun p1 H3 h1 s3 => ?_⟩
    rw [cut_drop] at h1
    refine ⟨_, rfl, ?_⟩
    dsimp only [tNoPart]
    refine ⟨_, rfl, _, rfl, slA_of (s3 _ _ hw2) fun p2 H4 h2 s4 => ?_⟩
    rw [cut_take] at h2
    refine catA_of (s4 _ _ h1) h2 (by rw [List.length_take, List.length_drop]; omega) fun p3 H5 h3 s5 => ?_
    have s25 := (s3.trans s4).trans s5
    refine q p3 _ (ws.drop a ++ ws.take a) H5 h3 ((al2.drop a).app (al2.take a) |>.imp fun _ _ z => z.keep (TK.same s25)) (by rw [List.length_append, List.length_take, List.length_drop]; omega) (fun x hx => ?_) (F2.same s25) (B2.same s25)
    exact up x ((List.mem_append.mp hx).elim List.mem_of_mem_drop List.mem_of_mem_take)
  obtain ⟨cs, alc, lc, cin⟩ := mid_all al2 a
  have fin : ∀ (p : Addr) (H5 : Hp), H5 p = some (.tup (qv.take a ++ cutV qv (some ((a : Nat) : Int)) (some (((a : Nat) : Int) + 1)) ++ qv.drop a)) → Same H2 H5 → Q (.ref p) H5 := fun p H5 h3 s25 => by
    refine q p _ (ws.take a ++ cs ++ ws.drop a) H5 h3 (((al2.take a).app alc).app (al2.drop a) |>.imp fun _ _ z => z.keep (TK.same s25)) (by rw [List.length_append, List.length_append, List.length_take, List.length_drop]; omega) (fun x hx => ?_) (F2.same s25) (B2.same s25)
    rcases List.mem_append.mp hx with hx | hx
    · rcases List.mem_append.mp hx with hx | hx
      · exact up x (List.mem_of_mem_take hx)
      · exact up x (cin x hx)
    · exact up x (List.mem_of_mem_drop hx)
  have lcc := alc.length
  refine ⟨_, rfl, rfl, _, rfl, if_bl (fun _ => ?_) (fun _ => ?_)⟩
  · refine if_bl (fun _ => ?_) (fun z => nomatch z)
    refine ⟨_, rfl, ?_⟩
    dsimp only [tNoPart]
    refine ⟨_, rfl, _, rfl, slA_of hw2 fun p1 H3 h1 s3 => ?_⟩
    rw [cut_take] at h1
    refine ⟨_, rfl, _, rfl, _, rfl, _, rfl, _, _, rfl, rfl, _, rfl, slA_of (s3 _ _ hw2) fun p2 H4 h2 s4 => ?_⟩
    refine catA_of (s4 _ _ h1) h2 (by rw [List.length_take]; omega) fun p3 H5 h3 s5 => ?_
    have s25 := (s3.trans s4).trans s5
    refine ⟨_, rfl, _, rfl, ?_⟩
    dsimp only [tNoPart]
    refine ⟨_, rfl, slA_of (s25 _ _ hw2) fun p4 H6 h4 s6 => ?_⟩
    rw [cut_drop] at h4
    refine catA_of (s6 _ _ h3) h4 (by rw [List.length_append, List.length_take, List.length_drop]; omega) fun p5 H7 h5 s7 => ?_
    exact fin p5 H7 h5 ((s25.trans s6).trans s7)
  refine ⟨_, rfl, _, rfl, wp, _, rfl, .inr (SqT.of hw2), rfl, _, rfl, if_bl (fun _ => ?_) (fun ne => ?_)⟩
  · skip
    refine ⟨_, rfl, ?_⟩
    dsimp only [tNoPart]
    refine ⟨_, rfl, _, rfl, slA_of hw2 fun p1 H3 h1 s3 => ?_⟩
    rw [cut_take] at h1
    refine ⟨_, rfl, _, rfl, _, rfl, _, rfl, _, _, rfl, rfl, _, rfl, slA_of (s3 _ _ hw2) fun p2 H4 h2 s4 => ?_⟩
    refine catA_of (s4 _ _ h1) h2 (by rw [List.length_take]; omega) fun p3 H5 h3 s5 => ?_
    have s25 := (s3.trans s4).trans s5
    refine ⟨_, rfl, _, rfl, ?_⟩
    dsimp only [tNoPart]
    refine ⟨_, rfl, slA_of (s25 _ _ hw2) fun p4 H6 h4 s6 => ?_⟩
    rw [cut_drop] at h4
    refine catA_of (s6 _ _ h3) h4 (by rw [List.length_append, List.length_take, List.length_drop]; omega) fun p5 H7 h5 s7 => ?_
    exact fin p5 H7 h5 ((s25.trans s6).trans s7)
  have al_ : a < qv.length := by
    have ne := of_decide_eq_false ne
    have : ((a : Nat) : Int) ≠ ((qv.length : Nat) : Int) := fun z => ne (congrArg V.int z)
    omega
  refine ⟨_, rfl, ?_⟩
  dsimp only [tNoPart]
  refine ⟨_, rfl, _, rfl, slA_of hw2 fun p1 H3 h1 s3 => ?_⟩
  rw [cut_take] at h1
  have ev : qv[a]? = some qv[a] := List.getElem?_eq_getElem al_
  obtain ⟨x, ex, ⟨p0, ep0, hp0⟩⟩ := al2.getL ev
  have xo := wok x (List.mem_of_getElem? ex)
  rw [ep0] at ev
  refine ⟨_, rfl, _, rfl, _, rfl, _, rfl, wp, _, _, _, rfl, rfl, SqT.of (s3 _ _ hw2), atI_nat ev, f, c, r, p0, hs, bs, x.1, x.2, rfl, F2.same s3, hR.keep (K2.trans (TK.same s3)), ok, pos, hp0.keep (TK.same s3), xo.k, xo.lt, by have := xo.ln; omega, fun p2 k ms H4 h2 hk hm lm F4 B4 => ?_⟩
  have K4 := TK.but (F2.same s3) B4
  refine ⟨(by show 1 ≤ sizeLine; decide), fun p3 np3 => ?_⟩
  have s5 := same_new (o := .tup [V.ref p2]) np3
  refine catA_of (s5 _ _ (K4 _ _ h1)) upd_same (by rw [List.length_take]; show _ + 1 ≤ 1000; omega) fun p4 H6 h4 s6 => ?_
  have s46 := s5.trans s6
  have k26 : TK H2 H6 := ((TK.same s3).trans K4).trans (TK.same s46)
  refine ⟨_, rfl, _, rfl, _, _, rfl, rfl, ?_⟩
  dsimp only [tNoPart]
  refine ⟨_, rfl, slA_of (k26 _ _ hw2) fun p5 H7 h5 s7 => ?_⟩
  rw [cd1] at h5
  refine catA_of (s7 _ _ h4) h5 (by rw [List.length_append, List.length_take, List.length_drop]; show _ + 1 + _ ≤ 1000; omega) fun p6 H8 h6 s8 => ?_
  have s48 := s46.trans (s7.trans s8)
  have k28 : TK H2 H8 := k26.trans (TK.same (s7.trans s8))
  have b28 : But f H2 H8 := (But.trans (But.of s3) B4).same s48
  refine q p6 _ (ws.take a ++ [(k, ms)] ++ ws.drop (a + 1)) H8 h6 ?_ (by rw [List.length_append, List.length_append, List.length_take, List.length_drop]; show _ + 1 + _ ≤ _; omega) (fun y hy => ?_) (F4.same s48) (B2.trans b28)
  · refine ((al2.take a).imp fun _ _ z => z.keep k28).app (.cons ⟨p2, rfl, h2.keep (TK.same s48)⟩ .nil) |>.app ((al2.drop (a + 1)).imp fun _ _ z => z.keep k28)
  · rcases List.mem_append.mp hy with hy | hy
    · rcases List.mem_append.mp hy with hy | hy
      · exact up y (List.mem_of_mem_take hy)
      · obtain rfl := List.mem_singleton.mp hy
        have := xo.ln
        exact ⟨hk, hm, by show ms.length ≤ N + 1; omega⟩
    · exact up y (List.mem_of_mem_drop hy)
def sp_law_is_small (K : PySem.W.Frag) : Sp := fun vs H Q _ => ∃ (wp : Addr) (qv : List V) (ws : List Wk), vs = [.ref wp] ∧ H wp = some (.tup qv) ∧ All2 (RgAt H) qv ws ∧ ws.length ≤ 60 ∧ ∀ (b : Bool) (H' : Hp), Same H H' → Q (.bl b) H'
theorem ok_law_is_small {f : Addr} {fd : FuncData} (F : Fun K "_law_is_small" "_law_is_small" s_law_is_small f fd) (T : Top K mg) : FnOk P w K mg base CX0 2 f fd ["_law_walk"] (sp_law_is_small K) := by
  obtain ⟨f_law_belts, fd_law_belts, F_law_belts, b_law_belts, m_law_belts⟩ := T.d_law_belts
  have G_law_belts := ok_law_belts (P := P) (w := w) (base := base) F_law_belts T
  refine F.ok sc_law_is_small (fun vs H Q E h => ?_) (fun cdv A outer s H vs Q E hr h => ?_)
  · obtain ⟨wp, qv, ws, rfl, _⟩ := h
    rfl
  obtain ⟨wp, qv, ws, rfl, hw, alp, lws, q⟩ := h
  refine ⟨_, (pss_one (ps_ret (pe_and (pe_cmpR op_lt (pe_callB (call_len_seqK K rfl) (by rfl) T.m_len (by decide +kernel) (pa_cons (pv 0) pa_nil)) pe_int (nomark _)) (pe_one (pe_cmpR op_lt (pe_call G_law_belts (hr.mono (by decide)) (by rfl) m_law_belts F_law_belts.kp b_law_belts .nil pass0 (pa_cons (pv 0) pa_nil)) pe_int (nomark _)))))), ?_⟩
  refine ⟨_, rfl, wp, _, rfl, .inr (SqT.of hw), _, _, rfl, rfl, _, rfl, if_bl (fun _ => ?_) (fun _ => q _ H (Same.refl _))⟩
  exact ⟨_, rfl, wp, qv, ws, rfl, hw, alp, lws, fun H1 s1 => ⟨_, _, rfl, rfl, q _ H1 s1⟩⟩
end
theorem PrB.walk {H : Hp} {pv : List V} {ys : List Wy} (al : All2 (PrB H) pv ys) : All2 (RgAt H) pv (ys.map fun y => (y.one, y.ns)) := by
  induction al with
  | nil => exact .nil
  | cons h t ih => exact .cons h ih
theorem log24 {n : Nat} (h : n < 2 ^ 24) : ((n : Int)).natAbs.log2 < 9000 := by
  rw [Int.natAbs_natCast]
  have : n.log2 ≤ 24 := by
    by_cases z : n = 0
    · subst z; decide
    · have := (Nat.log2_lt z (k := 24)).mpr h
      omega
  omega
/-- a walk of at most so many ways, each of at most so many belts -/
def WlP (N : Nat) (hs : List HR) (bs : List BR) (H : Hp) (v : V) : Prop := ∃ (p : Addr) (qv : List V) (ws : List Wk), v = .ref p ∧ H p = some (.tup qv) ∧ All2 (RgAt H) qv ws ∧ ws.length ≤ N ∧ ∀ x ∈ ws, WkN hs bs N x
theorem WlP.keep {N : Nat} {hs : List HR} {bs : List BR} {H H' : Hp} {v : V} (h : WlP N hs bs H v) (k : TK H H') : WlP N hs bs H' v := by
  obtain ⟨p, qv, ws, e, h1, h2, h3⟩ := h
  exact ⟨p, qv, ws, e, k _ _ h1, h2.imp fun _ _ z => z.keep k, h3⟩
theorem WlP.mono {N M : Nat} {hs : List HR} {bs : List BR} {H : Hp} {v : V} (h : WlP N hs bs H v) (m : N ≤ M) : WlP M hs bs H v := by
  obtain ⟨p, qv, ws, e, h1, h2, h3, h4⟩ := h
  exact ⟨p, qv, ws, e, h1, h2, Nat.le_trans h3 m, fun x hx => (h4 x hx).mono m⟩
section
variable {P : Program} {w : World} {K : PySem.W.Frag} {mg : Str → Option Value} {base : Heap}
def sp_law_begun (K : PySem.W.Frag) : Sp := fun vs H Q _ => ∃ (f c r : Addr) (hs : List HR) (bs : List BR) (late : Option Nat), vs = [.ref f, .ref r, lateV late] ∧ Flow H f c ∧ RoomAt H r hs bs ∧ RoomOk hs bs ∧ 0 < hs.length ∧ ∀ (v : V) (H' : Hp), WlP 12 hs bs H' v → Flow H' f c → But f H H' → Q v H'
theorem ok_law_begun {f : Addr} {fd : FuncData} (F : Fun K "_law_begun" "_law_begun" s_law_begun f fd) (T : Top K mg) : FnOk P w K mg base CX0 4 f fd ["_law_flow_here", "_law_room_here", "_law_late_here"] (sp_law_begun K) := by
  obtain ⟨f_full_shifts, fd_full_shifts, F_full_shifts, b_full_shifts, m_full_shifts⟩ := T.d_full_shifts
  have G_full_shifts := ok_full_shifts (P := P) (w := w) (base := base) F_full_shifts T
  obtain ⟨f_law_is_small, fd_law_is_small, F_law_is_small, b_law_is_small, m_law_is_small⟩ := T.d_law_is_small
  have G_law_is_small := ok_law_is_small (P := P) (w := w) (base := base) F_law_is_small T
  obtain ⟨f_law_rings, fd_law_rings, F_law_rings, b_law_rings, m_law_rings⟩ := T.d_law_rings
  have G_law_rings := ok_law_rings (P := P) (w := w) (base := base) F_law_rings T
  obtain ⟨f_law_pick, fd_law_pick, F_law_pick, b_law_pick, m_law_pick⟩ := T.d_law_pick
  have G_law_pick := ok_law_pick (P := P) (w := w) (base := base) F_law_pick T
  obtain ⟨f_law_any_way, fd_law_any_way, F_law_any_way, b_law_any_way, m_law_any_way⟩ := T.d_law_any_way
  have G_law_any_way := ok_law_any_way (P := P) (w := w) (base := base) F_law_any_way T
  refine F.ok sc_law_begun (fun vs H Q E h => ?_) (fun cdv A outer s H vs Q E hr h => ?_)
  · obtain ⟨f, c, r, hs, bs, late, rfl, _⟩ := h
    rfl
  obtain ⟨f, c, r, hs, bs, late, rfl, hF, hR, ok, pos, q⟩ := h
  have lh := ok.hands
  let R1 : TS := fun D' σ' H' => D'.rt = Q ∧ ∃ v : V, σ' = [some (.ref f), some (.ref r), some (lateV late), some v, none, none] ∧ Same H H'
  let R2 : TS := fun D' σ' H' => D'.rt = Q ∧ ∃ (v : V) (rl : Addr) (rv : List V) (R : List Wk), σ' = [some (.ref f), some (.ref r), some (lateV late), some v, some (.ref rl), none] ∧ H' rl = some (.lst rv) ∧ All2 (RgAt H') rv R ∧ rv.length < 2 ^ 24 ∧ (∀ x ∈ R, WkN hs bs 12 x) ∧ rl ≠ f ∧ Same H H'
  let R3 : TS := fun D' σ' H' => D'.rt = Q ∧ ∃ (v : V) (rl : Addr), σ' = [some (.ref f), some (.ref r), some (lateV late), some v, some (.ref rl), none] ∧ Flow H' f c ∧ But f H H'
  refine ⟨_, (pss_cons (ps_set (i := 3) sc_law_begun.nd rfl (Or.inl rfl) (pe_call G_full_shifts (hr.mono (by decide)) (by rfl) m_full_shifts F_full_shifts.kp b_full_shifts .nil pass0 (pa_cons (pv 1) (pa_cons (pv 2) pa_nil))))
      (pss_cons (ps_if (PW.pt (pw_and (pt_cmpR op_eq (pe_ix (ix_tupK K rfl) (pv 3) pe_int (fun _ _ => rfl)) pe_str (nomark _)) (pw_and1 (pt_val (pe_call G_law_is_small (hr.mono (by decide)) (by rfl) m_law_is_small F_law_is_small.kp b_law_is_small .nil pass0 (pa_cons (pe_ix (ix_tupK K rfl) (pv 3) pe_int (fun _ _ => rfl)) pa_nil)))))) (pss_one (ps_ret (pe_ix (ix_tupK K rfl) (pv 3) pe_int (fun _ _ => rfl)))) pss_nil)
      (PSs.to (pss_cons (ps_set (i := 4) sc_law_begun.nd rfl (Or.inl rfl) (pe_lst pa_nil))
      (pss_cons (ps_if (pt_cmpR op_lt (pe_callB (call_len_seqK K rfl) (by rfl) T.m_len (by decide +kernel) (pa_cons (pe_ix (ix_tupK K rfl) (pv 1) pe_int (fun _ _ => rfl)) pa_nil)) pe_int (nomark _)) (pss_one (ps_set (i := 4) sc_law_begun.nd rfl (Or.inl rfl) (pe_call G_law_rings (hr.mono (by decide)) (by rfl) m_law_rings F_law_rings.kp b_law_rings .nil pass0 (pa_cons (pv 1) pa_nil)))) pss_nil)
      (PSs.to (pss_cons (ps_if (PW.pt (pw_and (pt_cmpR op_gt (pe_callB (call_len_seqK K rfl) (by rfl) T.m_len (by decide +kernel) (pa_cons (pv 4) pa_nil)) pe_int (nomark _)) (pw_and1 (pt_cmpR op_gt (pe_call G_law_pick (hr.mono (by decide)) (by rfl) m_law_pick F_law_pick.kp b_law_pick .nil pass0 (pa_cons (pv 0) (pa_cons pe_int pa_nil))) pe_int (nomark _))))) (pss_one (ps_ret (pe_tup (pa_cons (pe_ix (ix_listK K rfl) (pv 4) (pe_call G_law_pick (hr.mono (by decide)) (by rfl) m_law_pick F_law_pick.kp b_law_pick .nil pass0 (pa_cons (pv 0) (pa_cons (pe_callB (call_len_seqK K rfl) (by rfl) T.m_len (by decide +kernel) (pa_cons (pv 4) pa_nil)) pa_nil))) (fun _ _ => rfl)) pa_nil)))) pss_nil)
      (PSs.to (pss_one (ps_ret (pe_callTy (call_tuple_ofK K rfl) (by rfl) T.m_tuple (by decide +kernel) (pa_cons (pe_lc (own := [("_law_k", 5)]) (g := gName 5) (tt := tYes) (by rfl) sc_law_begun.nd (pi_range1 (by rfl) T.m_range (pa_cons (pe_call G_law_pick (hr.mono (by decide)) (by rfl) m_law_pick F_law_pick.kp b_law_pick .nil pass0 (pa_cons (pv 0) (pa_cons pe_int pa_nil))) pa_nil)) (blkOk_by (own := [("_law_k", 5)]) (N := N_law_begun) (sc := defScope s_law_begun) (by decide +kernel)) (fun _ _ _ _ _ => (pg_name (i := 5) sc_law_begun.nd rfl (Or.inl rfl))) (fun _ _ _ _ _ => pts_nil) (fun _ _ _ _ _ => (pe_call G_law_any_way (hr.mono (by decide)) (by rfl) m_law_any_way F_law_any_way.kp b_law_any_way .nil pass0 (pa_cons (pv 0) (pa_cons (pv 1) (pa_cons pe_int pa_nil)))))) pa_nil)))) R3 ?tail3)) R2 ?tail2))) R1 ?tail1))), ?_⟩
  case tail3 =>
    rintro D' σ' H1 ⟨eD, v, rl, rfl, F1, B1⟩
    refine ⟨_, rfl, f, c, 4, rfl, by decide, by decide +kernel, F1, fun y H2 y0 y1 F2 B2 => ?_⟩
    have hR2 := hR.keep (TK.but hF (B1.trans B2))
    refine ⟨_, rfl, by omega, by omega, fun D nD => lc_range (lo := 0) (n := y.toNat) (fun i H5 => ∃ (dv : List V) (ws : List Wk), H5 D = some (.lst dv) ∧ All2 (RgAt H5) dv ws ∧ ws.length = i ∧ (∀ x ∈ ws, WkN hs bs 12 x) ∧ Flow H5 f c ∧ But f H2 H5) ⟨[], [], upd_same, .nil, rfl, (fun _ z => nomatch z), F2.new nD, But.of (same_new nD)⟩ ?_ ?_⟩
    · rintro i H5 hi ⟨dv, ws, hD, al, lw, wok, F5, B5⟩
      have hR5 := hR2.keep (TK.but F2 B5)
      have Df := F2.ne nD
      have Dc := F2.nec nD
      refine ⟨rfl, yes_in ⟨_, rfl, _, rfl, f, c, r, hs, bs, 4, rfl, by decide, by decide, F5, hR5, ok, pos, fun p k ms H6 hp hk hm lm F6 B6 => ?_⟩⟩
      have hD6 := B6 _ _ hD Df
      have K6 := TK.but F5 B6
      have kL : TK H6 (upd H6 D (.lst (dv ++ [V.ref p]))) := TK.lst hD6
      have ldv := al.length
      refine ⟨dv, hD6, small1000 (by omega), dv ++ [V.ref p], ws ++ [(k, ms)], upd_same, (((al.imp fun _ _ z => z.keep K6).snoc ⟨p, rfl, hp⟩).imp fun _ _ z => z.keep kL), by rw [List.length_append, lw]; rfl, fun x hx => ?_, F6.lst Df Dc, ?_⟩
      · rcases List.mem_append.mp hx with hx | hx
        · exact wok x hx
        · obtain rfl := List.mem_singleton.mp hx
          exact ⟨hk, hm, by show ms.length ≤ 12; omega⟩
      · exact fun b o e n => by
          have e2 := (B5.trans B6) _ _ e n
          rw [upd_ne (fun z => by rw [z] at e; rw [nD] at e; cases e)]
          exact e2
    · rintro H5 ⟨dv, ws, hD, al, lw, wok, F5, B5⟩
      refine ⟨D, _, rfl, .inl ⟨SqL.of hD, fun p np => ?_⟩⟩
      have s := same_new (o := .tup dv) np
      rw [eD]
      exact q _ _ ⟨p, dv, ws, rfl, upd_same, al.imp fun _ _ z => z.keep (TK.same s), by omega, wok⟩ (F5.new np) (((B1.trans B2).trans B5).new np)
  case tail2 =>
    rintro D' σ' H1 ⟨eD, v, rl, rv, R, rfl, hrl, alr, lrv, rok, rlf, s1⟩
    have F1 := hF.same s1
    refine ⟨_, rfl, rl, _, rfl, .inl (SqL.of hrl), _, _, rfl, rfl, _, rfl, if_bl (fun z => ?_) (fun _ => if_bl (fun z => nomatch z) (fun _ => ⟨eD, v, rl, rfl, F1, But.of s1⟩))⟩
    have z : ((rv.length : Nat) : Int) > 0 := of_decide_eq_true z
    refine ⟨_, rfl, f, c, 3, rfl, by decide, by decide +kernel, F1, fun y H2 y0 y1 F2 B2 => ⟨_, _, rfl, rfl, _, rfl, if_bl (fun _ => ?_) (fun _ => ⟨eD, v, rl, rfl, F2, (But.of s1).trans B2⟩)⟩⟩
    have hrl2 := B2 _ _ hrl rlf
    refine ⟨_, rfl, _, rfl, _, rfl, rl, _, rfl, .inl (SqL.of hrl2), f, c, _, rfl, by omega, log24 lrv, F2, fun j H3 j0 j1 F3 B3 => ?_⟩
    obtain ⟨j, rfl⟩ : ∃ k : Nat, j = ((k : Nat) : Int) := ⟨j.toNat, by omega⟩
    have jl : j < rv.length := by omega
    have ej : rv[j]? = some rv[j] := List.getElem?_eq_getElem jl
    obtain ⟨x, ex, hx0⟩ := alr.getL ej
    have K3 : TK H1 H3 := (TK.but F1 B2).trans (TK.but F2 B3)
    refine ⟨rl, _, _, _, rfl, rfl, SqL.of (B3 _ _ hrl2 rlf), atI_nat ej, (by show 1 ≤ sizeLine; decide), fun p np => ?_⟩
    have s := same_new (o := .tup [rv[j]]) np
    rw [eD]
    exact q _ _ ⟨p, [rv[j]], [x], rfl, upd_same, .cons ((hx0.keep K3).keep (TK.same s)) .nil, by show 1 ≤ 12; decide, fun y hy => by rw [List.mem_singleton.mp hy]; exact rok x (List.mem_of_getElem? ex)⟩ (F3.new np) ((((But.of s1).trans B2).trans B3).new np)
  case tail1 =>
    rintro D' σ' H1 ⟨eD, v, rfl, s1⟩
    obtain ⟨ha, ba, hv, bv, er, eh, eb, alh, alb⟩ := id (hR.keep (TK.same s1)).ex
    have lhv := alh.length
    have F1 := hF.same s1
    refine ⟨(by show 0 ≤ sizeLine; decide), fun l nl => ?_⟩
    have s2 := same_new (H := H1) (o := .lst []) nl
    refine ⟨_, rfl, r, _, _, _, rfl, rfl, SqT.of (s2 _ _ er), atI_nat (j := 0) rfl, ha, _, rfl, .inr (SqT.of (s2 _ _ eh)), _, _, rfl, rfl, _, rfl, if_bl (fun z => ?_) (fun _ => ?_)⟩
    · refine ⟨_, rfl, r, hs, bs, rfl, hR.keep (TK.same (s1.trans s2)), lh, ok.many, fun b hb => (ok.ends b hb).2, ok.three58, fun rl rv H3 hrl alr s3 => ?_⟩
      have lr : rv.length < 2 ^ 24 := by
        have := all_len (n := hs.length) ok.three58 lh hs.length
        have e : rv.length = (allR bs hs.length).length := alr.length
        unfold allR at e
        have h9 : hs.length * 797160 ≤ 12 * 797160 := Nat.mul_le_mul_right _ lh
        omega
      have s23 := s2.trans s3
      have F3 := F1.same s23
      exact ⟨eD, v, rl, rv, _, rfl, hrl, alr, lr, fun x hx => by
        obtain ⟨h1, _, h3, h4, h5⟩ := told_ring hx
        exact ⟨h1, h4, by omega⟩, (by
          obtain ⟨ns, i, a, q', r', e1, e2, _⟩ := F3
          intro e
          rw [e, e1] at hrl
          cases hrl
          obtain ⟨_, _, p, e', _⟩ := alr.getL (i := 1) rfl
          cases e'), s1.trans s23⟩
    · exact ⟨eD, v, l, [], [], rfl, upd_same, .nil, by decide, (fun _ z => nomatch z), F1.ne nl, s1.trans s2⟩
  refine ⟨_, rfl, _, rfl, r, hs, bs, late, rfl, hR, ok.fok, fun v H1 told s1 => ?_⟩
  obtain ⟨p, p', rfl, ⟨lv, sh, hp, hp', lvi, so, nn, fe⟩ | ⟨pv, ks, hp, hp', alp, ring, rgi, lk⟩⟩ := told
  · refine ⟨_, rfl, p, _, _, _, rfl, rfl, SqT.of hp, atI_nat (j := 0) rfl, rfl, _, rfl, if_bl (fun z => ?_) (fun _ => if_bl (fun z => nomatch z) (fun _ => ⟨rfl, _, rfl, s1⟩))⟩
    exact absurd (V.str.inj (of_decide_eq_true z)) (by decide +kernel)
  · have lw := waysOf_len (ys := ysB bs) (ks := ks)
    refine ⟨_, rfl, p, _, _, _, rfl, rfl, SqT.of hp, atI_nat (j := 0) rfl, rfl, _, rfl, if_bl (fun _ => ?_) (fun z => absurd rfl (of_decide_eq_false z))⟩
    refine ⟨_, rfl, p, _, _, _, rfl, rfl, SqT.of hp, atI_nat (j := 1) rfl, p', pv, _, rfl, hp', PrB.walk alp, by rw [List.length_map]; omega, fun b H2 s2 => ⟨b, rfl, ?_⟩⟩
    cases b with
    | false => exact if_bl (fun z => nomatch z) (fun _ => ⟨rfl, _, rfl, s1.trans s2⟩)
    | true =>
      refine if_bl (fun _ => ?_) (fun z => nomatch z)
      refine ⟨_, rfl, p, _, _, _, rfl, rfl, SqT.of (s2 _ _ hp), atI_nat (j := 1) rfl, ?_⟩
      refine q _ H2 ⟨p', pv, _, rfl, s2 _ _ hp', (PrB.walk alp).imp fun _ _ z => z.keep (TK.same s2), by rw [List.length_map]; omega, fun x hx => ?_⟩ (hF.same (s1.trans s2)) (But.of (s1.trans s2))
      obtain ⟨y, hy, rfl⟩ := List.mem_map.mp hx
      obtain ⟨n, b, eb, rfl⟩ := ysB_mem (waysOf_mem y hy)
      exact ⟨(ok.ends b (List.mem_of_getElem? eb)).1, fun m hm => by rw [List.mem_singleton.mp hm]; exact (List.getElem?_eq_some_iff.mp eb).1, by show 1 ≤ 12; decide⟩
def sp_law (K : PySem.W.Frag) : Sp := fun vs H Q _ => ∃ (a : Addr) (ns : List Int), vs = [.ref a] ∧ SqL K H a (ns.map V.int) ∧ ns.length ≤ 63 ∧ ∀ H', Q (.bl true) H'
theorem ok_law {f : Addr} {fd : FuncData} (F : Fun K "law" "law" s_law f fd) (T : Top K mg) : FnOk P w K mg base CX0 7 f fd ["_law_script"] (sp_law K) := by
  obtain ⟨f_law_flow, fd_law_flow, F_law_flow, b_law_flow, m_law_flow⟩ := T.d_law_flow
  have G_law_flow := ok_law_flow (P := P) (w := w) (base := base) F_law_flow T
  obtain ⟨f_law_any_room, fd_law_any_room, F_law_any_room, b_law_any_room, m_law_any_room⟩ := T.d_law_any_room
  have G_law_any_room := ok_law_any_room (P := P) (w := w) (base := base) F_law_any_room T
  obtain ⟨f_law_begun, fd_law_begun, F_law_begun, b_law_begun, m_law_begun⟩ := T.d_law_begun
  have G_law_begun := ok_law_begun (P := P) (w := w) (base := base) F_law_begun T
  obtain ⟨f_law_late, fd_law_late, F_law_late, b_law_late, m_law_late⟩ := T.d_law_late
  have G_law_late := ok_law_late (P := P) (w := w) (base := base) F_law_late T
  obtain ⟨f_law_walk_otherwise, fd_law_walk_otherwise, F_law_walk_otherwise, b_law_walk_otherwise, m_law_walk_otherwise⟩ := T.d_law_walk_otherwise
  have G_law_walk_otherwise := ok_law_walk_otherwise (P := P) (w := w) (base := base) F_law_walk_otherwise T
  obtain ⟨f_law_pick, fd_law_pick, F_law_pick, b_law_pick, m_law_pick⟩ := T.d_law_pick
  have G_law_pick := ok_law_pick (P := P) (w := w) (base := base) F_law_pick T
  obtain ⟨f_law_alike, fd_law_alike, F_law_alike, b_law_alike, m_law_alike⟩ := T.d_law_alike
  have G_law_alike := ok_law_alike (P := P) (w := w) (base := base) F_law_alike T
  obtain ⟨f_ring_holds, fd_ring_holds, F_ring_holds, b_ring_holds, m_ring_holds⟩ := T.d_ring_holds
  have G_ring_holds := ok_ring_holds (P := P) (w := w) (base := base) F_ring_holds T
  obtain ⟨f_law_ring_holds, fd_law_ring_holds, F_law_ring_holds, b_law_ring_holds, m_law_ring_holds⟩ := T.d_law_ring_holds
  have G_law_ring_holds := ok_law_ring_holds (P := P) (w := w) (base := base) F_law_ring_holds T
  refine F.ok sc_law (fun vs H Q E h => ?_) (fun cdv A outer s H vs Q E hr h => ?_)
  · obtain ⟨a, ns, rfl, _⟩ := h
    rfl
  obtain ⟨a, ns, rfl, hS, hlen, q⟩ := h
  let sg : Addr → Addr → Option Nat → Option Nat → V → Addr → Option V → Option V → Option V → Option V → L2.St := fun f r la lb rg sl v7 v8 v9 v10 => [some (.ref a), some (.ref f), some (.ref r), some (lateV la), some (lateV lb), some rg, some (.ref sl), v7, v8, v9, v10]
  let R1 : TS := fun D' σ' H' => D'.rt = Q ∧ ∃ (f c r sl : Addr) (la lb : Option Nat) (rg : V) (hs : List HR) (bs : List BR) (av : List V), σ' = sg f r la lb rg sl none none none none ∧ Flow H' f c ∧ sl ≠ f ∧ sl ≠ c ∧ RoomAt H' r hs bs ∧ RoomOk hs bs ∧ 0 < hs.length ∧ WlP 12 hs bs H' rg ∧ H' sl = some (.lst av) ∧ av.length = 2 ∧ ∀ v ∈ av, WlP 20 hs bs H' v
  let R2 : TS := fun D' σ' H' => D'.rt = Q ∧ ∃ (f r sl : Addr) (la lb : Option Nat) (rg : V) (hs : List HR) (bs : List BR) (av : List V) (v7 v8 v9 : Option V), σ' = sg f r la lb rg sl v7 v8 v9 none ∧ RoomAt H' r hs bs ∧ RoomOk hs bs ∧ WlP 12 hs bs H' rg ∧ H' sl = some (.lst av) ∧ av.length ≤ 8 ∧ ∀ v ∈ av, WlP 20 hs bs H' v
  refine ⟨_, (pss_cons (ps_set (i := 1) sc_law.nd rfl (Or.inl rfl) (pe_call G_law_flow (hr.mono (by decide)) (by rfl) m_law_flow F_law_flow.kp b_law_flow .nil pass0 (pa_cons (pv 0) pa_nil)))
      (pss_cons (ps_set (i := 2) sc_law.nd rfl (Or.inl rfl) (pe_call G_law_any_room (hr.mono (by decide)) (by rfl) m_law_any_room F_law_any_room.kp b_law_any_room .nil pass0 (pa_cons (pv 1) pa_nil)))
      (pss_cons (ps_par (i := 3) (j := 4) rfl sc_law.nd rfl rfl (by decide) rfl rfl (pa_cons (pe_call G_law_late (hr.mono (by decide)) (by rfl) m_law_late F_law_late.kp b_law_late .nil pass0 (pa_cons (pv 1) pa_nil)) (pa_cons (pe_call G_law_late (hr.mono (by decide)) (by rfl) m_law_late F_law_late.kp b_law_late .nil pass0 (pa_cons (pv 1) pa_nil)) pa_nil)) (by rfl))
      (pss_cons (ps_set (i := 5) sc_law.nd rfl (Or.inl rfl) (pe_call G_law_begun (hr.mono (by decide)) (by rfl) m_law_begun F_law_begun.kp b_law_begun .nil pass0 (pa_cons (pv 1) (pa_cons (pv 2) (pa_cons (pv 3) pa_nil)))))
      (pss_cons (ps_set (i := 6) sc_law.nd rfl (Or.inl rfl) (pe_lst (pa_cons (pv 5) (pa_cons (pe_tup pa_nil) pa_nil))))
      (PSs.to (pss_cons (ps_for PassesOwn.never rfl (pi_range1 (by rfl) T.m_range (pa_cons pe_int pa_nil)) (pg_name (i := 7) sc_law.nd rfl (Or.inl rfl))
        (pss_cons (ps_set (i := 8) sc_law.nd rfl (Or.inl rfl) (pv 5))
      (pss_cons (ps_for PassesOwn.never rfl (pi_range1 (by rfl) T.m_range (pa_cons (pe_op op_add pe_int (pe_call G_law_pick (hr.mono (by decide)) (by rfl) m_law_pick F_law_pick.kp b_law_pick .nil pass0 (pa_cons (pv 1) (pa_cons pe_int pa_nil)))) pa_nil)) (pg_name (i := 9) sc_law.nd rfl (Or.inl rfl))
        (pss_one (ps_set (i := 8) sc_law.nd rfl (Or.inl rfl) (pe_call G_law_walk_otherwise (hr.mono (by decide)) (by rfl) m_law_walk_otherwise F_law_walk_otherwise.kp b_law_walk_otherwise .nil pass0 (pa_cons (pv 1) (pa_cons (pv 2) (pa_cons (pv 8) pa_nil)))))))
      (pss_one (ps_expr (pe_bmK K rfl PySem.F.plainAttrs_list PySem.F.slot_list_append PySem.F.type_list_append mt_append (pv 6) (pa_cons (pv 8) pa_nil)))))))
      (PSs.to (pss_cons (ps_for PassesOwn.never rfl (pi_listK K rfl (pe_op op_cat (pv 6) (pe_lst (pa_cons (pv 5) pa_nil)))) (pg_name (i := 8) sc_law.nd rfl (Or.inl rfl))
        (pss_one (ps_for PassesOwn.never rfl (pi_tupK K rfl (pe_tup (pa_cons (pv 3) (pa_cons (pv 4) pa_nil)))) (pg_name (i := 10) sc_law.nd rfl (Or.inl rfl))
        (pss_one (ps_if (pt_not (pt_val (pe_call G_law_alike (hr.mono (by decide)) (by rfl) m_law_alike F_law_alike.kp b_law_alike .nil pass0 (pa_cons (pe_call G_ring_holds (hr.mono (by decide)) (by rfl) m_ring_holds F_ring_holds.kp b_ring_holds .nil pass0 (pa_cons (pv 2) (pa_cons (pv 10) (pa_cons (pv 8) pa_nil)))) (pa_cons (pe_call G_law_ring_holds (hr.mono (by decide)) (by rfl) m_law_ring_holds F_law_ring_holds.kp b_law_ring_holds .nil pass0 (pa_cons (pv 2) (pa_cons (pv 10) (pa_cons (pv 8) pa_nil)))) pa_nil))))) (pss_one (ps_ret pe_bl)) pss_nil)))))
      (pss_one (ps_ret pe_bl))) R2 ?tail2)) R1 ?tail1)))))), ?_⟩
  case tail2 =>
    rintro D' σ' H1 ⟨eD, f, r, sl, la, lb, rg, hs, bs, av, v7, v8, v9, rfl, hR, ok, wr, hav, lav, wav⟩
    refine ⟨_, rfl, _, rfl, (by show 1 ≤ sizeLine; decide), fun l1 nl1 => ?_⟩
    have t1 := same_new (o := .lst [rg]) nl1
    refine ⟨sl, l1, _, _, rfl, rfl, t1 _ _ hav, upd_same, little (by show _ + 1 ≤ 1000; omega), fun l2 nl2 => ?_⟩
    have t2 := t1.trans (same_new (o := .lst (av ++ [rg])) nl2)
    have hl2 : (upd (upd H1 l1 (.lst [rg])) l2 (.lst (av ++ [rg]))) l2 = some (.lst (av ++ [rg])) := upd_same
    generalize upd _ l2 (.lst (av ++ [rg])) = H2 at t2 hl2 ⊢
    refine ⟨l2, rfl, ⟨_, SqL.of hl2⟩, for_list (D := { D' with nx := tRet (tC (.bl true)) D' }) (K := K) (a := l2) (xs := av ++ [rg]) (fun i σ H5 => ∃ v8 v10 : Option V, σ = sg f r la lb rg sl v7 v8 v9 v10 ∧ Same H2 H5) ⟨_, _, rfl, Same.refl _⟩ (fun i σ H5 _ ⟨_, _, _, s5⟩ => SqL.of (s5 _ _ hl2)) ?_ ?_⟩
    · rintro i x σ H5 hx ⟨v8, v10, rfl, s5⟩
      have t5 := t2.trans s5
      obtain ⟨p, qv, ws, rfl, hp, alp, lws, wok⟩ : WlP 20 hs bs H5 x := by
        have wx : WlP 20 hs bs H1 x := by
          rcases List.mem_append.mp (List.mem_of_getElem? hx) with h | h
          · exact wav x h
          · rw [List.mem_singleton.mp h]
            exact wr.mono (by decide)
        exact wx.keep (TK.same t5)
      have hR5 := hR.keep (TK.same t5)
      refine ⟨_, rfl, _, rfl, (by show 2 ≤ sizeLine; decide), fun tt ntt => ?_⟩
      have t6 := same_new (o := .tup [lateV la, lateV lb]) ntt
      have htt : (upd H5 tt (.tup [lateV la, lateV lb])) tt = some (.tup [lateV la, lateV lb]) := upd_same
      generalize upd H5 tt _ = H6 at t6 htt ⊢
      refine ⟨tt, rfl, ⟨_, SqT.of htt⟩, for_tup (K := K) (a := tt) (xs := [lateV la, lateV lb]) (fun j σ H7 => ∃ v10 : Option V, σ = sg f r la lb rg sl v7 (some (.ref p)) v9 v10 ∧ Same H6 H7) ⟨_, rfl, Same.refl _⟩ (fun j σ H7 _ ⟨_, _, s7⟩ => SqT.of (s7 _ _ htt)) ?_ ?_⟩
      · rintro j y σ H7 hy ⟨v10, rfl, s7⟩
        obtain ⟨late, rfl⟩ : ∃ late, y = lateV late := by
          rcases List.mem_cons.mp (List.mem_of_getElem? hy) with rfl | hy
          · exact ⟨la, rfl⟩
          · exact ⟨lb, List.mem_singleton.mp hy⟩
        have t7 := t6.trans s7
        have k7 := TK.same t7
        refine ⟨_, rfl, _, rfl, _, rfl, r, p, hs, bs, late, qv, ws, rfl, hR5.keep k7, ok.good, fun b hb => (ok.ends b hb).2, t7 _ _ hp, alp.imp fun _ _ z => z.keep k7, by omega, fun x hx => (wok x hx).ok (by decide), fun H8 s8 => ?_⟩
        have t8 := t7.trans s8
        have k8 := TK.same t8
        refine ⟨_, rfl, _, rfl, _, rfl, r, p, hs, bs, late, qv, ws, rfl, hR5.keep k8, ok.good, fun b hb => (ok.ends b hb).2, t8 _ _ hp, alp.imp fun _ _ z => z.keep k8, by omega, fun x hx => (wok x hx).ok (by decide), fun H9 s9 => ?_⟩
        refine ⟨_, _, rfl, Al.bl, fun H10 s10 => ?_⟩
        exact ⟨_, rfl, if_bl (fun z => nomatch z) (fun _ => ⟨_, rfl, ((s7.trans s8).trans s9).trans s10⟩)⟩
      · rintro σ H7 ⟨v10, rfl, s7⟩
        exact ⟨_, _, rfl, (s5.trans t6).trans s7⟩
    · rintro σ H5 ⟨v8, v10, rfl, s5⟩
      show D'.rt _ _
      rw [eD]
      exact q H5
  case tail1 =>
    rintro D' σ' H1 ⟨eD, f, c, r, sl, la, lb, rg, hs, bs, av, rfl, F1, slf, slc, hR, ok, pos, wr, hav, lav, wav⟩
    refine ⟨_, rfl, by decide, by decide, for_range (D := { D' with nx := R2 D' }) (lo := 0) (n := (6 : Int).toNat) (fun i σ H5 => ∃ (av : List V) (v7 v8 v9 : Option V), σ = sg f r la lb rg sl v7 v8 v9 none ∧ Flow H5 f c ∧ TK H1 H5 ∧ H5 sl = some (.lst av) ∧ av.length = 2 + i ∧ ∀ v ∈ av, WlP 20 hs bs H5 v) ⟨av, _, _, _, rfl, F1, (fun _ _ e => e), hav, lav, wav⟩ ?_ ?_⟩
    · rintro i σ H5 hi ⟨av, v7, v8, v9, rfl, F5, K5, hav5, lav5, wav5⟩
      have hi : i < 6 := hi
      have hR5 := hR.keep K5
      have wr5 := wr.keep K5
      refine ⟨_, rfl, ?_⟩
      refine ⟨_, rfl, f, c, 2, rfl, by decide, by decide +kernel, F5, fun y H6 y0 y1 F6 B6 => ?_⟩
      have K6 := TK.but F5 B6
      have hav6 := B6 _ _ hav5 slf
      refine ⟨_, _, rfl, rfl, ?_⟩
      refine ⟨_, rfl, by show -2 ^ 62 ≤ 1 + y; omega, by show 1 + y < 2 ^ 62; omega, for_range (lo := 0) (n := (1 + y).toNat) (fun j σ H7 => ∃ (v : V) (v9 : Option V), σ = sg f r la lb rg sl (some (.int (0 + ((i : Nat) : Int)))) (some v) v9 none ∧ Flow H7 f c ∧ But f H6 H7 ∧ WlP (12 + j) hs bs H7 v) ⟨_, _, rfl, F6, But.refl, wr5.keep K6⟩ ?_ ?_⟩
      · rintro j σ H7 hj ⟨v, v9, rfl, F7, B7, wv⟩
        have hj : j < 2 := by omega
        obtain ⟨p, qv, ws, rfl, hp, alp, lws, wok⟩ := wv
        refine ⟨_, rfl, _, rfl, _, rfl, f, c, r, p, hs, bs, qv, ws, 12 + j, rfl, F7, (hR5.keep K6).keep (TK.but F6 B7), ok, pos, hp, alp, by omega, by omega, by omega, wok, fun p2 qv2 ws2 H8 h2 al2 l2 w2 F8 B8 => ?_⟩
        exact ⟨_, _, rfl, F8, B7.trans B8, p2, qv2, ws2, rfl, h2, al2, by omega, w2⟩
      · rintro σ H7 ⟨v, v9, rfl, F7, B7, wv⟩
        have hav7 := B7 _ _ hav6 slf
        have K7 := TK.but F6 B7
        refine ⟨_, rfl, .inl ⟨rfl, _, SqL.of hav7⟩, _, rfl, sl, _, _, rfl, rfl, hav7, small1000 (by omega), ?_⟩
        have kL : TK H7 (upd H7 sl (.lst (av ++ [v]))) := TK.lst hav7
        refine ⟨av ++ [v], _, _, _, rfl, F7.lst slf slc, ((K5.trans K6).trans K7).trans kL, upd_same, by rw [List.length_append]; show av.length + 1 = _; omega, fun u hu => ?_⟩
        rcases List.mem_append.mp hu with hu | hu
        · exact (((wav5 u hu).keep K6).keep K7).keep kL
        · rw [List.mem_singleton.mp hu]
          exact (wv.mono (by omega)).keep kL
    · rintro σ H5 ⟨av, v7, v8, v9, rfl, F5, K5, hav5, lav5, wav5⟩
      exact ⟨eD, f, r, sl, la, lb, rg, hs, bs, av, v7, v8, v9, rfl, hR.keep K5, ok, wr.keep K5, hav5, by
        have : av.length = 2 + (6 : Int).toNat := lav5
        have e : (6 : Int).toNat = 6 := rfl
        omega, wav5⟩
  refine ⟨_, rfl, a, ns, rfl, hS, fun f c H1 nf nc F1 s1 => ?_⟩
  refine ⟨_, rfl, f, c, rfl, F1, fun r hs bs H2 hR ok pos F2 B2 => ?_⟩
  refine ⟨_, rfl, f, c, rfl, F2, fun la H3 F3 B3 => ?_⟩
  refine ⟨_, rfl, f, c, rfl, F3, fun lb H4 F4 B4 => ?_⟩
  refine ⟨_, _, rfl, ?_⟩
  have hR4 := hR.keep ((TK.but F2 B3).trans (TK.but F3 B4))
  refine ⟨_, rfl, _, rfl, _, rfl, f, c, r, hs, bs, la, rfl, F4, hR4, ok, pos, fun rg H5 wr F5 B5 => ?_⟩
  have hR5 := hR4.keep (TK.but F4 B5)
  refine ⟨_, rfl, (by show 0 ≤ sizeLine; decide), fun e0 ne0 => ⟨(by show 2 ≤ sizeLine; decide), fun sl nsl => ?_⟩⟩
  have u1 := same_new (o := .tup []) ne0
  have u2 := same_new (o := .lst [rg, V.ref e0]) nsl
  have u := u1.trans u2
  have F6 := F5.new (o := .tup []) ne0
  refine ⟨rfl, f, c, r, sl, la, lb, rg, hs, bs, _, rfl, F6.new nsl, F6.ne nsl, F6.nec nsl, hR5.keep (TK.same u), ok, pos, wr.keep (TK.same u), upd_same, rfl, fun v hv => ?_⟩
  rcases List.mem_cons.mp hv with rfl | hv
  · exact (wr.mono (by decide)).keep (TK.same u)
  · rw [List.mem_singleton.mp hv]
    exact ⟨e0, [], [], rfl, u2 _ _ upd_same, .nil, by decide, fun _ z => nomatch z⟩
end
set_option maxHeartbeats 0 in
theorem all_mk {l : PySem.W.OpenLaw} {w : World} {K : PySem.W.Frag} {h : Heap} {mg : Str → Option Value} {fa f1 f2 f3 f4 f5 f6 f7 f8 f9 f10 f11 f12 f13 f14 f15 f16 f17 f18 f19 f20 f21 f22 f23 f24 f25 f26 f27 f28 f29 f30 f31 f32 f33 f34 f35 f36 f37 f38 : Addr} (X : K.In h) (G : h.Ns mainGlobals mg) (hfa : mg "law" = some (.ref fa))
    {od1 an1 od2 an2 od3 an3 od4 an4 od5 an5 od6 an6 od7 an7 od8 an8 od9 an9 od10 an10 od11 an11 od12 an12 od13 an13 od14 an14 od15 an15 od16 an16 od17 an17 od18 an18 od19 an19 od20 an20 od21 an21 od22 an22 od23 an23 od24 an24 od25 an25 od26 an26 od27 an27 od28 an28 od29 an29 od30 an30 od31 an31 od32 an32 od33 an33 od34 an34 od35 an35 od36 an36 od37 an37 od38 an38 : Option Addr} {sl1 sl2 sl3 sl4 sl5 sl6 sl7 sl8 sl9 sl10 sl11 sl12 sl13 sl14 sl15 sl16 sl17 sl18 sl19 sl20 sl21 sl22 sl23 sl24 sl25 sl26 sl27 sl28 sl29 sl30 sl31 sl32 sl33 sl34 sl35 sl36 sl37 sl38 : Array (Option Value)} {oc1 kV1 dc1 pm1 cd1 ct1 oc2 kV2 dc2 pm2 cd2 ct2 oc3 kV3 dc3 pm3 cd3 ct3 oc4 kV4 dc4 pm4 cd4 ct4 oc5 kV5 dc5 pm5 cd5 ct5 oc6 kV6 dc6 pm6 cd6 ct6 oc7 kV7 dc7 pm7 cd7 ct7 oc8 kV8 dc8 pm8 cd8 ct8 oc9 kV9 dc9 pm9 cd9 ct9 oc10 kV10 dc10 pm10 cd10 ct10 oc11 kV11 dc11 pm11 cd11 ct11 oc12 kV12 dc12 pm12 cd12 ct12 oc13 kV13 dc13 pm13 cd13 ct13 oc14 kV14 dc14 pm14 cd14 ct14 oc15 kV15 dc15 pm15 cd15 ct15 oc16 kV16 dc16 pm16 cd16 ct16 oc17 kV17 dc17 pm17 cd17 ct17 oc18 kV18 dc18 pm18 cd18 ct18 oc19 kV19 dc19 pm19 cd19 ct19 oc20 kV20 dc20 pm20 cd20 ct20 oc21 kV21 dc21 pm21 cd21 ct21 oc22 kV22 dc22 pm22 cd22 ct22 oc23 kV23 dc23 pm23 cd23 ct23 oc24 kV24 dc24 pm24 cd24 ct24 oc25 kV25 dc25 pm25 cd25 ct25 oc26 kV26 dc26 pm26 cd26 ct26 oc27 kV27 dc27 pm27 cd27 ct27 oc28 kV28 dc28 pm28 cd28 ct28 oc29 kV29 dc29 pm29 cd29 ct29 oc30 kV30 dc30 pm30 cd30 ct30 oc31 kV31 dc31 pm31 cd31 ct31 oc32 kV32 dc32 pm32 cd32 ct32 oc33 kV33 dc33 pm33 cd33 ct33 oc34 kV34 dc34 pm34 cd34 ct34 oc35 kV35 dc35 pm35 cd35 ct35 oc36 kV36 dc36 pm36 cd36 ct36 oc37 kV37 dc37 pm37 cd37 ct37 oc38 kV38 dc38 pm38 cd38 ct38 : Value}
    (a1 : PySem.W.nsIn K mainGlobals "levels_or_ring" = some (some (.ref f1))) (l1 : K.lookup f1 = some ⟨oc1, od1, .func (PySem.W.fnOf "levels_or_ring" "levels_or_ring" (defArgs s_levels_or_ring) (defBody s_levels_or_ring) (defScope s_levels_or_ring) .none kV1 dc1 pm1 an1 cd1 ct1), sl1⟩) (c1 : PySem.W.codeIn K cd1 "levels_or_ring" = true) (k1 : PySem.W.keepIn K (.ref f1) = true)
    (a2 : PySem.W.nsIn K mainGlobals "raise_levels" = some (some (.ref f2))) (l2 : K.lookup f2 = some ⟨oc2, od2, .func (PySem.W.fnOf "raise_levels" "raise_levels" (defArgs s_raise_levels) (defBody s_raise_levels) (defScope s_raise_levels) .none kV2 dc2 pm2 an2 cd2 ct2), sl2⟩) (c2 : PySem.W.codeIn K cd2 "raise_levels" = true) (k2 : PySem.W.keepIn K (.ref f2) = true)
    (a3 : PySem.W.nsIn K mainGlobals "ring_behind" = some (some (.ref f3))) (l3 : K.lookup f3 = some ⟨oc3, od3, .func (PySem.W.fnOf "ring_behind" "ring_behind" (defArgs s_ring_behind) (defBody s_ring_behind) (defScope s_ring_behind) .none kV3 dc3 pm3 an3 cd3 ct3), sl3⟩) (c3 : PySem.W.codeIn K cd3 "ring_behind" = true) (k3 : PySem.W.keepIn K (.ref f3) = true)
    (a4 : PySem.W.nsIn K mainGlobals "doors_in" = some (some (.ref f4))) (l4 : K.lookup f4 = some ⟨oc4, od4, .func (PySem.W.fnOf "doors_in" "doors_in" (defArgs s_doors_in) (defBody s_doors_in) (defScope s_doors_in) .none kV4 dc4 pm4 an4 cd4 ct4), sl4⟩) (c4 : PySem.W.codeIn K cd4 "doors_in" = true) (k4 : PySem.W.keepIn K (.ref f4) = true)
    (a5 : PySem.W.nsIn K mainGlobals "doors_out" = some (some (.ref f5))) (l5 : K.lookup f5 = some ⟨oc5, od5, .func (PySem.W.fnOf "doors_out" "doors_out" (defArgs s_doors_out) (defBody s_doors_out) (defScope s_doors_out) .none kV5 dc5 pm5 an5 cd5 ct5), sl5⟩) (c5 : PySem.W.codeIn K cd5 "doors_out" = true) (k5 : PySem.W.keepIn K (.ref f5) = true)
    (a6 : PySem.W.nsIn K mainGlobals "trays_on" = some (some (.ref f6))) (l6 : K.lookup f6 = some ⟨oc6, od6, .func (PySem.W.fnOf "trays_on" "trays_on" (defArgs s_trays_on) (defBody s_trays_on) (defScope s_trays_on) .none kV6 dc6 pm6 an6 cd6 ct6), sl6⟩) (c6 : PySem.W.codeIn K cd6 "trays_on" = true) (k6 : PySem.W.keepIn K (.ref f6) = true)
    (a7 : PySem.W.nsIn K mainGlobals "way_end" = some (some (.ref f7))) (l7 : K.lookup f7 = some ⟨oc7, od7, .func (PySem.W.fnOf "way_end" "way_end" (defArgs s_way_end) (defBody s_way_end) (defScope s_way_end) .none kV7 dc7 pm7 an7 cd7 ct7), sl7⟩) (c7 : PySem.W.codeIn K cd7 "way_end" = true) (k7 : PySem.W.keepIn K (.ref f7) = true)
    (a8 : PySem.W.nsIn K mainGlobals "jumps" = some (some (.ref f8))) (l8 : K.lookup f8 = some ⟨oc8, od8, .func (PySem.W.fnOf "jumps" "jumps" (defArgs s_jumps) (defBody s_jumps) (defScope s_jumps) .none kV8 dc8 pm8 an8 cd8 ct8), sl8⟩) (c8 : PySem.W.codeIn K cd8 "jumps" = true) (k8 : PySem.W.keepIn K (.ref f8) = true)
    (a9 : PySem.W.nsIn K mainGlobals "shifts_by" = some (some (.ref f9))) (l9 : K.lookup f9 = some ⟨oc9, od9, .func (PySem.W.fnOf "shifts_by" "shifts_by" (defArgs s_shifts_by) (defBody s_shifts_by) (defScope s_shifts_by) .none kV9 dc9 pm9 an9 cd9 ct9), sl9⟩) (c9 : PySem.W.codeIn K cd9 "shifts_by" = true) (k9 : PySem.W.keepIn K (.ref f9) = true)
    (a10 : PySem.W.nsIn K mainGlobals "walk_trays" = some (some (.ref f10))) (l10 : K.lookup f10 = some ⟨oc10, od10, .func (PySem.W.fnOf "walk_trays" "walk_trays" (defArgs s_walk_trays) (defBody s_walk_trays) (defScope s_walk_trays) .none kV10 dc10 pm10 an10 cd10 ct10), sl10⟩) (c10 : PySem.W.codeIn K cd10 "walk_trays" = true) (k10 : PySem.W.keepIn K (.ref f10) = true)
    (a11 : PySem.W.nsIn K mainGlobals "closed_trays" = some (some (.ref f11))) (l11 : K.lookup f11 = some ⟨oc11, od11, .func (PySem.W.fnOf "closed_trays" "closed_trays" (defArgs s_closed_trays) (defBody s_closed_trays) (defScope s_closed_trays) .none kV11 dc11 pm11 an11 cd11 ct11), sl11⟩) (c11 : PySem.W.codeIn K cd11 "closed_trays" = true) (k11 : PySem.W.keepIn K (.ref f11) = true)
    (a12 : PySem.W.nsIn K mainGlobals "step_trays" = some (some (.ref f12))) (l12 : K.lookup f12 = some ⟨oc12, od12, .func (PySem.W.fnOf "step_trays" "step_trays" (defArgs s_step_trays) (defBody s_step_trays) (defScope s_step_trays) .none kV12 dc12 pm12 an12 cd12 ct12), sl12⟩) (c12 : PySem.W.codeIn K cd12 "step_trays" = true) (k12 : PySem.W.keepIn K (.ref f12) = true)
    (a13 : PySem.W.nsIn K mainGlobals "full_shifts" = some (some (.ref f13))) (l13 : K.lookup f13 = some ⟨oc13, od13, .func (PySem.W.fnOf "full_shifts" "full_shifts" (defArgs s_full_shifts) (defBody s_full_shifts) (defScope s_full_shifts) .none kV13 dc13 pm13 an13 cd13 ct13), sl13⟩) (c13 : PySem.W.codeIn K cd13 "full_shifts" = true) (k13 : PySem.W.keepIn K (.ref f13) = true)
    (a14 : PySem.W.nsIn K mainGlobals "ring_holds" = some (some (.ref f14))) (l14 : K.lookup f14 = some ⟨oc14, od14, .func (PySem.W.fnOf "ring_holds" "ring_holds" (defArgs s_ring_holds) (defBody s_ring_holds) (defScope s_ring_holds) .none kV14 dc14 pm14 an14 cd14 ct14), sl14⟩) (c14 : PySem.W.codeIn K cd14 "ring_holds" = true) (k14 : PySem.W.keepIn K (.ref f14) = true)
    (a15 : PySem.W.nsIn K mainGlobals "_law_flow" = some (some (.ref f15))) (l15 : K.lookup f15 = some ⟨oc15, od15, .func (PySem.W.fnOf "_law_flow" "_law_flow" (defArgs s_law_flow) (defBody s_law_flow) (defScope s_law_flow) .none kV15 dc15 pm15 an15 cd15 ct15), sl15⟩) (c15 : PySem.W.codeIn K cd15 "_law_flow" = true) (k15 : PySem.W.keepIn K (.ref f15) = true)
    (a16 : PySem.W.nsIn K mainGlobals "_law_pick" = some (some (.ref f16))) (l16 : K.lookup f16 = some ⟨oc16, od16, .func (PySem.W.fnOf "_law_pick" "_law_pick" (defArgs s_law_pick) (defBody s_law_pick) (defScope s_law_pick) .none kV16 dc16 pm16 an16 cd16 ct16), sl16⟩) (c16 : PySem.W.codeIn K cd16 "_law_pick" = true) (k16 : PySem.W.keepIn K (.ref f16) = true)
    (a17 : PySem.W.nsIn K mainGlobals "_law_thing" = some (some (.ref f17))) (l17 : K.lookup f17 = some ⟨oc17, od17, .func (PySem.W.fnOf "_law_thing" "_law_thing" (defArgs s_law_thing) (defBody s_law_thing) (defScope s_law_thing) .none kV17 dc17 pm17 an17 cd17 ct17), sl17⟩) (c17 : PySem.W.codeIn K cd17 "_law_thing" = true) (k17 : PySem.W.keepIn K (.ref f17) = true)
    (a18 : PySem.W.nsIn K mainGlobals "_law_needs" = some (some (.ref f18))) (l18 : K.lookup f18 = some ⟨oc18, od18, .func (PySem.W.fnOf "_law_needs" "_law_needs" (defArgs s_law_needs) (defBody s_law_needs) (defScope s_law_needs) .none kV18 dc18 pm18 an18 cd18 ct18), sl18⟩) (c18 : PySem.W.codeIn K cd18 "_law_needs" = true) (k18 : PySem.W.keepIn K (.ref f18) = true)
    (a19 : PySem.W.nsIn K mainGlobals "_law_rule" = some (some (.ref f19))) (l19 : K.lookup f19 = some ⟨oc19, od19, .func (PySem.W.fnOf "_law_rule" "_law_rule" (defArgs s_law_rule) (defBody s_law_rule) (defScope s_law_rule) .none kV19 dc19 pm19 an19 cd19 ct19), sl19⟩) (c19 : PySem.W.codeIn K cd19 "_law_rule" = true) (k19 : PySem.W.keepIn K (.ref f19) = true)
    (a20 : PySem.W.nsIn K mainGlobals "_law_shuffled" = some (some (.ref f20))) (l20 : K.lookup f20 = some ⟨oc20, od20, .func (PySem.W.fnOf "_law_shuffled" "_law_shuffled" (defArgs s_law_shuffled) (defBody s_law_shuffled) (defScope s_law_shuffled) .none kV20 dc20 pm20 an20 cd20 ct20), sl20⟩) (c20 : PySem.W.codeIn K cd20 "_law_shuffled" = true) (k20 : PySem.W.keepIn K (.ref f20) = true)
    (a21 : PySem.W.nsIn K mainGlobals "_law_hands" = some (some (.ref f21))) (l21 : K.lookup f21 = some ⟨oc21, od21, .func (PySem.W.fnOf "_law_hands" "_law_hands" (defArgs s_law_hands) (defBody s_law_hands) (defScope s_law_hands) .none kV21 dc21 pm21 an21 cd21 ct21), sl21⟩) (c21 : PySem.W.codeIn K cd21 "_law_hands" = true) (k21 : PySem.W.keepIn K (.ref f21) = true)
    (a22 : PySem.W.nsIn K mainGlobals "_law_room" = some (some (.ref f22))) (l22 : K.lookup f22 = some ⟨oc22, od22, .func (PySem.W.fnOf "_law_room" "_law_room" (defArgs s_law_room) (defBody s_law_room) (defScope s_law_room) .none kV22 dc22 pm22 an22 cd22 ct22), sl22⟩) (c22 : PySem.W.codeIn K cd22 "_law_room" = true) (k22 : PySem.W.keepIn K (.ref f22) = true)
    (a23 : PySem.W.nsIn K mainGlobals "_law_alike" = some (some (.ref f23))) (l23 : K.lookup f23 = some ⟨oc23, od23, .func (PySem.W.fnOf "_law_alike" "_law_alike" (defArgs s_law_alike) (defBody s_law_alike) (defScope s_law_alike) .none kV23 dc23 pm23 an23 cd23 ct23), sl23⟩) (c23 : PySem.W.codeIn K cd23 "_law_alike" = true) (k23 : PySem.W.keepIn K (.ref f23) = true)
    (a24 : PySem.W.nsIn K mainGlobals "_law_doors_room" = some (some (.ref f24))) (l24 : K.lookup f24 = some ⟨oc24, od24, .func (PySem.W.fnOf "_law_doors_room" "_law_doors_room" (defArgs s_law_doors_room) (defBody s_law_doors_room) (defScope s_law_doors_room) .none kV24 dc24 pm24 an24 cd24 ct24), sl24⟩) (c24 : PySem.W.codeIn K cd24 "_law_doors_room" = true) (k24 : PySem.W.keepIn K (.ref f24) = true)
    (a25 : PySem.W.nsIn K mainGlobals "_law_any_room" = some (some (.ref f25))) (l25 : K.lookup f25 = some ⟨oc25, od25, .func (PySem.W.fnOf "_law_any_room" "_law_any_room" (defArgs s_law_any_room) (defBody s_law_any_room) (defScope s_law_any_room) .none kV25 dc25 pm25 an25 cd25 ct25), sl25⟩) (c25 : PySem.W.codeIn K cd25 "_law_any_room" = true) (k25 : PySem.W.keepIn K (.ref f25) = true)
    (a26 : PySem.W.nsIn K mainGlobals "_law_end" = some (some (.ref f26))) (l26 : K.lookup f26 = some ⟨oc26, od26, .func (PySem.W.fnOf "_law_end" "_law_end" (defArgs s_law_end) (defBody s_law_end) (defScope s_law_end) .none kV26 dc26 pm26 an26 cd26 ct26), sl26⟩) (c26 : PySem.W.codeIn K cd26 "_law_end" = true) (k26 : PySem.W.keepIn K (.ref f26) = true)
    (a27 : PySem.W.nsIn K mainGlobals "_law_trays" = some (some (.ref f27))) (l27 : K.lookup f27 = some ⟨oc27, od27, .func (PySem.W.fnOf "_law_trays" "_law_trays" (defArgs s_law_trays) (defBody s_law_trays) (defScope s_law_trays) .none kV27 dc27 pm27 an27 cd27 ct27), sl27⟩) (c27 : PySem.W.codeIn K cd27 "_law_trays" = true) (k27 : PySem.W.keepIn K (.ref f27) = true)
    (a28 : PySem.W.nsIn K mainGlobals "_law_walk_trays" = some (some (.ref f28))) (l28 : K.lookup f28 = some ⟨oc28, od28, .func (PySem.W.fnOf "_law_walk_trays" "_law_walk_trays" (defArgs s_law_walk_trays) (defBody s_law_walk_trays) (defScope s_law_walk_trays) .none kV28 dc28 pm28 an28 cd28 ct28), sl28⟩) (c28 : PySem.W.codeIn K cd28 "_law_walk_trays" = true) (k28 : PySem.W.keepIn K (.ref f28) = true)
    (a29 : PySem.W.nsIn K mainGlobals "_law_belts" = some (some (.ref f29))) (l29 : K.lookup f29 = some ⟨oc29, od29, .func (PySem.W.fnOf "_law_belts" "_law_belts" (defArgs s_law_belts) (defBody s_law_belts) (defScope s_law_belts) .none kV29 dc29 pm29 an29 cd29 ct29), sl29⟩) (c29 : PySem.W.codeIn K cd29 "_law_belts" = true) (k29 : PySem.W.keepIn K (.ref f29) = true)
    (a30 : PySem.W.nsIn K mainGlobals "_law_any_way" = some (some (.ref f30))) (l30 : K.lookup f30 = some ⟨oc30, od30, .func (PySem.W.fnOf "_law_any_way" "_law_any_way" (defArgs s_law_any_way) (defBody s_law_any_way) (defScope s_law_any_way) .none kV30 dc30 pm30 an30 cd30 ct30), sl30⟩) (c30 : PySem.W.codeIn K cd30 "_law_any_way" = true) (k30 : PySem.W.keepIn K (.ref f30) = true)
    (a31 : PySem.W.nsIn K mainGlobals "_law_way_otherwise" = some (some (.ref f31))) (l31 : K.lookup f31 = some ⟨oc31, od31, .func (PySem.W.fnOf "_law_way_otherwise" "_law_way_otherwise" (defArgs s_law_way_otherwise) (defBody s_law_way_otherwise) (defScope s_law_way_otherwise) .none kV31 dc31 pm31 an31 cd31 ct31), sl31⟩) (c31 : PySem.W.codeIn K cd31 "_law_way_otherwise" = true) (k31 : PySem.W.keepIn K (.ref f31) = true)
    (a32 : PySem.W.nsIn K mainGlobals "_law_walk_otherwise" = some (some (.ref f32))) (l32 : K.lookup f32 = some ⟨oc32, od32, .func (PySem.W.fnOf "_law_walk_otherwise" "_law_walk_otherwise" (defArgs s_law_walk_otherwise) (defBody s_law_walk_otherwise) (defScope s_law_walk_otherwise) .none kV32 dc32 pm32 an32 cd32 ct32), sl32⟩) (c32 : PySem.W.codeIn K cd32 "_law_walk_otherwise" = true) (k32 : PySem.W.keepIn K (.ref f32) = true)
    (a33 : PySem.W.nsIn K mainGlobals "_law_is_small" = some (some (.ref f33))) (l33 : K.lookup f33 = some ⟨oc33, od33, .func (PySem.W.fnOf "_law_is_small" "_law_is_small" (defArgs s_law_is_small) (defBody s_law_is_small) (defScope s_law_is_small) .none kV33 dc33 pm33 an33 cd33 ct33), sl33⟩) (c33 : PySem.W.codeIn K cd33 "_law_is_small" = true) (k33 : PySem.W.keepIn K (.ref f33) = true)
    (a34 : PySem.W.nsIn K mainGlobals "_law_rings" = some (some (.ref f34))) (l34 : K.lookup f34 = some ⟨oc34, od34, .func (PySem.W.fnOf "_law_rings" "_law_rings" (defArgs s_law_rings) (defBody s_law_rings) (defScope s_law_rings) .none kV34 dc34 pm34 an34 cd34 ct34), sl34⟩) (c34 : PySem.W.codeIn K cd34 "_law_rings" = true) (k34 : PySem.W.keepIn K (.ref f34) = true)
    (a35 : PySem.W.nsIn K mainGlobals "_law_ring_holds" = some (some (.ref f35))) (l35 : K.lookup f35 = some ⟨oc35, od35, .func (PySem.W.fnOf "_law_ring_holds" "_law_ring_holds" (defArgs s_law_ring_holds) (defBody s_law_ring_holds) (defScope s_law_ring_holds) .none kV35 dc35 pm35 an35 cd35 ct35), sl35⟩) (c35 : PySem.W.codeIn K cd35 "_law_ring_holds" = true) (k35 : PySem.W.keepIn K (.ref f35) = true)
    (a36 : PySem.W.nsIn K mainGlobals "_law_late" = some (some (.ref f36))) (l36 : K.lookup f36 = some ⟨oc36, od36, .func (PySem.W.fnOf "_law_late" "_law_late" (defArgs s_law_late) (defBody s_law_late) (defScope s_law_late) .none kV36 dc36 pm36 an36 cd36 ct36), sl36⟩) (c36 : PySem.W.codeIn K cd36 "_law_late" = true) (k36 : PySem.W.keepIn K (.ref f36) = true)
    (a37 : PySem.W.nsIn K mainGlobals "_law_begun" = some (some (.ref f37))) (l37 : K.lookup f37 = some ⟨oc37, od37, .func (PySem.W.fnOf "_law_begun" "_law_begun" (defArgs s_law_begun) (defBody s_law_begun) (defScope s_law_begun) .none kV37 dc37 pm37 an37 cd37 ct37), sl37⟩) (c37 : PySem.W.codeIn K cd37 "_law_begun" = true) (k37 : PySem.W.keepIn K (.ref f37) = true)
    (a38 : PySem.W.nsIn K mainGlobals "law" = some (some (.ref f38))) (l38 : K.lookup f38 = some ⟨oc38, od38, .func (PySem.W.fnOf "law" "law" (defArgs s_law) (defBody s_law) (defScope s_law) .none kV38 dc38 pm38 an38 cd38 ct38), sl38⟩) (c38 : PySem.W.codeIn K cd38 "law" = true) (k38 : PySem.W.keepIn K (.ref f38) = true)
    (z1 : PySem.W.nsIn K mainGlobals "all" = some none)    (z2 : PySem.W.nsIn K mainGlobals "any" = some none)    (z3 : PySem.W.nsIn K mainGlobals "bool" = some none)    (z4 : PySem.W.nsIn K mainGlobals "enumerate" = some none)    (z5 : PySem.W.nsIn K mainGlobals "int" = some none)    (z6 : PySem.W.nsIn K mainGlobals "isinstance" = some none)    (z7 : PySem.W.nsIn K mainGlobals "len" = some none)    (z8 : PySem.W.nsIn K mainGlobals "list" = some none)    (z9 : PySem.W.nsIn K mainGlobals "max" = some none)    (z10 : PySem.W.nsIn K mainGlobals "min" = some none)    (z11 : PySem.W.nsIn K mainGlobals "range" = some none)    (z12 : PySem.W.nsIn K mainGlobals "sum" = some none)    (z13 : PySem.W.nsIn K mainGlobals "tuple" = some none)    (z14 : PySem.W.nsIn K mainGlobals "zip" = some none)
    {aI aO : Addr} {odI odO : Option Addr} {tI tO : Tok} {nI nO : Nat} {slI slO : Array (Option Value)} (gI : PySem.W.nsIn K mainGlobals "IN_RULE" = some (some (.ref aI)))
    (lI : K.lookup aI = some ⟨.type "tuple", odI, .seq #[.str "in" tI] nI, slI⟩)
    (gO : PySem.W.nsIn K mainGlobals "OUT_RULE" = some (some (.ref aO)))
    (lO : K.lookup aO = some ⟨.type "tuple", odO, .seq #[.str "out" tO] nO, slO⟩) :
    ∃ fd : FuncData, (∀ (s : Shared) (v : Value), BindsTo s fd ⟨[v], []⟩ [("_law_script", v)]) ∧ ∀ base : Heap, K.In base → base.Ns mainGlobals mg → FnOk l.prog w K mg base CX0 7 fa fd ["_law_script"] (sp_law K) := by
  have e := hfa.symm.trans (PySem.W.mg_of X G a38)
  cases e
  have F1 := fun_mk (st := s_levels_or_ring) l1 c1 k1
  have b1 := F1.binds (ps := ["many", "steps"]) fun _ _ _ _ _ _ us hl => match us, hl with | [_, _], _ => rfl
  have F2 := fun_mk (st := s_raise_levels) l2 c2 k2
  have b2 := F2.binds (ps := ["levels", "last", "steps"]) fun _ _ _ _ _ _ us hl => match us, hl with | [_, _, _], _ => rfl
  have F3 := fun_mk (st := s_ring_behind) l3 c3 k3
  have b3 := F3.binds (ps := ["place", "last", "steps"]) fun _ _ _ _ _ _ us hl => match us, hl with | [_, _, _], _ => rfl
  have F4 := fun_mk (st := s_doors_in) l4 c4 k4
  have b4 := F4.binds (ps := ["room"]) fun _ _ _ _ _ _ us hl => match us, hl with | [_], _ => rfl
  have F5 := fun_mk (st := s_doors_out) l5 c5 k5
  have b5 := F5.binds (ps := ["room"]) fun _ _ _ _ _ _ us hl => match us, hl with | [_], _ => rfl
  have F6 := fun_mk (st := s_trays_on) l6 c6 k6
  have b6 := F6.binds (ps := ["room", "way"]) fun _ _ _ _ _ _ us hl => match us, hl with | [_, _], _ => rfl
  have F7 := fun_mk (st := s_way_end) l7 c7 k7
  have b7 := F7.binds (ps := ["room", "pair"]) fun _ _ _ _ _ _ us hl => match us, hl with | [_, _], _ => rfl
  have F8 := fun_mk (st := s_jumps) l8 c8 k8
  have b8 := F8.binds (ps := ["room", "late"]) fun _ _ _ _ _ _ us hl => match us, hl with | [_, _], _ => rfl
  have F9 := fun_mk (st := s_shifts_by) l9 c9 k9
  have b9 := F9.binds (ps := ["room", "late", "levels"]) fun _ _ _ _ _ _ us hl => match us, hl with | [_, _, _], _ => rfl
  have F10 := fun_mk (st := s_walk_trays) l10 c10 k10
  have b10 := F10.binds (ps := ["room", "late", "walk"]) fun _ _ _ _ _ _ us hl => match us, hl with | [_, _, _], _ => rfl
  have F11 := fun_mk (st := s_closed_trays) l11 c11 k11
  have b11 := F11.binds (ps := ["room", "late", "walk"]) fun _ _ _ _ _ _ us hl => match us, hl with | [_, _, _], _ => rfl
  have F12 := fun_mk (st := s_step_trays) l12 c12 k12
  have b12 := F12.binds (ps := ["room", "late", "end", "begin"]) fun _ _ _ _ _ _ us hl => match us, hl with | [_, _, _, _], _ => rfl
  have F13 := fun_mk (st := s_full_shifts) l13 c13 k13
  have b13 := F13.binds (ps := ["room", "late"]) fun _ _ _ _ _ _ us hl => match us, hl with | [_, _], _ => rfl
  have F14 := fun_mk (st := s_ring_holds) l14 c14 k14
  have b14 := F14.binds (ps := ["room", "late", "ring"]) fun _ _ _ _ _ _ us hl => match us, hl with | [_, _, _], _ => rfl
  have F15 := fun_mk (st := s_law_flow) l15 c15 k15
  have b15 := F15.binds (ps := ["_law_script"]) fun _ _ _ _ _ _ us hl => match us, hl with | [_], _ => rfl
  have F16 := fun_mk (st := s_law_pick) l16 c16 k16
  have b16 := F16.binds (ps := ["_law_flow_here", "_law_many"]) fun _ _ _ _ _ _ us hl => match us, hl with | [_, _], _ => rfl
  have F17 := fun_mk (st := s_law_thing) l17 c17 k17
  have b17 := F17.binds (ps := ["_law_flow_here"]) fun _ _ _ _ _ _ us hl => match us, hl with | [_], _ => rfl
  have F18 := fun_mk (st := s_law_needs) l18 c18 k18
  have b18 := F18.binds (ps := ["_law_rule_here"]) fun _ _ _ _ _ _ us hl => match us, hl with | [_], _ => rfl
  have F19 := fun_mk (st := s_law_rule) l19 c19 k19
  have b19 := F19.binds (ps := ["_law_flow_here", "_law_most"]) fun _ _ _ _ _ _ us hl => match us, hl with | [_, _], _ => rfl
  have F20 := fun_mk (st := s_law_shuffled) l20 c20 k20
  have b20 := F20.binds (ps := ["_law_flow_here", "_law_some"]) fun _ _ _ _ _ _ us hl => match us, hl with | [_, _], _ => rfl
  have F21 := fun_mk (st := s_law_hands) l21 c21 k21
  have b21 := F21.binds (ps := ["_law_flow_here", "_law_many"]) fun _ _ _ _ _ _ us hl => match us, hl with | [_, _], _ => rfl
  have F22 := fun_mk (st := s_law_room) l22 c22 k22
  have b22 := F22.binds (ps := ["_law_flow_here", "_law_most"]) fun _ _ _ _ _ _ us hl => match us, hl with | [_, _], _ => rfl
  have F23 := fun_mk (st := s_law_alike) l23 c23 k23
  have b23 := F23.binds (ps := ["_law_found", "_law_due"]) fun _ _ _ _ _ _ us hl => match us, hl with | [_, _], _ => rfl
  have F24 := fun_mk (st := s_law_doors_room) l24 c24 k24
  have b24 := F24.binds (ps := ["_law_flow_here"]) fun _ _ _ _ _ _ us hl => match us, hl with | [_], _ => rfl
  have F25 := fun_mk (st := s_law_any_room) l25 c25 k25
  have b25 := F25.binds (ps := ["_law_flow_here"]) fun _ _ _ _ _ _ us hl => match us, hl with | [_], _ => rfl
  have F26 := fun_mk (st := s_law_end) l26 c26 k26
  have b26 := F26.binds (ps := ["_law_room_here", "_law_pair"]) fun _ _ _ _ _ _ us hl => match us, hl with | [_, _], _ => rfl
  have F27 := fun_mk (st := s_law_trays) l27 c27 k27
  have b27 := F27.binds (ps := ["_law_room_here", "_law_way"]) fun _ _ _ _ _ _ us hl => match us, hl with | [_, _], _ => rfl
  have F28 := fun_mk (st := s_law_walk_trays) l28 c28 k28
  have b28 := F28.binds (ps := ["_law_room_here", "_law_late_here", "_law_walk", "_law_closed"]) fun _ _ _ _ _ _ us hl => match us, hl with | [_, _, _, _], _ => rfl
  have F29 := fun_mk (st := s_law_belts) l29 c29 k29
  have b29 := F29.binds (ps := ["_law_walk"]) fun _ _ _ _ _ _ us hl => match us, hl with | [_], _ => rfl
  have F30 := fun_mk (st := s_law_any_way) l30 c30 k30
  have b30 := F30.binds (ps := ["_law_flow_here", "_law_room_here", "_law_most"]) fun _ _ _ _ _ _ us hl => match us, hl with | [_, _, _], _ => rfl
  have F31 := fun_mk (st := s_law_way_otherwise) l31 c31 k31
  have b31 := F31.binds (ps := ["_law_flow_here", "_law_room_here", "_law_way"]) fun _ _ _ _ _ _ us hl => match us, hl with | [_, _, _], _ => rfl
  have F32 := fun_mk (st := s_law_walk_otherwise) l32 c32 k32
  have b32 := F32.binds (ps := ["_law_flow_here", "_law_room_here", "_law_walk"]) fun _ _ _ _ _ _ us hl => match us, hl with | [_, _, _], _ => rfl
  have F33 := fun_mk (st := s_law_is_small) l33 c33 k33
  have b33 := F33.binds (ps := ["_law_walk"]) fun _ _ _ _ _ _ us hl => match us, hl with | [_], _ => rfl
  have F34 := fun_mk (st := s_law_rings) l34 c34 k34
  have b34 := F34.binds (ps := ["_law_room_here"]) fun _ _ _ _ _ _ us hl => match us, hl with | [_], _ => rfl
  have F35 := fun_mk (st := s_law_ring_holds) l35 c35 k35
  have b35 := F35.binds (ps := ["_law_room_here", "_law_late_here", "_law_ring"]) fun _ _ _ _ _ _ us hl => match us, hl with | [_, _, _], _ => rfl
  have F36 := fun_mk (st := s_law_late) l36 c36 k36
  have b36 := F36.binds (ps := ["_law_flow_here"]) fun _ _ _ _ _ _ us hl => match us, hl with | [_], _ => rfl
  have F37 := fun_mk (st := s_law_begun) l37 c37 k37
  have b37 := F37.binds (ps := ["_law_flow_here", "_law_room_here", "_law_late_here"]) fun _ _ _ _ _ _ us hl => match us, hl with | [_, _, _], _ => rfl
  have F38 := fun_mk (st := s_law) l38 c38 k38
  have T : Top K mg := ⟨⟨f1, _, F1, b1, PySem.W.mg_of X G a1⟩, ⟨f2, _, F2, b2, PySem.W.mg_of X G a2⟩, ⟨f3, _, F3, b3, PySem.W.mg_of X G a3⟩, ⟨f4, _, F4, b4, PySem.W.mg_of X G a4⟩, ⟨f5, _, F5, b5, PySem.W.mg_of X G a5⟩, ⟨f6, _, F6, b6, PySem.W.mg_of X G a6⟩, ⟨f7, _, F7, b7, PySem.W.mg_of X G a7⟩, ⟨f8, _, F8, b8, PySem.W.mg_of X G a8⟩, ⟨f9, _, F9, b9, PySem.W.mg_of X G a9⟩, ⟨f10, _, F10, b10, PySem.W.mg_of X G a10⟩, ⟨f11, _, F11, b11, PySem.W.mg_of X G a11⟩, ⟨f12, _, F12, b12, PySem.W.mg_of X G a12⟩, ⟨f13, _, F13, b13, PySem.W.mg_of X G a13⟩, ⟨f14, _, F14, b14, PySem.W.mg_of X G a14⟩, ⟨f15, _, F15, b15, PySem.W.mg_of X G a15⟩, ⟨f16, _, F16, b16, PySem.W.mg_of X G a16⟩, ⟨f17, _, F17, b17, PySem.W.mg_of X G a17⟩, ⟨f18, _, F18, b18, PySem.W.mg_of X G a18⟩, ⟨f19, _, F19, b19, PySem.W.mg_of X G a19⟩, ⟨f20, _, F20, b20, PySem.W.mg_of X G a20⟩, ⟨f21, _, F21, b21, PySem.W.mg_of X G a21⟩, ⟨f22, _, F22, b22, PySem.W.mg_of X G a22⟩, ⟨f23, _, F23, b23, PySem.W.mg_of X G a23⟩, ⟨f24, _, F24, b24, PySem.W.mg_of X G a24⟩, ⟨f25, _, F25, b25, PySem.W.mg_of X G a25⟩, ⟨f26, _, F26, b26, PySem.W.mg_of X G a26⟩, ⟨f27, _, F27, b27, PySem.W.mg_of X G a27⟩, ⟨f28, _, F28, b28, PySem.W.mg_of X G a28⟩, ⟨f29, _, F29, b29, PySem.W.mg_of X G a29⟩, ⟨f30, _, F30, b30, PySem.W.mg_of X G a30⟩, ⟨f31, _, F31, b31, PySem.W.mg_of X G a31⟩, ⟨f32, _, F32, b32, PySem.W.mg_of X G a32⟩, ⟨f33, _, F33, b33, PySem.W.mg_of X G a33⟩, ⟨f34, _, F34, b34, PySem.W.mg_of X G a34⟩, ⟨f35, _, F35, b35, PySem.W.mg_of X G a35⟩, ⟨f36, _, F36, b36, PySem.W.mg_of X G a36⟩, ⟨f37, _, F37, b37, PySem.W.mg_of X G a37⟩, PySem.W.mg_none_of X G z1, PySem.W.mg_none_of X G z2, PySem.W.mg_none_of X G z3, PySem.W.mg_none_of X G z4, PySem.W.mg_none_of X G z5, PySem.W.mg_none_of X G z6, PySem.W.mg_none_of X G z7, PySem.W.mg_none_of X G z8, PySem.W.mg_none_of X G z9, PySem.W.mg_none_of X G z10, PySem.W.mg_none_of X G z11, PySem.W.mg_none_of X G z12, PySem.W.mg_none_of X G z13, PySem.W.mg_none_of X G z14, ⟨aI, PySem.W.mg_of X G gI, one_at lI⟩, ⟨aO, PySem.W.mg_of X G gO, one_at lO⟩⟩
  exact ⟨PySem.W.fnOf "law" "law" (defArgs s_law) (defBody s_law) (defScope s_law) .none kV38 dc38 pm38 an38 cd38 ct38, fun s v => .of_eq rfl, fun base _ _ => ok_law F38 T⟩
end Mine
open PySem PySem.W PyProof.Rows
set_option maxRecDepth 100000 in
set_option maxHeartbeats 0 in
theorem PySem.Challenge.cw_beltshift_k57_rings_looked_at_holds : PySem.Challenge.rw_beltshift_k57_rings_looked_at.Holds := by
  w_on; o_law; k_head; (case hw => w_witness2)
  k_fill
  refine L2.walk_of (l := PySem.Challenge.rw_beltshift_k57_rings_looked_at) (n := 63) (k := 7) (x := "_law_script") (CX := fun _ => L2.CX0) (sp := fun w => Mine.sp_law _) rfl (by decide) rfl ⟨rfl, by decide, by decide⟩ (fun w h Y => PySem.W.kIn_of Y) ?F (fun _ _ a ns hl _ hS => ⟨a, ns, rfl, hS, hl, fun _ => rfl⟩) (fun _ _ _ _ _ h => h)
  case F =>
    intro w mg fa h KX G hmg
    refine' Mine.all_mk KX G hmg ?a1 ?l1 ?c1 ?k1 ?a2 ?l2 ?c2 ?k2 ?a3 ?l3 ?c3 ?k3 ?a4 ?l4 ?c4 ?k4 ?a5 ?l5 ?c5 ?k5 ?a6 ?l6 ?c6 ?k6 ?a7 ?l7 ?c7 ?k7 ?a8 ?l8 ?c8 ?k8 ?a9 ?l9 ?c9 ?k9 ?a10 ?l10 ?c10 ?k10 ?a11 ?l11 ?c11 ?k11 ?a12 ?l12 ?c12 ?k12 ?a13 ?l13 ?c13 ?k13 ?a14 ?l14 ?c14 ?k14 ?a15 ?l15 ?c15 ?k15 ?a16 ?l16 ?c16 ?k16 ?a17 ?l17 ?c17 ?k17 ?a18 ?l18 ?c18 ?k18 ?a19 ?l19 ?c19 ?k19 ?a20 ?l20 ?c20 ?k20 ?a21 ?l21 ?c21 ?k21 ?a22 ?l22 ?c22 ?k22 ?a23 ?l23 ?c23 ?k23 ?a24 ?l24 ?c24 ?k24 ?a25 ?l25 ?c25 ?k25 ?a26 ?l26 ?c26 ?k26 ?a27 ?l27 ?c27 ?k27 ?a28 ?l28 ?c28 ?k28 ?a29 ?l29 ?c29 ?k29 ?a30 ?l30 ?c30 ?k30 ?a31 ?l31 ?c31 ?k31 ?a32 ?l32 ?c32 ?k32 ?a33 ?l33 ?c33 ?k33 ?a34 ?l34 ?c34 ?k34 ?a35 ?l35 ?c35 ?k35 ?a36 ?l36 ?c36 ?k36 ?a37 ?l37 ?c37 ?k37 ?a38 ?l38 ?c38 ?k38 ?z1 ?z2 ?z3 ?z4 ?z5 ?z6 ?z7 ?z8 ?z9 ?z10 ?z11 ?z12 ?z13 ?z14 ?gI ?lI ?gO ?lO
    (case a1 => k_is)
    (case l1 => k_is)
    (case c1 => k_is)
    (case k1 => k_is)
    (case a2 => k_is)
    (case l2 => k_is)
    (case c2 => k_is)
    (case k2 => k_is)
    (case a3 => k_is)
    (case l3 => k_is)
    (case c3 => k_is)
    (case k3 => k_is)
    (case a4 => k_is)
    (case l4 => k_is)
    (case c4 => k_is)
    (case k4 => k_is)
    (case a5 => k_is)
    (case l5 => k_is)
    (case c5 => k_is)
    (case k5 => k_is)
    (case a6 => k_is)
    (case l6 => k_is)
    (case c6 => k_is)
    (case k6 => k_is)
    (case a7 => k_is)
    (case l7 => k_is)
    (case c7 => k_is)
    (case k7 => k_is)
    (case a8 => k_is)
    (case l8 => k_is)
    (case c8 => k_is)
    (case k8 => k_is)
    (case a9 => k_is)
    (case l9 => k_is)
    (case c9 => k_is)
    (case k9 => k_is)
    (case a10 => k_is)
    (case l10 => k_is)
    (case c10 => k_is)
    (case k10 => k_is)
    (case a11 => k_is)
    (case l11 => k_is)
    (case c11 => k_is)
    (case k11 => k_is)
    (case a12 => k_is)
    (case l12 => k_is)
    (case c12 => k_is)
    (case k12 => k_is)
    (case a13 => k_is)
    (case l13 => k_is)
    (case c13 => k_is)
    (case k13 => k_is)
    (case a14 => k_is)
    (case l14 => k_is)
    (case c14 => k_is)
    (case k14 => k_is)
    (case a15 => k_is)
    (case l15 => k_is)
    (case c15 => k_is)
    (case k15 => k_is)
    (case a16 => k_is)
    (case l16 => k_is)
    (case c16 => k_is)
    (case k16 => k_is)
    (case a17 => k_is)
    (case l17 => k_is)
    (case c17 => k_is)
    (case k17 => k_is)
    (case a18 => k_is)
    (case l18 => k_is)
    (case c18 => k_is)
    (case k18 => k_is)
    (case a19 => k_is)
    (case l19 => k_is)
    (case c19 => k_is)
    (case k19 => k_is)
    (case a20 => k_is)
    (case l20 => k_is)
    (case c20 => k_is)
    (case k20 => k_is)
    (case a21 => k_is)
    (case l21 => k_is)
    (case c21 => k_is)
    (case k21 => k_is)
    (case a22 => k_is)
    (case l22 => k_is)
    (case c22 => k_is)
    (case k22 => k_is)
    (case a23 => k_is)
    (case l23 => k_is)
    (case c23 => k_is)
    (case k23 => k_is)
    (case a24 => k_is)
    (case l24 => k_is)
    (case c24 => k_is)
    (case k24 => k_is)
    (case a25 => k_is)
    (case l25 => k_is)
    (case c25 => k_is)
    (case k25 => k_is)
    (case a26 => k_is)
    (case l26 => k_is)
    (case c26 => k_is)
    (case k26 => k_is)
    (case a27 => k_is)
    (case l27 => k_is)
    (case c27 => k_is)
    (case k27 => k_is)
    (case a28 => k_is)
    (case l28 => k_is)
    (case c28 => k_is)
    (case k28 => k_is)
    (case a29 => k_is)
    (case l29 => k_is)
    (case c29 => k_is)
    (case k29 => k_is)
    (case a30 => k_is)
    (case l30 => k_is)
    (case c30 => k_is)
    (case k30 => k_is)
    (case a31 => k_is)
    (case l31 => k_is)
    (case c31 => k_is)
    (case k31 => k_is)
    (case a32 => k_is)
    (case l32 => k_is)
    (case c32 => k_is)
    (case k32 => k_is)
    (case a33 => k_is)
    (case l33 => k_is)
    (case c33 => k_is)
    (case k33 => k_is)
    (case a34 => k_is)
    (case l34 => k_is)
    (case c34 => k_is)
    (case k34 => k_is)
    (case a35 => k_is)
    (case l35 => k_is)
    (case c35 => k_is)
    (case k35 => k_is)
    (case a36 => k_is)
    (case l36 => k_is)
    (case c36 => k_is)
    (case k36 => k_is)
    (case a37 => k_is)
    (case l37 => k_is)
    (case c37 => k_is)
    (case k37 => k_is)
    (case a38 => k_is)
    (case l38 => k_is)
    (case c38 => k_is)
    (case k38 => k_is)
    (case z1 => k_is)
    (case z2 => k_is)
    (case z3 => k_is)
    (case z4 => k_is)
    (case z5 => k_is)
    (case z6 => k_is)
    (case z7 => k_is)
    (case z8 => k_is)
    (case z9 => k_is)
    (case z10 => k_is)
    (case z11 => k_is)
    (case z12 => k_is)
    (case z13 => k_is)
    (case z14 => k_is)
    (case gI => k_is)
    (case lI => k_is)
    (case gO => k_is)
    (case lO => k_is)

