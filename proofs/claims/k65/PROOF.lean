import PyProof.Rows.All
import HandS.TupMul
import Wide.All
import OpenK.AllK
import Wide.FinOn
import HandS.ForMost
import HandS.Wide
import HandS.Style
import HandS.IsInst
import HandS.TupAny
import HandS.NoneIn
import HandS.SetFor
import HandS.Conv
import HandS.Zip
import HandS.SortKw
import HandS.Deep
import KE.DataMinMax
import KE.GoesMore
import KE.KDictZip
import KE.GoesZip
import KE.GoesEnum
import HandS.AnyAll
import HandS.Words
import HandS.EndTab
import HandS.Lambda
import KE.KLam
import KE.DataMinKey
import HandS.HeadWalk
import HandS.Defaults
import HandS.Head0
import HandS.Head1
import HandS.Head2
import HandS.HeadEnd
import HandS.HeadHook1
import HandS.HeadHook2
import HandS.HeadHook3
import HandS.HeadHook4
import KE.KStateDown
import KE.KIsAll
import KE.KNestM
import PyProof.GenCompD
import PyProof.WalksMore
import PySem.Challenge.RW_beltshift_k65_holders_looked_at
set_option Elab.async false
set_option linter.all false
set_option maxRecDepth 100000
namespace Mine
open PySem PyProof.Rows L2
def topS (i : Nat) : Stmt := PySem.Challenge.pw_beltshift_k65_holders_looked_at.main.body.getD i (.Pass ⟨0, 0, 0, 0⟩)
abbrev s_levels_or_ring : Stmt := topS 1
abbrev N_levels_or_ring : List Str := ["many", "steps", "levels", "last", "raised", "turn"]
theorem sc_levels_or_ring : FnScope N_levels_or_ring ["many", "steps"] (defScope s_levels_or_ring) := ⟨rfl, rfl, rfl, by decide +kernel, rfl, by decide +kernel, by decide +kernel⟩
abbrev s_raise_levels : Stmt := topS 2
abbrev N_raise_levels : List Str := ["levels", "last", "steps", "raised", "number", "begin", "end", "need"]
theorem sc_raise_levels : FnScope N_raise_levels ["levels", "last", "steps"] (defScope s_raise_levels) := ⟨rfl, rfl, rfl, by decide +kernel, rfl, by decide +kernel, by decide +kernel⟩
abbrev s_ring_behind : Stmt := topS 3
abbrev N_ring_behind : List Str := ["place", "last", "steps", "turn", "ring", "here"]
theorem sc_ring_behind : FnScope N_ring_behind ["place", "last", "steps"] (defScope s_ring_behind) := ⟨rfl, rfl, rfl, by decide +kernel, rfl, by decide +kernel, by decide +kernel⟩
abbrev s_trays_on : Stmt := topS 5
abbrev N_trays_on : List Str := ["room", "way", "number"]
theorem sc_trays_on : FnScope N_trays_on ["room", "way"] (defScope s_trays_on) := ⟨rfl, rfl, rfl, by decide +kernel, rfl, by decide +kernel, by decide +kernel⟩
abbrev s_moments_on : Stmt := topS 6
abbrev N_moments_on : List Str := ["room", "way", "hands", "belts", "first", "numbers", "number"]
theorem sc_moments_on : FnScope N_moments_on ["room", "way"] (defScope s_moments_on) := ⟨rfl, rfl, rfl, by decide +kernel, rfl, by decide +kernel, by decide +kernel⟩
abbrev s_way_end : Stmt := topS 7
abbrev N_way_end : List Str := ["room", "pair", "hands", "belts", "end", "numbers", "number"]
theorem sc_way_end : FnScope N_way_end ["room", "pair"] (defScope s_way_end) := ⟨rfl, rfl, rfl, by decide +kernel, rfl, by decide +kernel, by decide +kernel⟩
abbrev s_beat : Stmt := topS 9
abbrev N_beat : List Str := ["room", "fraction", "way", "numbers"]
theorem sc_beat : FnScope N_beat ["room"] (defScope s_beat) := ⟨rfl, rfl, rfl, by decide +kernel, rfl, by decide +kernel, by decide +kernel⟩
abbrev s_holder : Stmt := topS 10
abbrev N_holder : List Str := ["room", "fraction", "way", "numbers"]
theorem sc_holder : FnScope N_holder ["room"] (defScope s_holder) := ⟨rfl, rfl, rfl, by decide +kernel, rfl, by decide +kernel, by decide +kernel⟩
abbrev s_beat_papers : Stmt := topS 11
abbrev N_beat_papers : List Str := ["room", "hands", "belts", "slowest", "way", "fraction", "levels", "ring"]
theorem sc_beat_papers : FnScope N_beat_papers ["room"] (defScope s_beat_papers) := ⟨rfl, rfl, rfl, by decide +kernel, rfl, by decide +kernel, by decide +kernel⟩
abbrev s_beat_steps : Stmt := topS 12
abbrev N_beat_steps : List Str := ["room", "fraction", "a", "b", "hands", "belts", "giver", "taker", "things"]
theorem sc_beat_steps : FnScope N_beat_steps ["room", "fraction"] (defScope s_beat_steps) := ⟨rfl, rfl, rfl, by decide +kernel, rfl, by decide +kernel, by decide +kernel⟩
abbrev s_ring_moments : Stmt := topS 13
abbrev N_ring_moments : List Str := ["room", "way"]
theorem sc_ring_moments : FnScope N_ring_moments ["room", "way"] (defScope s_ring_moments) := ⟨rfl, rfl, rfl, by decide +kernel, rfl, by decide +kernel, by decide +kernel⟩
abbrev s_in_least_terms : Stmt := topS 14
abbrev N_in_least_terms : List Str := ["a", "b", "divisor", "left"]
theorem sc_in_least_terms : FnScope N_in_least_terms ["a", "b"] (defScope s_in_least_terms) := ⟨rfl, rfl, rfl, by decide +kernel, rfl, by decide +kernel, by decide +kernel⟩
abbrev s_holder_holds : Stmt := topS 15
abbrev N_holder_holds : List Str := ["room", "fraction", "way", "a", "b", "end"]
theorem sc_holder_holds : FnScope N_holder_holds ["room", "fraction", "way"] (defScope s_holder_holds) := ⟨rfl, rfl, rfl, by decide +kernel, rfl, by decide +kernel, by decide +kernel⟩
abbrev s_law_flow : Stmt := topS 17
abbrev N_law_flow : List Str := ["_law_script"]
theorem sc_law_flow : FnScope N_law_flow ["_law_script"] (defScope s_law_flow) := ⟨rfl, rfl, rfl, by decide +kernel, rfl, by decide +kernel, by decide +kernel⟩
abbrev s_law_pick : Stmt := topS 18
abbrev N_law_pick : List Str := ["_law_flow_here", "_law_many", "_law_cell", "_law_digit"]
theorem sc_law_pick : FnScope N_law_pick ["_law_flow_here", "_law_many"] (defScope s_law_pick) := ⟨rfl, rfl, rfl, by decide +kernel, rfl, by decide +kernel, by decide +kernel⟩
abbrev s_law_thing : Stmt := topS 19
abbrev N_law_thing : List Str := ["_law_flow_here"]
theorem sc_law_thing : FnScope N_law_thing ["_law_flow_here"] (defScope s_law_thing) := ⟨rfl, rfl, rfl, by decide +kernel, rfl, by decide +kernel, by decide +kernel⟩
abbrev s_law_needs : Stmt := topS 20
abbrev N_law_needs : List Str := ["_law_rule_here"]
theorem sc_law_needs : FnScope N_law_needs ["_law_rule_here"] (defScope s_law_needs) := ⟨rfl, rfl, rfl, by decide +kernel, rfl, by decide +kernel, by decide +kernel⟩
abbrev s_law_rule : Stmt := topS 21
abbrev N_law_rule : List Str := ["_law_flow_here", "_law_most", "_law_words", "_law_word"]
theorem sc_law_rule : FnScope N_law_rule ["_law_flow_here", "_law_most"] (defScope s_law_rule) := ⟨rfl, rfl, rfl, by decide +kernel, rfl, by decide +kernel, by decide +kernel⟩
abbrev s_law_shuffled : Stmt := topS 22
abbrev N_law_shuffled : List Str := ["_law_flow_here", "_law_some", "_law_left", "_law_k"]
theorem sc_law_shuffled : FnScope N_law_shuffled ["_law_flow_here", "_law_some"] (defScope s_law_shuffled) := ⟨rfl, rfl, rfl, by decide +kernel, rfl, by decide +kernel, by decide +kernel⟩
abbrev s_law_hands : Stmt := topS 23
abbrev N_law_hands : List Str := ["_law_flow_here", "_law_many", "_law_sorts", "_law_left", "_law_hands_here", "_law_k", "_law_sort", "_law_behind", "_law_other", "_law_rule_here"]
theorem sc_law_hands : FnScope N_law_hands ["_law_flow_here", "_law_many"] (defScope s_law_hands) := ⟨rfl, rfl, rfl, by decide +kernel, rfl, by decide +kernel, by decide +kernel⟩
abbrev s_law_room : Stmt := topS 24
abbrev N_law_room : List Str := ["_law_flow_here", "_law_most", "_law_hands_here", "_law_ranks", "_law_givers", "_law_k", "_law_takers", "_law_belts", "_law_to", "_law_one", "_law_trays_here"]
theorem sc_law_room : FnScope N_law_room ["_law_flow_here", "_law_most"] (defScope s_law_room) := ⟨rfl, rfl, rfl, by decide +kernel, rfl, by decide +kernel, by decide +kernel⟩
abbrev s_law_alike : Stmt := topS 25
abbrev N_law_alike : List Str := ["_law_found", "_law_due", "_law_one", "_law_other"]
theorem sc_law_alike : FnScope N_law_alike ["_law_found", "_law_due"] (defScope s_law_alike) := ⟨rfl, rfl, rfl, by decide +kernel, rfl, by decide +kernel, by decide +kernel⟩
abbrev s_law_doors_room : Stmt := topS 26
abbrev N_law_doors_room : List Str := ["_law_flow_here", "_law_ins", "_law_outs", "_law_sorts", "_law_givers", "_law_k", "_law_sort", "_law_belts", "_law_things", "_law_j"]
theorem sc_law_doors_room : FnScope N_law_doors_room ["_law_flow_here"] (defScope s_law_doors_room) := ⟨rfl, rfl, rfl, by decide +kernel, rfl, by decide +kernel, by decide +kernel⟩
abbrev s_law_any_room : Stmt := topS 27
abbrev N_law_any_room : List Str := ["_law_flow_here", "_law_form", "_law_found"]
theorem sc_law_any_room : FnScope N_law_any_room ["_law_flow_here"] (defScope s_law_any_room) := ⟨rfl, rfl, rfl, by decide +kernel, rfl, by decide +kernel, by decide +kernel⟩
abbrev s_law_end : Stmt := topS 28
abbrev N_law_end : List Str := ["_law_room_here", "_law_pair", "_law_here", "_law_b"]
theorem sc_law_end : FnScope N_law_end ["_law_room_here", "_law_pair"] (defScope s_law_end) := ⟨rfl, rfl, rfl, by decide +kernel, rfl, by decide +kernel, by decide +kernel⟩
abbrev s_law_trays : Stmt := topS 29
abbrev N_law_trays : List Str := ["_law_room_here", "_law_way", "_law_b"]
theorem sc_law_trays : FnScope N_law_trays ["_law_room_here", "_law_way"] (defScope s_law_trays) := ⟨rfl, rfl, rfl, by decide +kernel, rfl, by decide +kernel, by decide +kernel⟩
abbrev s_law_moments : Stmt := topS 30
abbrev N_law_moments : List Str := ["_law_room_here", "_law_way", "_law_b"]
theorem sc_law_moments : FnScope N_law_moments ["_law_room_here", "_law_way"] (defScope s_law_moments) := ⟨rfl, rfl, rfl, by decide +kernel, rfl, by decide +kernel, by decide +kernel⟩
abbrev s_law_any_way : Stmt := topS 31
abbrev N_law_any_way : List Str := ["_law_flow_here", "_law_room_here", "_law_most", "_law_here", "_law_start", "_law_belts", "_law_turn", "_law_some", "_law_b", "_law_belt"]
theorem sc_law_any_way : FnScope N_law_any_way ["_law_flow_here", "_law_room_here", "_law_most"] (defScope s_law_any_way) := ⟨rfl, rfl, rfl, by decide +kernel, rfl, by decide +kernel, by decide +kernel⟩
abbrev s_law_way_otherwise : Stmt := topS 32
abbrev N_law_way_otherwise : List Str := ["_law_flow_here", "_law_room_here", "_law_way", "_law_form", "_law_at", "_law_b"]
theorem sc_law_way_otherwise : FnScope N_law_way_otherwise ["_law_flow_here", "_law_room_here", "_law_way"] (defScope s_law_way_otherwise) := ⟨rfl, rfl, rfl, by decide +kernel, rfl, by decide +kernel, by decide +kernel⟩
abbrev s_law_rings : Stmt := topS 33
abbrev N_law_rings : List Str := ["_law_room_here", "_law_found", "_law_start", "_law_here", "_law_turn", "_law_longer", "_law_hand", "_law_belts", "_law_met", "_law_b", "_law_belt"]
theorem sc_law_rings : FnScope N_law_rings ["_law_room_here"] (defScope s_law_rings) := ⟨rfl, rfl, rfl, by decide +kernel, rfl, by decide +kernel, by decide +kernel⟩
abbrev s_law_ring_moments : Stmt := topS 34
abbrev N_law_ring_moments : List Str := ["_law_room_here", "_law_way"]
theorem sc_law_ring_moments : FnScope N_law_ring_moments ["_law_room_here", "_law_way"] (defScope s_law_ring_moments) := ⟨rfl, rfl, rfl, by decide +kernel, rfl, by decide +kernel, by decide +kernel⟩
abbrev s_law_holder_holds : Stmt := topS 35
abbrev N_law_holder_holds : List Str := ["_law_room_here", "_law_fraction", "_law_way", "_law_end_here", "_law_held"]
theorem sc_law_holder_holds : FnScope N_law_holder_holds ["_law_room_here", "_law_fraction", "_law_way"] (defScope s_law_holder_holds) := ⟨rfl, rfl, rfl, by decide +kernel, rfl, by decide +kernel, by decide +kernel⟩
abbrev s_law_some_way : Stmt := topS 36
abbrev N_law_some_way : List Str := ["_law_flow_here", "_law_room_here", "_law_form", "_law_rings_here", "_law_way"]
theorem sc_law_some_way : FnScope N_law_some_way ["_law_flow_here", "_law_room_here"] (defScope s_law_some_way) := ⟨rfl, rfl, rfl, by decide +kernel, rfl, by decide +kernel, by decide +kernel⟩
abbrev s_law_some_fraction : Stmt := topS 37
abbrev N_law_some_fraction : List Str := ["_law_flow_here", "_law_room_here", "_law_way", "_law_form", "_law_a", "_law_b", "_law_by"]
theorem sc_law_some_fraction : FnScope N_law_some_fraction ["_law_flow_here", "_law_room_here", "_law_way"] (defScope s_law_some_fraction) := ⟨rfl, rfl, rfl, by decide +kernel, rfl, by decide +kernel, by decide +kernel⟩
abbrev s_law : Stmt := topS 38
abbrev N_law : List Str := ["_law_script", "_law_flow_here", "_law_room_here", "_law_told", "_law_turn", "_law_way", "_law_k", "_law_fraction", "_law_found"]
theorem sc_law : FnScope N_law ["_law_script"] (defScope s_law) := ⟨rfl, rfl, rfl, by decide +kernel, rfl, by decide +kernel, by decide +kernel⟩

/-- a def of the text stands, binds and is bound -/
def Dd (K : PySem.W.Frag) (mg : Str → Option Value) (name : Str) (st : Stmt) (ps : List Str) : Prop :=
  ∃ (f : Addr) (fd : FuncData), Fun K name name st f fd ∧ Binds K fd ps [] ∧ mg name = some (.ref f)
structure Top (K : PySem.W.Frag) (mg : Str → Option Value) : Prop where
  d_levels_or_ring : Dd K mg "levels_or_ring" s_levels_or_ring ["many", "steps"]
  d_raise_levels : Dd K mg "raise_levels" s_raise_levels ["levels", "last", "steps"]
  d_ring_behind : Dd K mg "ring_behind" s_ring_behind ["place", "last", "steps"]
  d_trays_on : Dd K mg "trays_on" s_trays_on ["room", "way"]
  d_moments_on : Dd K mg "moments_on" s_moments_on ["room", "way"]
  d_way_end : Dd K mg "way_end" s_way_end ["room", "pair"]
  d_beat : Dd K mg "beat" s_beat ["room"]
  d_holder : Dd K mg "holder" s_holder ["room"]
  d_beat_papers : Dd K mg "beat_papers" s_beat_papers ["room"]
  d_beat_steps : Dd K mg "beat_steps" s_beat_steps ["room", "fraction"]
  d_ring_moments : Dd K mg "ring_moments" s_ring_moments ["room", "way"]
  d_in_least_terms : Dd K mg "in_least_terms" s_in_least_terms ["a", "b"]
  d_holder_holds : Dd K mg "holder_holds" s_holder_holds ["room", "fraction", "way"]
  d_law_flow : Dd K mg "_law_flow" s_law_flow ["_law_script"]
  d_law_pick : Dd K mg "_law_pick" s_law_pick ["_law_flow_here", "_law_many"]
  d_law_thing : Dd K mg "_law_thing" s_law_thing ["_law_flow_here"]
  d_law_needs : Dd K mg "_law_needs" s_law_needs ["_law_rule_here"]
  d_law_rule : Dd K mg "_law_rule" s_law_rule ["_law_flow_here", "_law_most"]
  d_law_shuffled : Dd K mg "_law_shuffled" s_law_shuffled ["_law_flow_here", "_law_some"]
  d_law_hands : Dd K mg "_law_hands" s_law_hands ["_law_flow_here", "_law_many"]
  d_law_room : Dd K mg "_law_room" s_law_room ["_law_flow_here", "_law_most"]
  d_law_alike : Dd K mg "_law_alike" s_law_alike ["_law_found", "_law_due"]
  d_law_doors_room : Dd K mg "_law_doors_room" s_law_doors_room ["_law_flow_here"]
  d_law_any_room : Dd K mg "_law_any_room" s_law_any_room ["_law_flow_here"]
  d_law_end : Dd K mg "_law_end" s_law_end ["_law_room_here", "_law_pair"]
  d_law_trays : Dd K mg "_law_trays" s_law_trays ["_law_room_here", "_law_way"]
  d_law_moments : Dd K mg "_law_moments" s_law_moments ["_law_room_here", "_law_way"]
  d_law_any_way : Dd K mg "_law_any_way" s_law_any_way ["_law_flow_here", "_law_room_here", "_law_most"]
  d_law_way_otherwise : Dd K mg "_law_way_otherwise" s_law_way_otherwise ["_law_flow_here", "_law_room_here", "_law_way"]
  d_law_rings : Dd K mg "_law_rings" s_law_rings ["_law_room_here"]
  d_law_ring_moments : Dd K mg "_law_ring_moments" s_law_ring_moments ["_law_room_here", "_law_way"]
  d_law_holder_holds : Dd K mg "_law_holder_holds" s_law_holder_holds ["_law_room_here", "_law_fraction", "_law_way"]
  d_law_some_way : Dd K mg "_law_some_way" s_law_some_way ["_law_flow_here", "_law_room_here"]
  d_law_some_fraction : Dd K mg "_law_some_fraction" s_law_some_fraction ["_law_flow_here", "_law_room_here", "_law_way"]
  m_all : mg "all" = none
  m_bool : mg "bool" = none
  m_enumerate : mg "enumerate" = none
  m_int : mg "int" = none
  m_isinstance : mg "isinstance" = none
  m_len : mg "len" = none
  m_list : mg "list" = none
  m_max : mg "max" = none
  m_min : mg "min" = none
  m_range : mg "range" = none
  m_sum : mg "sum" = none
  m_tuple : mg "tuple" = none
  m_zip : mg "zip" = none

/-! ### heaps -/
def But (f : Addr) (H H' : Hp) : Prop := ∀ b o, H b = some o → b ≠ f → H' b = some o
theorem But.refl {f : Addr} {H : Hp} : But f H H := fun _ _ e _ => e
theorem But.trans {f : Addr} {H H1 H2 : Hp} (a : But f H H1) (b : But f H1 H2) : But f H H2 := fun x o e n => b x o (a x o e n) n
theorem But.upd {f : Addr} {H H1 : Hp} {o : HO} (a : But f H H1) : But f H (upd H1 f o) := fun x u e n => by rw [upd_ne n]; exact a x u e n
theorem But.new {f p : Addr} {H H1 : Hp} {o : HO} (a : But f H H1) (h : H1 p = none) : But f H (L2.upd H1 p o) := fun x u e n => by
  have e1 := a x u e n
  rw [upd_ne (ne_of_none e1 h)]
  exact e1
theorem same_new {H : Hp} {p : Addr} {o : HO} (h : H p = none) : Same H (upd H p o) := fun b u q => by rw [upd_ne (ne_of_none q h)]; exact q
theorem But.same {f : Addr} {H H1 H2 : Hp} (a : But f H H1) (b : Same H1 H2) : But f H H2 := fun x o e n => b x o (a x o e n)
theorem But.seqT {K : PySem.W.Frag} {f a : Addr} {H H1 : Hp} {xs : List V} (b : But f H H1) (h : SqT K H a xs) (n : a ≠ f) : SqT K H1 a xs := by
  rcases h with h | h
  · left
    rcases h with h | ⟨o, h⟩
    · exact .inl (b _ _ h n)
    · exact .inr ⟨o, b _ _ h n⟩
  · exact .inr h
/-- a comprehension without a test -/
theorem yes_in {σ : L2.St} {H : Hp} {A B : Hp → Prop} (h : A H) : tYes σ H (fun b H3 => if b = true then A H3 else B H3) := by
  show (if true = true then A H else B H)
  rw [if_pos rfl]
  exact h
/-! ### the draw -/
/-- the list of the law's draws at f, the script's copy at c -/
def Flow (H : Hp) (f c : Addr) : Prop := ∃ (ns : List Int) (i p q r : Int), H f = some (.lst [.ref c, .int i, .int p, .int q, .int r]) ∧ H c = some (.lst (ns.map V.int)) ∧ 0 ≤ i ∧ 0 ≤ p ∧ 0 ≤ q ∧ q < 2147483647
theorem Flow.new {H : Hp} {f c p : Addr} {o : HO} (h : Flow H f c) (n : H p = none) : Flow (upd H p o) f c := by
  obtain ⟨ns, i, a, q, r, e1, e2, e⟩ := h
  exact ⟨ns, i, a, q, r, same_new n _ _ e1, same_new n _ _ e2, e⟩
theorem Flow.ne {H : Hp} {f c p : Addr} (h : Flow H f c) (n : H p = none) : p ≠ f := by
  obtain ⟨ns, i, a, q, r, e1, _⟩ := h
  exact fun e => by rw [e, e1] at n; cases n
theorem Flow.nec {H : Hp} {f c p : Addr} (h : Flow H f c) (n : H p = none) : p ≠ c := by
  obtain ⟨ns, i, a, q, r, _, e1, _⟩ := h
  exact fun e => by rw [e, e1] at n; cases n
theorem Flow.lst {H : Hp} {f c p : Addr} {o : HO} (h : Flow H f c) (n1 : p ≠ f) (n2 : p ≠ c) : Flow (upd H p o) f c := by
  obtain ⟨ns, i, a, q, r, e1, e2, e⟩ := h
  exact ⟨ns, i, a, q, r, by rw [upd_ne n1.symm]; exact e1, by rw [upd_ne n2.symm]; exact e2, e⟩
theorem Flow.same {H H' : Hp} {f c : Addr} (h : Flow H f c) (s : Same H H') : Flow H' f c := by
  obtain ⟨ns, i, a, q, r, e1, e2, e⟩ := h
  exact ⟨ns, i, a, q, r, s _ _ e1, s _ _ e2, e⟩
theorem Flow.tup {H : Hp} {f c p : Addr} {xs : List V} (h : Flow H f c) (e : H p = some (.tup xs)) : p ≠ f := by
  obtain ⟨ns, i, a, q, r, e1, _⟩ := h
  exact ne_of e e1 (by intro z; cases z)
theorem at_ints {ns : List Int} {i : Int} (h0 : 0 ≤ i) (h1 : i < (ns.length : Int)) : ∃ v : Int, atI (ns.map V.int) i = some (.int v) := by
  have hk : i.toNat < ns.length := by omega
  have ek : i = ((i.toNat : Nat) : Int) := by omega
  have q : atI (ns.map V.int) ((i.toNat : Nat) : Int) = some (.int ns[i.toNat]) := atI_nat (by rw [List.getElem?_map, List.getElem?_eq_getElem hk]; rfl)
  rw [← ek] at q
  exact ⟨_, q⟩
/-- a block by less than it asks -/
theorem PSs.to {X : Cx} {ss : List Stmt} {t : TS} (h : PSs X ss t) (u : TS) (k : ∀ D σ H, u D σ H → t D σ H) : PSs X ss u := ⟨fun pins s σ H D I q => h.run pins s σ H D I (k D σ H q)⟩
theorem if_bl {b : Bool} {A B : Prop} (h1 : b = true → A) (h2 : b = false → B) : if b = true then A else B := by
  cases b
  · rw [if_neg Bool.false_ne_true]; exact h2 rfl
  · rw [if_pos rfl]; exact h1 rfl
/-! ### lists, two by two -/
inductive All2 {α β : Type} (R : α → β → Prop) : List α → List β → Prop
  | nil : All2 R [] []
  | cons {a b as bs} : R a b → All2 R as bs → All2 R (a :: as) (b :: bs)
theorem All2.imp {α β : Type} {R S : α → β → Prop} (h : ∀ a b, R a b → S a b) : ∀ {as bs}, All2 R as bs → All2 S as bs
  | _, _, .nil => .nil
  | _, _, .cons a b => .cons (h _ _ a) (All2.imp h b)
theorem All2.length {α β : Type} {R : α → β → Prop} : ∀ {as bs}, All2 R as bs → as.length = bs.length
  | _, _, .nil => rfl
  | _, _, .cons _ b => congrArg (· + 1) (All2.length b)
theorem All2.snoc {α β : Type} {R : α → β → Prop} {a b} (r : R a b) : ∀ {as bs}, All2 R as bs → All2 R (as ++ [a]) (bs ++ [b])
  | _, _, .nil => .cons r .nil
  | _, _, .cons h t => .cons h (All2.snoc r t)
theorem All2.get {α β : Type} {R : α → β → Prop} {as : List α} {bs : List β} (h : All2 R as bs) : ∀ {i : Nat} {b : β}, bs[i]? = some b → ∃ a, as[i]? = some a ∧ R a b := by
  induction h with
  | nil => intro i b e; cases e
  | cons r t ih =>
    intro i b e
    cases i with
    | zero => cases e; exact ⟨_, rfl, r⟩
    | succ i => exact ih e
theorem All2.getL {α β : Type} {R : α → β → Prop} {as : List α} {bs : List β} (h : All2 R as bs) : ∀ {i : Nat} {a : α}, as[i]? = some a → ∃ b, bs[i]? = some b ∧ R a b := by
  induction h with
  | nil => intro i b e; cases e
  | cons r t ih =>
    intro i b e
    cases i with
    | zero => cases e; exact ⟨_, rfl, r⟩
    | succ i => exact ih e
/-! ### tuples stay -/
def TK (H H' : Hp) : Prop := ∀ b xs, H b = some (.tup xs) → H' b = some (.tup xs)
theorem TK.refl {H : Hp} : TK H H := fun _ _ e => e
theorem TK.trans {H H1 H2 : Hp} (a : TK H H1) (b : TK H1 H2) : TK H H2 := fun x xs e => b x xs (a x xs e)
theorem TK.same {H H' : Hp} (s : Same H H') : TK H H' := fun x xs e => s _ _ e
theorem TK.new {H : Hp} {p : Addr} {o : HO} (n : H p = none) : TK H (upd H p o) := fun x xs e => same_new n _ _ e
theorem TK.lst {H : Hp} {p : Addr} {xs ys : List V} (h : H p = some (.lst xs)) : TK H (upd H p (.lst ys)) := fun x zs e => by
  rw [upd_ne (ne_of e h (by intro z; cases z))]
  exact e
theorem TK.but {H H' : Hp} {f c : Addr} (F : Flow H f c) (b : But f H H') : TK H H' := fun x xs e => b _ _ e (F.tup e)
theorem same_none {H H' : Hp} {p : Addr} (s : Same H H') (n : H' p = none) : H p = none := by
  cases e : H p with
  | none => rfl
  | some o => rw [s _ _ e] at n; cases n
theorem But.none {f p : Addr} {H H' : Hp} (b : But f H H') (n : H' p = Option.none) (h : p ≠ f) : H p = Option.none := by
  cases e : H p with
  | none => rfl
  | some o => rw [b _ _ e h] at n; cases n
theorem But.of {f : Addr} {H H' : Hp} (s : Same H H') : But f H H' := fun _ _ e _ => s _ _ e
/-- a list that was not there is written: what was stays -/
theorem But.own {f p : Addr} {H H1 : Hp} {o : HO} (a : But f H H1) (h : H p = Option.none) : But f H (L2.upd H1 p o) := fun x u e n => by
  rw [upd_ne (ne_of_none e h)]
  exact a x u e n
theorem Same.own {p : Addr} {H H1 : Hp} {o : HO} (a : Same H H1) (h : H p = Option.none) : Same H (L2.upd H1 p o) := fun x u e => by
  rw [upd_ne (ne_of_none e h)]
  exact a x u e
/-! ### loops over any iterator -/
theorem for_it {J : It} {n : Nat} {g : TG} {tb : TS} {D : Ends} {σ : L2.St} {H : Hp} (Pv : Nat → L2.St → Hp → Prop) (h0 : Pv 0 σ H) (go : ∀ i σ H, i < n → Pv i σ H → J.go i H) (st : ∀ σ H, Pv n σ H → J.stop n H)
    (hs : ∀ i x σ H H', i < n → Pv i σ H → J.yld i H x H' → g x σ H' fun σ2 H2 => tb { D with nx := Pv (i + 1), ct := Pv (i + 1), bk := D.nx } σ2 H2) (hd : ∀ σ H, Pv n σ H → D.nx σ H) :
    ∃ W : Nat → Nat → L2.St → Hp → Prop, (∃ m, W 0 m σ H) ∧ ∀ i m σ H, W i m σ H →
      (J.stop i H ∧ D.nx σ H) ∨ (J.go i H ∧ ∃ N : L2.St → Hp → Prop, (∀ σ' H', N σ' H' → ∃ m', m' < m ∧ W (i + 1) m' σ' H') ∧ ∀ x H', J.yld i H x H' → g x σ H' fun σ2 H2 => tb { D with nx := N, ct := N, bk := D.nx } σ2 H2) := by
  refine ⟨fun i m σ H => i + m = n ∧ Pv i σ H, ⟨n, by omega, h0⟩, fun i m σ H ⟨e, p⟩ => ?_⟩
  by_cases k : i < n
  · exact .inr ⟨go i σ H k p, Pv (i + 1), fun σ' H' p' => ⟨m - 1, by omega, by omega, p'⟩, fun x H' y => hs i x σ H H' k p y⟩
  · have z : i = n := by omega
    subst z
    exact .inl ⟨st σ H p, hd σ H p⟩
theorem lc_it {J : It} {n : Nat} {g : TG} {tt : TT} {te : TE} {vs : List Nat} {σ : L2.St} {H1 : Hp} {D : Addr} {Qd : Hp → Prop} (Pv : Nat → Hp → Prop) (h0 : Pv 0 (upd H1 D (.lst []))) (go : ∀ i H, i < n → Pv i H → J.go i H) (st : ∀ H, Pv n H → J.stop n H)
    (hs : ∀ i x H H', i < n → Pv i H → J.yld i H x H' → g x (wipe σ vs) H' fun σ2 H2 => wipe σ2 vs = wipe σ vs ∧ tt σ2 H2 fun b H3 =>
      if b = true then te σ2 H3 fun y H4 => ∃ acc, H4 D = some (.lst acc) ∧ acc.length < sizeLine ∧ Pv (i + 1) (upd H4 D (.lst (acc ++ [y]))) else Pv (i + 1) H3) (hd : ∀ H, Pv n H → Qd H) :
    ∃ W : Nat → Nat → Hp → Prop, (∃ m, W 0 m (upd H1 D (.lst []))) ∧ ∀ i m H, W i m H →
      (J.stop i H ∧ Qd H) ∨ (J.go i H ∧ ∃ Nx : Hp → Prop, (∀ H', Nx H' → ∃ m', m' < m ∧ W (i + 1) m' H') ∧ ∀ x H', J.yld i H x H' → g x (wipe σ vs) H' fun σ2 H2 => wipe σ2 vs = wipe σ vs ∧ tt σ2 H2 fun b H3 =>
        if b = true then te σ2 H3 fun y H4 => ∃ acc, H4 D = some (.lst acc) ∧ acc.length < sizeLine ∧ Nx (upd H4 D (.lst (acc ++ [y]))) else Nx H3) := by
  refine ⟨fun i m H => i + m = n ∧ Pv i H, ⟨n, by omega, h0⟩, fun i m H ⟨e, p⟩ => ?_⟩
  by_cases k : i < n
  · exact .inr ⟨go i H k p, Pv (i + 1), fun H' p' => ⟨m - 1, by omega, by omega, p'⟩, fun x H' y => hs i x H H' k p y⟩
  · have z : i = n := by omega
    subst z
    exact .inl ⟨st H p, hd H p⟩
/-! ### tests -/
theorem if_str {x z : Str} {A B : Prop} (h1 : x = z → A) (h2 : x ≠ z → B) : if decide (V.str x = V.str z) = true then A else B :=
  if_bl (fun e => h1 (V.str.inj (of_decide_eq_true e))) (fun e => h2 (fun q => of_decide_eq_false e (congrArg V.str q)))
theorem inV_strs {x : Str} {zs : List Str} : inV (.str x) (zs.map V.str) = true ↔ x ∈ zs := by
  unfold inV
  induction zs with
  | nil => simp
  | cons z zs ih =>
    rw [List.map_cons, List.any_cons, Bool.or_eq_true, ih, List.mem_cons]
    constructor
    · rintro (h | h)
      · exact .inl (by simpa [eqV] using (show (z == x) = true from h) |> fun k => (eq_of_beq k).symm)
      · exact .inr h
    · rintro (h | h)
      · exact .inl (show (z == x) = true by rw [h]; exact beq_self_eq_true z)
      · exact .inr h
theorem if_in {x : Str} {zs : List Str} {A B : Prop} (h1 : x ∈ zs → A) (h2 : x ∉ zs → B) : if (if false = true then !inV (.str x) (zs.map V.str) else inV (.str x) (zs.map V.str)) = true then A else B := by
  have e : (if false = true then !inV (.str x) (zs.map V.str) else inV (.str x) (zs.map V.str)) = inV (.str x) (zs.map V.str) := if_neg Bool.false_ne_true
  rw [e]
  exact if_bl (fun c => h1 (inV_strs.mp c)) (fun c => h2 (fun k => by rw [inV_strs.mpr k] at c; cases c))
theorem same_seqT {K : PySem.W.Frag} {a : Addr} {H H1 : Hp} {xs : List V} (b : Same H H1) (h : SqT K H a xs) : SqT K H1 a xs := by
  rcases h with h | h
  · left
    rcases h with h | ⟨o, h⟩
    · exact .inl (b _ _ h)
    · exact .inr ⟨o, b _ _ h⟩
  · exact .inr h
theorem little {n : Nat} (h : n ≤ 1000) : n ≤ sizeLine := Nat.le_of_lt (small1000 h)
/-! ### xs[i] op= e -/
def rGetL (K : PySem.W.Frag) : V → V → Hp → VK → Prop := fun o i H Q => ∃ (p : Addr) (xs : List V) (j : Nat) (v : V), o = .ref p ∧ i = .int (j : Nat) ∧ SqL K H p xs ∧ xs[j]? = some v ∧ Q v H
theorem get_list {X : Cx} : PGet X (rGetL X.K) := by
  intro pins st σ H o i ov iv Q J ro ri asked
  obtain ⟨p, xs, j, v, rfl, rfl, hq, hj, now⟩ := asked
  cases ro
  obtain ⟨t, rfl⟩ := ri
  obtain ⟨its, r, pl, hz⟩ := J.list hq
  obtain ⟨u, eu, ru⟩ := r.get hj
  have n1 := (List.getElem?_eq_some_iff.mp hj).1
  have n2 := line63
  exact wpAny_getItem_list pl.isList (by omega) (by omega) (by simpa using eu) ⟨v, H, J, ru, now⟩
/-! ### the same rules, the written part named (so that they fit within comprehensions) -/
section
variable {X : Cx}
theorem ix_listK (K : PySem.W.Frag) (h : X.K = K) : IxR X (rIxL K) := by subst h; exact ix_list
theorem ix_tupK (K : PySem.W.Frag) (h : X.K = K) : IxR X (rIxT K) := by subst h; exact ix_tup
def rLenK (K : PySem.W.Frag) : List V → Hp → VK → Prop := fun xs H Q => ∃ (p : Addr) (ys : List V), xs = [.ref p] ∧ (SqL K H p ys ∨ SqT K H p ys) ∧ Q (.int (ys.length : Nat)) H
theorem call_len_seqK (K : PySem.W.Frag) (h : X.K = K) : CallR X (.builtin "len") (rLenK K) := by subst h; exact call_len_seq
def rListOfK (K : PySem.W.Frag) : List V → Hp → VK → Prop := fun xs H Q => ∃ (p : Addr) (ys : List V), xs = [.ref p] ∧ (SqL K H p ys ∨ SqT K H p ys) ∧ ∀ l, H l = none → Q (.ref l) (upd H l (.lst ys))
theorem call_list_ofK (K : PySem.W.Frag) (h : X.K = K) : CallR X (.type "list") (rListOfK K) := by subst h; exact call_list_of
def rTupOfK (K : PySem.W.Frag) : List V → Hp → VK → Prop := fun xs H Q => ∃ (p : Addr) (ys : List V), xs = [.ref p] ∧ ((SqL K H p ys ∧ ∀ l, H l = none → Q (.ref l) (upd H l (.tup ys))) ∨ (SqT K H p ys ∧ Q (.ref p) H))
theorem call_tuple_ofK (K : PySem.W.Frag) (h : X.K = K) : CallR X (.type "tuple") (rTupOfK K) := by subst h; exact call_tuple_of
theorem op_in_seqK (K : PySem.W.Frag) (h : X.K = K) : OpR X (compareOp .In) (rIn K false) := by subst h; exact op_in_seq
theorem op_notIn_seqK (K : PySem.W.Frag) (h : X.K = K) : OpR X (compareOp .NotIn) (rIn K true) := by subst h; exact op_notIn_seq
theorem sl_listK (K : PySem.W.Frag) (h : X.K = K) : SlR X (rSlL K) := by subst h; exact sl_list
theorem sl_tupAK (K : PySem.W.Frag) (h : X.K = K) : SlR X (rSlA K) := by subst h; exact sl_tupA
theorem op_eqDK (K : PySem.W.Frag) (h : X.K = K) (hu : X.A.units + 64 < cLine) : OpR X (compareOp .Eq) (rEqD K) := by subst h; exact op_eqD hu
theorem op_neDK (K : PySem.W.Frag) (h : X.K = K) (hu : X.A.units + 64 < cLine) : OpR X (compareOp .NotEq) (rNeD K) := by subst h; exact op_neD hu
theorem call_isiKK (K : PySem.W.Frag) (h : X.K = K) : CallR X (.builtin "isinstance") (rIsi K) := by subst h; exact call_isi
theorem cr_allK (K : PySem.W.Frag) (h : X.K = K) (hc : X.calm = true) : CallR X (.builtin "all") (rAll K) := by subst h; exact cr_all hc
theorem cr_anyK (K : PySem.W.Frag) (h : X.K = K) (hc : X.calm = true) : CallR X (.builtin "any") (rAny K) := by subst h; exact cr_any hc
theorem cr_minKK (K : PySem.W.Frag) (h : X.K = K) (hc : X.calm = true) : CallR X (.builtin "min") (rMin K) := by subst h; exact cr_min hc
theorem cr_maxKK (K : PySem.W.Frag) (h : X.K = K) (hc : X.calm = true) : CallR X (.builtin "max") (rMax K) := by subst h; exact cr_max hc
def tTruK (K : PySem.W.Frag) (ta : TE) : TT := fun σ H Q => ta σ H fun x H' => ∃ k, TruV K x H' k ∧ Q k H'
theorem pt_truthK (K : PySem.W.Frag) (h : X.K = K) {a : Expr} {ta : TE} (ha : PE X a ta) (he : ∀ whole, isTrue a X.env whole = (do let v ← whole; standAt a.pos; holding [v] (truthy v))) : PT X a (tTruK K ta) := by subst h; exact pt_truth ha he
theorem get_listK (K : PySem.W.Frag) (h : X.K = K) : PGet X (rGetL K) := by subst h; exact get_list
theorem pg_tupK (K : PySem.W.Frag) (h : X.K = K) {es : List Expr} {k n : Nat} {t : TGs} {pos : Pos} (hc : X.calm = true) (g : PGs X es t)
    (hn : (assignEach es X.env).length = n := by rfl) (hst : (assignEach es X.env).findIdx? (·.1) = none := by rfl) : PG X (.Tuple es k pos) (gTup K n t) := by subst h; exact pg_tup hc g hn hst
theorem pg_unlK (K : PySem.W.Frag) (h : X.K = K) {es : List Expr} {k n : Nat} {t : TGs} {pos : Pos} (hc : X.calm = true) (g : PGs X es t)
    (hn : (assignEach es X.env).length = n := by rfl) (hst : (assignEach es X.env).findIdx? (·.1) = none := by rfl) : PG X (.Tuple es k pos) (gUnl K n t) := by subst h; exact pg_unl hc g hn hst
theorem pi_listK (K : PySem.W.Frag) (h : X.K = K) {tg e : Expr} {te : TE} (he : PE X e te) : PI X tg e (iList K te) := by subst h; exact pi_list he
theorem pi_tupK (K : PySem.W.Frag) (h : X.K = K) {tg e : Expr} {te : TE} (he : PE X e te) : PI X tg e (iTup K te) := by subst h; exact pi_tup he
theorem pe_revLK (K : PySem.W.Frag) (h : X.K = K) {e : Expr} {te : TE} {k : Nat} {p1 p2 p3 pos : Pos} (he : PE X e te) : PE X (.Subscript e (.Slice none none (some (.UnaryOp .USub (.Constant (.int 1) k p1) p2)) p3) pos) (tRevL K te) := by subst h; exact pe_revL he
theorem pe_bmK (K : PySem.W.Frag) (h : X.K = K) {o e : Expr} {es : List Expr} {to : TE} {t : TA} {name : Str} {apos cpos : Pos} {T id : String} {r : V → List V → Hp → VK → Prop}
    (pa : PlainAttrs T) (slot : Slot T name id) (hty : typeOf (.builtin id) = pure (.type "method_descriptor")) (hm : MtR X id r) (ho : PE X o to) (ha : PA X (e :: es) t)
    (n1 : attributeBase o name X.env (eval o X.env) = eval o X.env := by rfl)
    (n2 : ((backTo cpos (starEach (e :: es) X.env)).all (fun x => !x.1) && (backToKw cpos (keywordEach [] X.env)).all (fun x => x.1.isSome) && decide ((e :: es).length + ([] : List Keyword).length + (if ([] : List Keyword).isEmpty then 0 else 1) < 30)) = true := by rfl)
    (n3 : (apos.endLine == cpos.line) = true := by rfl) (n4 : starEach (e :: es) X.env = (false, eval e X.env) :: starEach es X.env := by rfl) (n5 : (backTo cpos (starEach es X.env)).any (·.1) = false := by rfl) :
    PE X (.Call (.Attribute o name apos) (e :: es) [] cpos) (tBM K T r to t) := by subst h; exact pe_bm pa slot hty hm ho ha n1 n2 n3 n4 n5
theorem pe_bm0K (K : PySem.W.Frag) (h : X.K = K) {o : Expr} {to : TE} {name : Str} {apos cpos : Pos} {T id : String} {r : V → List V → Hp → VK → Prop}
    (pa : PlainAttrs T) (slot : Slot T name id) (hty : typeOf (.builtin id) = pure (.type "method_descriptor")) (hm : MtR X id r) (ho : PE X o to)
    (n1 : attributeBase o name X.env (eval o X.env) = eval o X.env := by rfl) (n3 : (apos.endLine == cpos.line) = true := by rfl) : PE X (.Call (.Attribute o name apos) [] [] cpos) (tBM0 K T r to) := by subst h; exact pe_bm0 pa slot hty hm ho n1 n3
theorem op_catAK (K : PySem.W.Frag) (h : X.K = K) : OpR X (binaryOp .Add) (rCatA K) := by subst h; exact op_catA
theorem call_isiTK (K : PySem.W.Frag) (h : X.K = K) : CallR X (.builtin "isinstance") (rIsiT K) := by subst h; exact call_isiT
theorem pi_zipAK (K : PySem.W.Frag) (h : X.K = K) {e e2 : Expr} {ta : TA} {p pos tpos : Pos} {elts : List Expr} {kk : Nat} (hg : Gl X "zip") (hm : X.mg "zip" = none) (ha : PA X [e, e2] ta)
    (hs : starEach [e, e2] X.env = (false, eval e X.env) :: starEach [e2] X.env := by rfl) (hpl : (backTo pos (starEach [e2] X.env)).any (·.1) = false := by rfl) :
    PI X (.Tuple elts kk tpos) (.Call (.Name "zip" p) [e, e2] [] pos) (RZ.iZipA K ta) := by subst h; exact RZ.pi_zipA hg hm ha hs hpl
theorem pi_or {tg e : Expr} {t1 t2 : TI} (h1 : PI X tg e t1) (h2 : PI X tg e t2) : PI X tg e (fun σ H R => t1 σ H R ∨ t2 σ H R) := ⟨fun pins s σ H R I h => h.elim (h1.run pins s σ H R I) (h2.run pins s σ H R I)⟩
end
section
variable {X : Cx}
theorem cr_sumK (K : PySem.W.Frag) (h : X.K = K) (hc : X.calm = true) : CallR X (.builtin "sum") (rSum K) := by subst h; exact cr_sum hc
end
/-! ### for i, x in enumerate(t), t a tuple -/
section
open Sem (wp)
open AutoSeq1 (wpAny_loadPart')
theorem enum_of_tup (t : Addr) (its : Array Value) (n : Nat) (dct : Option Addr) (sl : Array (Option Value)) :
    Meets (Builtin.«enumerate.__new__» ⟨[.type "enumerate", .ref t], []⟩) (fun _ R st => st.heap.get? t = some { cls := .type "tuple", dict := dct, data := .seq its n, slots := sl } ∧
      R (.ok (.ret (.ref (st.heap.push { cls := .type "tuple_iterator", data := .fields #[.ref t, .int 0 0] }).objs.size)))
        { st with heap := (st.heap.push { cls := .type "tuple_iterator", data := .fields #[.ref t, .int 0 0] }).push { cls := .type "enumerate", data := .fields #[.none, .bool false, .ref st.heap.objs.size, rawInt 0, .none, .none] } }) :=
  .of_wp fun prog w A R st asked => by
    obtain ⟨hp, g, d, tk, os⟩ := st; obtain ⟨at_, asked⟩ := asked
    have sub := sub_enumerate
    have hT : Heap.IsTuple (Shared.heap ⟨hp, g, d, tk, os⟩) t its := ⟨_, at_, rfl, n, rfl⟩
    wp_walk using wpAny_loadPart' at_
    refine wpAny_stack_any fun stk => wpAny_pure ?_
    split
    · rename_i c _ _ _ _ _
      cases (c == Value.type "enumerate")
      · wp_walk using wpAny_loadPart' at_, wpAny_pyIter_tuple hT
        exact ⟨_, rfl, asked⟩
      · wp_walk using wpAny_loadPart' at_, wpAny_pyIter_tuple hT
        exact ⟨_, rfl, asked⟩
    · wp_walk using wpAny_loadPart' at_, wpAny_pyIter_tuple hT
      exact ⟨_, rfl, asked⟩
theorem call_enum_tup {prog : Program} {w : World} {A : Around} {E : Value → Shared → Prop} {st : Shared} {t : Addr} {its : Array Value} {Q : Value → Shared → Prop} (hT : st.heap.IsTuple t its)
    (now : ∀ h', IsEnum h' (st.heap.objs.size + 1) st.heap.objs.size 0 .none → h'.IsTupleIter st.heap.objs.size t 0 → h'.objs.size = st.heap.objs.size + 2 →
      (∀ b o, st.heap.get? b = some o → h'.get? b = some o) → Q (.ref (st.heap.objs.size + 1)) { st with heap := h' }) :
    wpAny (model prog w) A (call (.type "enumerate") [.ref t]) Q E st := by
  obtain ⟨⟨c, dct, dt, sl⟩, at_, hc, n, hd⟩ := hT
  replace hc : c = .type "tuple" := hc
  replace hd : dt = .seq its n := hd
  subst hc hd
  refine callType_new F.called_enumerate (by decide) (F.typeCall_enumerate_1 _) (F.newCall_enumerate_1 _) (fun obj => F.args_object_init_2 obj _) F.entry_enumerate_new (enum_of_tup t its n dct sl) ⟨at_, ?_⟩
  have size1 : (st.heap.push { cls := .type "tuple_iterator", data := .fields #[.ref t, .int 0 0] }).objs.size = st.heap.objs.size + 1 := Heap.size_push ..
  show _ ∧ _
  rw [size1]
  have made := Heap.get?_push_size (st.heap.push { cls := .type "tuple_iterator", data := .fields #[.ref t, .int 0 0] }) (o := { cls := .type "enumerate", data := .fields #[.none, .bool false, .ref st.heap.objs.size, rawInt 0, .none, .none] }) rfl
  rw [size1] at made
  exact ⟨⟨_, made, rfl⟩, now _ made ⟨_, Heap.get?_push_of_some _ (Heap.get?_push_size _ rfl), rfl, rfl⟩ (by rw [Heap.size_push, size1]) fun b o e => Heap.get?_push_of_some _ (Heap.get?_push_of_some _ e)⟩
end
/-- the tuple at a, each item in a new pair -/
def IteT (K : PySem.W.Frag) (a : Addr) (xs : List V) : It :=
  ⟨fun i H => SqT K H a xs ∧ i < xs.length, fun i H v H' => ∃ T x, v = .ref T ∧ H T = none ∧ H' = upd H T (.tup [.int (i : Nat), x]) ∧ xs[i]? = some x, fun i H => SqT K H a xs ∧ i = xs.length⟩
theorem turn_enumT {P : Program} {w : World} {K : PySem.W.Frag} {elts : List Expr} {kk : Nat} {tpos : Pos} (a e it : Addr) (xs : List V) :
    Turn P w K (.Tuple elts kk tpos) (IteT K a xs) [e, it] e (fun i h => (∃ old, IsEnum h e it ((i : Nat) : Int) old) ∧ h.IsTupleIter it a i ∧ e ≠ it ∧ a ≠ it ∧ a ≠ e) where
  mem := by simp
  obj := fun i h st b hb => by
    obtain ⟨⟨old, he⟩, ⟨o, ho, hc, hd⟩, _⟩ := st
    have either : b = e ∨ b = it := by simpa using hb
    rcases either with z | z
    · rw [z]; exact ⟨_, he, fun v q => nomatch q⟩
    · rw [z]; exact ⟨o, ho, fun v q => by rw [hd] at q; cases q⟩
  keep := fun i h h' st k => let ⟨⟨old, he⟩, hi, apart⟩ := st; ⟨⟨old, k e (by simp) _ he⟩, hi.at fun o q => k it (by simp) o q, apart⟩
  item := by
    intro X hP hw hK hc i pins st σ H E J hf stt going
    subst hP hw hK
    obtain ⟨⟨old, he⟩, hit, n1, n2, n3⟩ := stt
    obtain ⟨hq, hi⟩ := going
    obtain ⟨its, rv, tup, hz⟩ := J.tuple hq
    have len := rv.length
    have el : e < st.heap.objs.size := Heap.lt_size he
    have il : it < st.heap.objs.size := by obtain ⟨_, q, _⟩ := hit; exact Heap.lt_size q
    have D := Draws.tuple (prog := X.prog) (w := X.w) (A := X.A.in1) (J.ok.hd hc) it a n2 its.toArray
    refine wpAny_pyNext_enum_itemD D he ⟨hit, tup⟩ (by rw [List.size_toArray]; omega) n1 (by simp [n1, n3.symm]) fun u h' tk px out stt' new size kp => ?_
    refine ⟨_, rfl, wpAny_letOwnedTupleGo_enum (s := { st with heap := h', toks := tk + 1 }) out fun h'' he' sb => ?_⟩
    obtain ⟨x, hx⟩ : ∃ x, xs[i]? = some x := ⟨_, List.getElem?_eq_getElem hi⟩
    obtain ⟨u', hu', ru⟩ := rv.get hx
    have eu : u' = u := by
      have px : its.toArray[i]? = some u := px
      rw [List.getElem?_toArray, hu'] at px
      exact Option.some.inj px
    subst eu
    have there : h''.get? st.heap.objs.size = some { cls := .type "tuple", data := .seq #[.int i tk, u'] } := (sb.2 _ (Nat.ne_of_gt el)).trans new
    have ok2 : ObjOk X.prog X.w (upd H st.heap.objs.size (.tup [.int (i : Nat), x])) h'' st.heap.objs.size (.tup [.int (i : Nat), x]) :=
      ⟨by show 2 ≤ sizeLine; decide, [.int i tk, u'], .cons ⟨_, rfl⟩ (.cons ru .nil), ⟨_, there, rfl, _, rfl⟩⟩
    have J1 : Inv X pins σ (upd H st.heap.objs.size (.tup [.int (i : Nat), x])) { st with heap := h'', toks := tk + 1 } :=
      J.turnedNew (ch := [e, it]) (fun b ob hb q => (sb.2 b (fun z => hb (by simp [z]))).trans (kp b ob (fun z => hb (by simp [z])) (fun z => hb (by simp [z])) q)) hf (Nat.le_refl _) ok2
    refine ⟨.ref st.heap.objs.size, _, J1, rfl, ⟨_, x, rfl, J.hok.fresh (Nat.le_refl _), rfl, hx⟩, ⟨⟨u', ?_⟩, stt'.1.at fun o q => (sb.2 it (Ne.symm n1)).trans q, n1, n2, n3⟩, fun b hb => ?_⟩
    · rw [show ((i + 1 : Nat) : Int) = (i : Int) + 1 by omega]
      exact he'
    · have bl : b < st.heap.objs.size := by
        have either : b = e ∨ b = it := by simpa using hb
        rcases either with z | z
        · rw [z]; exact el
        · rw [z]; exact il
      rw [upd_ne (Nat.ne_of_lt bl)]
      exact (hf b hb).1
  done := by
    intro X hP hw hK hc i pins st σ H E J hf stt over
    subst hP hw hK
    obtain ⟨⟨old, he⟩, hit, n1, n2, n3⟩ := stt
    obtain ⟨hq, hi⟩ := over
    obtain ⟨its, rv, tup, hz⟩ := J.tuple hq
    obtain ⟨f0, f1, f2, f3, f4, f5⟩ := hf it (by simp)
    have len := rv.length
    have D := Draws.tuple (prog := X.prog) (w := X.w) (A := X.A.in1) (J.ok.hd hc) it a n2 its.toArray
    have ei : its.toArray.size = i := by rw [List.size_toArray]; omega
    exact wpAny_pyNext_enum_endD D he ⟨by rw [ei]; exact hit, tup⟩ fun h' eb => ⟨rfl, J.turned (t' := st.toks) (fun b o hb q => eb b o hb q) f0 f1 f3 f4 f5⟩
  self := fun A i st Q E stt now => let ⟨⟨_, he⟩, _⟩ := stt; wpAny_pyIter_enum he now
def iEnumT (K : PySem.W.Frag) (ta : TA) : TI := fun σ H R => ta σ H fun vs H1 => ∃ a xs, vs = [.ref a] ∧ SqT K H1 a xs ∧ R (IteT K a xs) H1
theorem pi_enumT (K : PySem.W.Frag) {X : Cx} (hk : X.K = K) {e : Expr} {ta : TA} {p pos tpos : Pos} {elts : List Expr} {kk : Nat} (hg : Gl X "enumerate") (hm : X.mg "enumerate" = none) (ha : PA X [e] ta) (hs : starEach [e] X.env = [(false, eval e X.env)] := by rfl) :
    PI X (.Tuple elts kk tpos) (.Call (.Name "enumerate" p) [e] [] pos) (iEnumT K ta) := by
  subst hk
  refine ⟨fun pins st σ H R J asked => ?_⟩
  refine Call_ (ld_blt J hg hm boot_enumerate (PyProof.Rows.callWith_type1 (thn (ha.run pos pins st σ H _ J asked) fun us st1 ⟨vs, H1, J1, rel, now⟩ => ?_) hs rfl))
  obtain ⟨a, xs, ex, hq, now⟩ := now
  subst ex
  obtain ⟨u, rfl, ru⟩ := vals1 rel
  obtain rfl : u = Value.ref a := ru
  obtain ⟨its, rv, tup, hz⟩ := J1.tuple hq
  have al : a < st1.heap.objs.size := by obtain ⟨o, ho, _⟩ := tup; exact Heap.lt_size ho
  refine call_enum_tup tup fun h' he hit size kp => wpAny_pyIter_enum he ?_
  have J2 : Inv X pins σ H1 { st1 with heap := h' } := J1.kept (t' := st1.toks) kp
  refine ⟨st1.heap.objs.size + 1, [st1.heap.objs.size + 1, st1.heap.objs.size], _, _, H1, rfl, J2, turn_enumT a (st1.heap.objs.size + 1) st1.heap.objs.size xs, ⟨⟨.none, he⟩, hit, Nat.succ_ne_self _, Nat.ne_of_lt al, Nat.ne_of_lt (Nat.lt_succ_of_lt al)⟩, fun b hb => ?_, now⟩
  have either : b = st1.heap.objs.size + 1 ∨ b = st1.heap.objs.size := by simpa using hb
  have low : st1.heap.objs.size ≤ b := by
    rcases either with z | z
    · rw [z]; exact Nat.le_add_right _ _
    · rw [z]; exact Nat.le_refl _
  exact J1.fpOk low (J1.hok.fresh low)
section
variable {P : Program} {w : World} {K : PySem.W.Frag} {mg : Str → Option Value} {base : Heap}
def sp_law_flow (K : PySem.W.Frag) : Sp := fun vs H Q _ => ∃ (a : Addr) (ns : List Int), vs = [.ref a] ∧ SqL K H a (ns.map V.int) ∧ ∀ (f c : Addr) (H' : Hp), H f = none → H c = none → Flow H' f c → Same H H' → Q (.ref f) H'
theorem ok_law_flow {f : Addr} {fd : FuncData} (F : Fun K "_law_flow" "_law_flow" s_law_flow f fd) (T : Top K mg) : FnOk P w K mg base CX0 1 f fd ["_law_script"] (sp_law_flow K) := by
  refine F.ok sc_law_flow (fun vs H Q E h => ?_) (fun cdv A outer s H vs Q E hr h => ?_)
  · obtain ⟨a, ns, rfl, _⟩ := h
    rfl
  obtain ⟨a, ns, rfl, hS, q⟩ := h
  refine ⟨_, (pss_one (ps_ret (pe_lst (pa_cons (pe_callTy (call_list_ofK K rfl) (by rfl) T.m_list (by decide +kernel) (pa_cons (pv 0) pa_nil)) (pa_cons pe_int (pa_cons pe_int (pa_cons pe_int (pa_cons pe_int pa_nil)))))))), ?_⟩
  refine ⟨_, rfl, a, _, rfl, .inl hS, fun c hc => ?_⟩
  refine ⟨(by show 5 ≤ sizeLine; decide), fun f hf => ?_⟩
  have nf : H f = none := by
    cases e : H f with
    | none => rfl
    | some o => rw [same_new hc _ _ e] at hf; cases hf
  have s1 := same_new (o := .lst (ns.map V.int)) hc
  refine q f c _ nf hc ⟨ns, 0, 0, 1, 0, upd_same, same_new hf _ _ upd_same, by decide, by decide, by decide, by decide⟩ fun b o e => same_new hf _ _ (s1 _ _ e)
def sp_law_pick (K : PySem.W.Frag) : Sp := fun vs H Q _ => ∃ (f c : Addr) (m : Int), vs = [.ref f, .int m] ∧ 0 < m ∧ m.natAbs.log2 < 9000 ∧ Flow H f c ∧
  ∀ (v : Int) (H' : Hp), 0 ≤ v → v < m → Flow H' f c → But f H H' → Q (.int v) H'
theorem ok_law_pick {f : Addr} {fd : FuncData} (F : Fun K "_law_pick" "_law_pick" s_law_pick f fd) (T : Top K mg) : FnOk P w K mg base CX0 1 f fd ["_law_flow_here", "_law_many"] (sp_law_pick K) := by
  refine F.ok sc_law_pick (fun vs H Q E h => ?_) (fun cdv A outer s H vs Q E hr h => ?_)
  · obtain ⟨f, c, m, rfl, _⟩ := h
    rfl
  obtain ⟨f, c, m, rfl, m0, m9, hF, q⟩ := h
  obtain ⟨ns, i, p, z, r, hf, hc, hi, hp, hz, hz2⟩ := hF
  have ncf : c ≠ f := ne_of hc hf (by intro e; injection e with e; cases ns with | nil => cases e | cons x l => cases e)
  let R1 : TS := fun D' σ' H' => D'.rt = Q ∧ ∃ x2 : Option V, σ' = [some (.ref f), some (.int m), x2, none] ∧ (∃ (i p z r : Int), H' f = some (.lst [.ref c, .int i, .int p, .int z, .int r]) ∧ H' c = some (.lst (ns.map V.int)) ∧ 0 ≤ i ∧ 0 ≤ p ∧ 0 ≤ z ∧ z < 2147483647) ∧ But f H H'
  refine ⟨_, (pss_cons (ps_if (PW.pt (pw_and (pt_cmpR op_eq (pe_ix (ix_listK K rfl) (pv 0) pe_int (fun _ _ => rfl)) pe_int (nomark _)) (pw_and1 (pt_cmpR op_lt (pe_ix (ix_listK K rfl) (pv 0) pe_int (fun _ _ => rfl)) (pe_callB (call_len_seqK K rfl) (by rfl) T.m_len (by decide +kernel) (pa_cons (pe_ix (ix_listK K rfl) (pv 0) pe_int (fun _ _ => rfl)) pa_nil)) (nomark _))))) (pss_cons (ps_set (i := 2) sc_law_pick.nd rfl (Or.inl rfl) (pe_ix (ix_listK K rfl) (pe_ix (ix_listK K rfl) (pv 0) pe_int (fun _ _ => rfl)) (pe_ix (ix_listK K rfl) (pv 0) pe_int (fun _ _ => rfl)) (fun _ _ => rfl)))
      (pss_cons (ps_asg (pe_op op_add (pe_ix (ix_listK K rfl) (pv 0) pe_int (fun _ _ => rfl)) pe_int) (pg_sub (pv 0) pe_int set_list))
      (pss_one (ps_if (pt_cmpR op_ge (pv 2) (pe_op op_pow pe_int pe_int) (nomark _)) (pss_one (ps_asg (pv 2) (pg_sub (pv 0) pe_int set_list))) (pss_one (ps_asg (pe_op op_mod (pe_op op_add (pe_op op_add (pe_op op_mul (pe_ix (ix_listK K rfl) (pv 0) pe_int (fun _ _ => rfl)) pe_int) (pe_op op_mod (pv 2) pe_int)) pe_int) pe_int) (pg_sub (pv 0) pe_int set_list))))))) pss_nil)
      (PSs.to (pss_cons (ps_if (pt_cmpR op_gt (pe_ix (ix_listK K rfl) (pv 0) pe_int (fun _ _ => rfl)) pe_int (nomark _)) (pss_cons (ps_set (i := 3) sc_law_pick.nd rfl (Or.inl rfl) (pe_op op_mod (pe_ix (ix_listK K rfl) (pv 0) pe_int (fun _ _ => rfl)) (pv 1)))
      (pss_cons (ps_asg (pe_op op_fdivW (pe_ix (ix_listK K rfl) (pv 0) pe_int (fun _ _ => rfl)) (pv 1)) (pg_sub (pv 0) pe_int set_list))
      (pss_one (ps_ret (pv 3))))) pss_nil)
      (pss_cons (ps_asg (pe_op op_add (pe_ix (ix_listK K rfl) (pv 0) pe_int (fun _ _ => rfl)) pe_int) (pg_sub (pv 0) pe_int set_list))
      (pss_cons (ps_asg (pe_op op_mod (pe_op op_add (pe_op op_add (pe_op op_mul (pe_ix (ix_listK K rfl) (pv 0) pe_int (fun _ _ => rfl)) pe_int) pe_int) (pe_ix (ix_listK K rfl) (pv 0) pe_int (fun _ _ => rfl))) pe_int) (pg_sub (pv 0) pe_int set_list))
      (pss_one (ps_ret (pe_op op_mod (pe_op op_fdiv (pe_op op_mod (pe_op op_mul (pe_op op_add (pe_op op_mod (pe_ix (ix_listK K rfl) (pv 0) pe_int (fun _ _ => rfl)) pe_int) pe_int) (pe_op op_add (pe_op op_fdiv (pe_ix (ix_listK K rfl) (pv 0) pe_int (fun _ _ => rfl)) pe_int) pe_int)) pe_int) pe_int) (pv 1))))))) R1 ?tail1)), ?_⟩
  case tail1 =>
    rintro D' σ' H1 ⟨eD, x2, rfl, ⟨i, p, z, r, hf, hc, hi, hp, hz, hz2⟩, bt⟩
    refine ⟨_, rfl, f, _, _, _, rfl, rfl, SqL.of hf, atI_nat (j := 2) rfl, _, _, rfl, rfl, _, rfl, if_bl (fun c1 => ?_) (fun c1 => ?_)⟩
    · refine ⟨_, rfl, f, _, _, _, rfl, rfl, SqL.of hf, atI_nat (j := 2) rfl, _, rfl, _, _, rfl, rfl, m0, ?_⟩
      refine ⟨_, rfl, f, _, _, _, rfl, rfl, SqL.of hf, atI_nat (j := 2) rfl, _, rfl, _, _, rfl, rfl, ⟨m0, m9⟩, _, rfl, f, _, _, 2, rfl, rfl, hf, rfl, ?_⟩
      refine ⟨_, rfl, ?_⟩
      rw [eD]
      exact q _ _ (Int.emod_nonneg _ (by omega)) (Int.emod_lt_of_pos _ m0) ⟨ns, i, p / m, z, r, upd_same, (by rw [upd_ne ncf]; exact hc), hi, Int.ediv_nonneg hp (by omega), hz, hz2⟩ bt.upd
    · refine ⟨_, rfl, f, _, _, _, rfl, rfl, SqL.of hf, atI_nat (j := 4) rfl, _, _, rfl, rfl, _, rfl, f, _, _, 4, rfl, rfl, hf, rfl, ?_⟩
      have hf2 : upd H1 f (.lst ([V.ref c, V.int i, V.int p, V.int z, V.int r].set 4 (V.int (r + 1)))) f = some (.lst [.ref c, .int i, .int p, .int z, .int (r + 1)]) := upd_same
      refine ⟨_, rfl, f, _, _, _, rfl, rfl, SqL.of hf2, atI_nat (j := 3) rfl, _, _, rfl, rfl, .inl ⟨by omega, by omega⟩, _, _, rfl, rfl, _, rfl, f, _, _, _, rfl, rfl, SqL.of hf2, atI_nat (j := 4) rfl, _, _, rfl, rfl, _, _, rfl, rfl, (by show (0 : Int) < 2147483647; decide), _, rfl, f, _, _, 3, rfl, rfl, hf2, rfl, ?_⟩
      have z0 : 0 ≤ (z * 48271 + 12820163 + (r + 1)) % 2147483647 := Int.emod_nonneg _ (by decide)
      have z1 : (z * 48271 + 12820163 + (r + 1)) % 2147483647 < 2147483647 := Int.emod_lt_of_pos _ (by decide)
      have hf3 : upd (upd H1 f (.lst ([V.ref c, V.int i, V.int p, V.int z, V.int r].set 4 (V.int (r + 1))))) f (.lst ([V.ref c, V.int i, V.int p, V.int z, V.int (r + 1)].set 3 (V.int ((z * 48271 + 12820163 + (r + 1)) % 2147483647)))) f =
        some (.lst [.ref c, .int i, .int p, .int ((z * 48271 + 12820163 + (r + 1)) % 2147483647), .int (r + 1)]) := upd_same
      have hc3 : upd (upd H1 f (.lst ([V.ref c, V.int i, V.int p, V.int z, V.int r].set 4 (V.int (r + 1))))) f (.lst ([V.ref c, V.int i, V.int p, V.int z, V.int (r + 1)].set 3 (V.int ((z * 48271 + 12820163 + (r + 1)) % 2147483647)))) c = some (.lst (ns.map V.int)) := by
        rw [upd_ne ncf, upd_ne ncf]
        exact hc
      refine ⟨_, rfl, f, _, _, _, rfl, rfl, SqL.of hf3, atI_nat (j := 3) rfl, _, _, rfl, rfl, (by show (0 : Int) < 65521; decide), _, _, rfl, rfl, _, rfl, f, _, _, _, rfl, rfl, SqL.of hf3, atI_nat (j := 3) rfl, _, _, rfl, rfl, ⟨by decide, by decide⟩, _, _, rfl, rfl, _, _, rfl, rfl, .inl ⟨?_, ?_⟩, _, _, rfl, rfl, (by show (0 : Int) < 1000003; decide), _, _, rfl, rfl, ⟨by decide, by decide⟩, _, rfl, _, _, rfl, rfl, m0, ?_⟩
      · omega
      · omega
      · rw [eD]
        exact q _ _ (Int.emod_nonneg _ (by omega)) (Int.emod_lt_of_pos _ m0) ⟨ns, i, p, _, r + 1, hf3, hc3, hi, hp, z0, z1⟩ bt.upd.upd
  refine ⟨_, rfl, f, _, _, _, rfl, rfl, SqL.of hf, atI_nat (j := 2) rfl, rfl, _, rfl, if_bl (fun c1 => ?_) (fun c1 => ?_)⟩
  · refine ⟨_, rfl, f, _, _, _, rfl, rfl, SqL.of hf, atI_nat (j := 1) rfl, _, rfl, f, _, _, _, rfl, rfl, SqL.of hf, atI_nat (j := 0) rfl, c, _, rfl, .inl (SqL.of hc), _, _, rfl, rfl, _, rfl, if_bl (fun c2 => ?_) (fun c2 => ?_)⟩
    · have c3 : i < ((ns.map V.int).length : Int) := of_decide_eq_true c2
      rw [List.length_map] at c3
      obtain ⟨v, hv⟩ := at_ints hi c3
      refine ⟨_, rfl, f, _, _, _, rfl, rfl, SqL.of hf, atI_nat (j := 0) rfl, _, rfl, f, _, _, _, rfl, rfl, SqL.of hf, atI_nat (j := 1) rfl, c, _, i, _, rfl, rfl, SqL.of hc, hv, ?_⟩
      refine ⟨_, rfl, f, _, _, _, rfl, rfl, SqL.of hf, atI_nat (j := 1) rfl, _, _, rfl, rfl, _, rfl, f, _, _, 1, rfl, rfl, hf, rfl, ?_⟩
      have hf2 : upd H f (.lst ([V.ref c, V.int i, V.int p, V.int z, V.int r].set 1 (V.int (i + 1)))) f = some (.lst [.ref c, .int (i + 1), .int p, .int z, .int r]) := upd_same
      refine ⟨_, rfl, _, _, rfl, rfl, ⟨by decide, by decide, by decide⟩, _, _, rfl, rfl, _, rfl, if_bl (fun c4 => ?_) (fun c4 => ?_)⟩
      · have c5 : (10 : Int) ^ (18 : Int).toNat ≤ v := of_decide_eq_true c4
        have c6 : (0 : Int) ≤ (10 : Int) ^ (18 : Int).toNat := by decide
        refine ⟨_, rfl, _, rfl, f, _, _, 2, rfl, rfl, hf2, rfl, rfl, _, rfl, ⟨i + 1, v, z, r, upd_same, ?_, by omega, by omega, hz, hz2⟩, But.refl.upd.upd⟩
        rw [upd_ne ncf, upd_ne ncf]
        exact hc
      · refine ⟨_, rfl, f, _, _, _, rfl, rfl, SqL.of hf2, atI_nat (j := 3) rfl, _, _, rfl, rfl, .inl ⟨by omega, by omega⟩, _, rfl, _, _, rfl, rfl, (by show (0 : Int) < 1000003; decide), _, _, rfl, rfl, _, _, rfl, rfl, _, _, rfl, rfl, (by show (0 : Int) < 2147483647; decide), _, rfl, f, _, _, 3, rfl, rfl, hf2, rfl, rfl, _, rfl, ⟨i + 1, p, _, r, upd_same, ?_, by omega, hp, Int.emod_nonneg _ (by decide), Int.emod_lt_of_pos _ (by decide)⟩, But.refl.upd.upd⟩
        rw [upd_ne ncf, upd_ne ncf]
        exact hc
    · exact ⟨rfl, _, rfl, ⟨i, p, z, r, hf, hc, hi, hp, hz, hz2⟩, But.refl⟩
  · exact ⟨rfl, _, rfl, ⟨i, p, z, r, hf, hc, hi, hp, hz, hz2⟩, But.refl⟩
end
/-! ### rooms: what they are -/
/-- a hand: its rule's word, its number if it has one, its moments -/
structure HR where
  wd : Str
  no : Option Int
  mom : Int
/-- a belt -/
structure BR where
  one : Nat
  to : Nat
  th : List Int
abbrev ruleL (h : HR) : List V := .str h.wd :: (match h.no with | none => [] | some n => [.int n])
def HandAt (H : Hp) (v : V) (h : HR) : Prop := ∃ t r : Addr, v = .ref t ∧ H t = some (.tup [.ref r, .int h.mom]) ∧ H r = some (.tup (ruleL h))
def BeltAt (H : Hp) (v : V) (b : BR) : Prop := ∃ t g : Addr, v = .ref t ∧ H t = some (.tup [.int (b.one : Nat), .int (b.to : Nat), .ref g]) ∧ H g = some (.tup (b.th.map V.int))
theorem HandAt.keep {H H' : Hp} {v : V} {h : HR} (a : HandAt H v h) (k : TK H H') : HandAt H' v h := by
  obtain ⟨t, r, e, e1, e2⟩ := a
  exact ⟨t, r, e, k _ _ e1, k _ _ e2⟩
theorem BeltAt.keep {H H' : Hp} {v : V} {b : BR} (a : BeltAt H v b) (k : TK H H') : BeltAt H' v b := by
  obtain ⟨t, r, e, e1, e2⟩ := a
  exact ⟨t, r, e, k _ _ e1, k _ _ e2⟩
def nine : List Str := ["always", "same", "times", "sum", "gap", "below", "most", "least", "pick"]
def needs (wd : Str) : Int := if wd ∈ (["in", "always"] : List Str) then 0 else if wd ∈ (["out", "same", "times"] : List Str) then 1 else 2 + (if wd = "pick" then 1 else 0)
/-- a rule of one of the nine words -/
structure GoodRule (h : HR) : Prop where
  wd : h.wd ∈ nine
  no : h.no.isSome = true ↔ h.wd = "times" ∨ h.wd = "always"
  big : ∀ n, h.no = some n → -1000000 ≤ n ∧ n ≤ 1000000
def GoodHand (h : HR) : Prop := (GoodRule h ∨ ((h.wd = "in" ∨ h.wd = "out") ∧ h.no = none)) ∧ 0 ≤ h.mom ∧ h.mom ≤ 30
def Small (v : Int) : Prop := -1000000 ≤ v ∧ v ≤ 1000000
section
variable {P : Program} {w : World} {K : PySem.W.Frag} {mg : Str → Option Value} {base : Heap}
def sp_law_thing (K : PySem.W.Frag) : Sp := fun vs H Q _ => ∃ f c : Addr, vs = [.ref f] ∧ Flow H f c ∧ ∀ (v : Int) (H' : Hp), Small v → Flow H' f c → But f H H' → Q (.int v) H'
theorem ok_law_thing {f : Addr} {fd : FuncData} (F : Fun K "_law_thing" "_law_thing" s_law_thing f fd) (T : Top K mg) : FnOk P w K mg base CX0 2 f fd ["_law_flow_here"] (sp_law_thing K) := by
  obtain ⟨f_law_pick, fd_law_pick, F_law_pick, b_law_pick, m_law_pick⟩ := T.d_law_pick
  have G_law_pick := ok_law_pick (P := P) (w := w) (base := base) F_law_pick T
  refine F.ok sc_law_thing (fun vs H Q E h => ?_) (fun cdv A outer s H vs Q E hr h => ?_)
  · obtain ⟨f, c, rfl, _⟩ := h
    rfl
  obtain ⟨f, c, rfl, hF, q⟩ := h
  refine ⟨_, (pss_cons (ps_if (pt_cmpR op_gt (pe_call G_law_pick (hr.mono (by decide)) (by rfl) m_law_pick F_law_pick.kp b_law_pick .nil pass0 (pa_cons (pv 0) (pa_cons pe_int pa_nil))) pe_int (nomark _)) (pss_one (ps_ret (pe_op op_sub (pe_call G_law_pick (hr.mono (by decide)) (by rfl) m_law_pick F_law_pick.kp b_law_pick .nil pass0 (pa_cons (pv 0) (pa_cons pe_int pa_nil))) pe_int))) pss_nil)
      (pss_one (ps_ret (pe_op op_sub (pe_call G_law_pick (hr.mono (by decide)) (by rfl) m_law_pick F_law_pick.kp b_law_pick .nil pass0 (pa_cons (pv 0) (pa_cons pe_int pa_nil))) pe_int)))), ?_⟩
  refine ⟨_, rfl, f, c, 3, rfl, by decide, by decide +kernel, hF, fun v1 H1 a1 b1 F1 B1 => ⟨_, _, rfl, rfl, _, rfl, if_bl (fun _ => ?_) (fun _ => ?_)⟩⟩
  · exact ⟨_, rfl, f, c, 7, rfl, by decide, by decide +kernel, F1, fun v2 H2 a2 b2 F2 B2 => ⟨_, _, rfl, rfl, q _ _ ⟨by omega, by omega⟩ F2 (B1.trans B2)⟩⟩
  · exact ⟨_, rfl, f, c, 2000001, rfl, by decide, by decide +kernel, F1, fun v2 H2 a2 b2 F2 B2 => ⟨_, _, rfl, rfl, q _ _ ⟨by omega, by omega⟩ F2 (B1.trans B2)⟩⟩
def sp_law_needs (K : PySem.W.Frag) : Sp := fun vs H Q _ => ∃ (r : Addr) (wd : Str) (l : List V), vs = [.ref r] ∧ SqT K H r (.str wd :: l) ∧ ∀ H', Same H H' → Q (.int (needs wd)) H'
theorem ok_law_needs {f : Addr} {fd : FuncData} (F : Fun K "_law_needs" "_law_needs" s_law_needs f fd) (T : Top K mg) : FnOk P w K mg base CX0 1 f fd ["_law_rule_here"] (sp_law_needs K) := by
  refine F.ok sc_law_needs (fun vs H Q E h => ?_) (fun cdv A outer s H vs Q E hr h => ?_)
  · obtain ⟨r, wd, l, rfl, _⟩ := h
    rfl
  obtain ⟨r, wd, l, rfl, hR, q⟩ := h
  unfold needs at q
  refine ⟨_, (pss_cons (ps_if (pt_cmpR (op_in_seqK K rfl) (pe_ix (ix_tupK K rfl) (pv 0) pe_int (fun _ _ => rfl)) (pe_tup (pa_cons pe_str (pa_cons pe_str pa_nil))) (by with_unfolding_all rfl)) (pss_one (ps_ret pe_int)) pss_nil)
      (pss_cons (ps_if (pt_cmpR (op_in_seqK K rfl) (pe_ix (ix_tupK K rfl) (pv 0) pe_int (fun _ _ => rfl)) (pe_tup (pa_cons pe_str (pa_cons pe_str (pa_cons pe_str pa_nil)))) (by with_unfolding_all rfl)) (pss_one (ps_ret pe_int)) pss_nil)
      (pss_one (ps_ret (pe_op op_add pe_int (pe_callTy call_int1 (by rfl) T.m_int (by decide +kernel) (pa_cons (pe_cmpR op_eq (pe_ix (ix_tupK K rfl) (pv 0) pe_int (fun _ _ => rfl)) pe_str (nomark _)) pa_nil))))))), ?_⟩
  refine ⟨_, rfl, r, _, _, _, rfl, rfl, hR, atI_nat (j := 0) rfl, (by show 2 ≤ sizeLine; decide), fun p np => ⟨p, _, rfl, .inr (SqT.of upd_same), rfl, rfl, _, rfl, if_in (zs := ["in", "always"]) (fun e => ?_) (fun e => ?_)⟩⟩
  · have q := q _ (same_new (o := .tup [V.str "in", V.str "always"]) np)
    rw [if_pos e] at q
    exact q
  have s1 := same_new (o := .tup [V.str "in", V.str "always"]) np
  refine ⟨_, rfl, r, _, _, _, rfl, rfl, same_seqT s1 hR, atI_nat (j := 0) rfl, (by show 3 ≤ sizeLine; decide), fun p2 np2 => ⟨p2, _, rfl, .inr (SqT.of upd_same), rfl, rfl, _, rfl, if_in (zs := ["out", "same", "times"]) (fun e2 => ?_) (fun e2 => ?_)⟩⟩
  · have q := q _ (s1.trans (same_new (o := .tup [V.str "out", V.str "same", V.str "times"]) np2))
    rw [if_neg e, if_pos e2] at q
    exact q
  have s2 := s1.trans (same_new (o := .tup [V.str "out", V.str "same", V.str "times"]) np2)
  have q := q _ s2
  rw [if_neg e, if_neg e2] at q
  refine ⟨_, rfl, r, _, _, _, rfl, rfl, same_seqT s2 hR, atI_nat (j := 0) rfl, rfl, .inr ⟨_, rfl, _, _, rfl, rfl, ?_⟩⟩
  by_cases k : wd = "pick"
  · rw [if_pos k] at q
    rw [decide_eq_true (show V.str wd = V.str "pick" by rw [k])]
    exact q
  · rw [if_neg k] at q
    rw [decide_eq_false (show ¬ V.str wd = V.str "pick" from fun z => k (V.str.inj z))]
    exact q
theorem nine_at {m : Int} (h0 : 0 ≤ m) (h9 : m < 9) : ∃ wd : Str, wd ∈ nine ∧ atI (nine.map V.str) m = some (.str wd) ∧ (m < 1 → needs wd ≤ 0) ∧ (m < 3 → needs wd ≤ 1) ∧ (m < 8 → needs wd ≤ 2) ∧ needs wd ≤ 3 ∧ 0 ≤ needs wd := by
  have : m = 0 ∨ m = 1 ∨ m = 2 ∨ m = 3 ∨ m = 4 ∨ m = 5 ∨ m = 6 ∨ m = 7 ∨ m = 8 := by omega
  rcases this with rfl | rfl | rfl | rfl | rfl | rfl | rfl | rfl | rfl
  · exact ⟨"always", by decide +kernel, rfl, by decide +kernel, by decide +kernel, by decide +kernel, by decide +kernel, by decide +kernel⟩
  · exact ⟨"same", by decide +kernel, rfl, by decide +kernel, by decide +kernel, by decide +kernel, by decide +kernel, by decide +kernel⟩
  · exact ⟨"times", by decide +kernel, rfl, by decide +kernel, by decide +kernel, by decide +kernel, by decide +kernel, by decide +kernel⟩
  · exact ⟨"sum", by decide +kernel, rfl, by decide +kernel, by decide +kernel, by decide +kernel, by decide +kernel, by decide +kernel⟩
  · exact ⟨"gap", by decide +kernel, rfl, by decide +kernel, by decide +kernel, by decide +kernel, by decide +kernel, by decide +kernel⟩
  · exact ⟨"below", by decide +kernel, rfl, by decide +kernel, by decide +kernel, by decide +kernel, by decide +kernel, by decide +kernel⟩
  · exact ⟨"most", by decide +kernel, rfl, by decide +kernel, by decide +kernel, by decide +kernel, by decide +kernel, by decide +kernel⟩
  · exact ⟨"least", by decide +kernel, rfl, by decide +kernel, by decide +kernel, by decide +kernel, by decide +kernel, by decide +kernel⟩
  · exact ⟨"pick", by decide +kernel, rfl, by decide +kernel, by decide +kernel, by decide +kernel, by decide +kernel, by decide +kernel⟩
def sp_law_rule (K : PySem.W.Frag) : Sp := fun vs H Q _ => ∃ (f c : Addr) (m : Int), vs = [.ref f, .int m] ∧ 0 ≤ m ∧ Flow H f c ∧
  ∀ (r : Addr) (h : HR) (H' : Hp), H' r = some (.tup (ruleL h)) → GoodRule h → needs h.wd ≤ m → 0 ≤ needs h.wd → h.mom = 0 → Flow H' f c → But f H H' → Q (.ref r) H'
theorem ok_law_rule {f : Addr} {fd : FuncData} (F : Fun K "_law_rule" "_law_rule" s_law_rule f fd) (T : Top K mg) : FnOk P w K mg base CX0 3 f fd ["_law_flow_here", "_law_most"] (sp_law_rule K) := by
  obtain ⟨f_law_pick, fd_law_pick, F_law_pick, b_law_pick, m_law_pick⟩ := T.d_law_pick
  have G_law_pick := ok_law_pick (P := P) (w := w) (base := base) F_law_pick T
  obtain ⟨f_law_thing, fd_law_thing, F_law_thing, b_law_thing, m_law_thing⟩ := T.d_law_thing
  have G_law_thing := ok_law_thing (P := P) (w := w) (base := base) F_law_thing T
  refine F.ok sc_law_rule (fun vs H Q E h => ?_) (fun cdv A outer s H vs Q E hr h => ?_)
  · obtain ⟨f, c, m, rfl, _⟩ := h
    rfl
  obtain ⟨f, c, m, rfl, m0, hF, q⟩ := h
  refine ⟨_, (pss_cons (ps_set (i := 2) sc_law_rule.nd rfl (Or.inl rfl) (pe_lst (pa_cons pe_str (pa_cons pe_str (pa_cons pe_str (pa_cons pe_str (pa_cons pe_str (pa_cons pe_str (pa_cons pe_str (pa_cons pe_str (pa_cons pe_str pa_nil)))))))))))
      (pss_cons (ps_set (i := 3) sc_law_rule.nd rfl (Or.inl rfl) (pe_ix (ix_listK K rfl) (pv 2) (pe_call G_law_pick (hr.mono (by decide)) (by rfl) m_law_pick F_law_pick.kp b_law_pick .nil pass0 (pa_cons (pv 0) (pa_cons (pe_ix (ix_listK K rfl) (pe_lst (pa_cons pe_int (pa_cons pe_int (pa_cons pe_int (pa_cons pe_int pa_nil))))) (pe_callB (call_min2 rfl) (by rfl) T.m_min (by decide +kernel) (pa_cons pe_int (pa_cons (pv 1) pa_nil))) (fun _ _ => rfl)) pa_nil))) (fun _ _ => rfl)))
      (pss_cons (ps_if (pt_cmpR op_eq (pv 3) pe_str (nomark _)) (pss_one (ps_ret (pe_tup (pa_cons (pv 3) (pa_cons (pe_op op_sub (pe_call G_law_pick (hr.mono (by decide)) (by rfl) m_law_pick F_law_pick.kp b_law_pick .nil pass0 (pa_cons (pv 0) (pa_cons pe_int pa_nil))) pe_int) pa_nil))))) pss_nil)
      (pss_cons (ps_if (pt_cmpR op_eq (pv 3) pe_str (nomark _)) (pss_one (ps_ret (pe_tup (pa_cons (pv 3) (pa_cons (pe_call G_law_thing (hr.mono (by decide)) (by rfl) m_law_thing F_law_thing.kp b_law_thing .nil pass0 (pa_cons (pv 0) pa_nil)) pa_nil))))) pss_nil)
      (pss_one (ps_ret (pe_tup (pa_cons (pv 3) pa_nil)))))))), ?_⟩
  refine ⟨(by show 9 ≤ sizeLine; decide), fun wl nwl => ?_⟩
  have F1 : Flow (upd H wl (.lst (nine.map V.str))) f c := hF.new nwl
  refine ⟨_, rfl, _, rfl, (by show 4 ≤ sizeLine; decide), fun cl ncl => ?_⟩
  have F2 : Flow (upd (upd H wl (.lst (nine.map V.str))) cl (.lst [V.int 1, V.int 3, V.int 8, V.int 9])) f c := F1.new ncl
  have B2 : But f H (upd (upd H wl (.lst (nine.map V.str))) cl (.lst [V.int 1, V.int 3, V.int 8, V.int 9])) := (But.refl.new nwl).new ncl
  obtain ⟨j, hj, j1, j9, jn⟩ : ∃ j : Int, atI [V.int 1, V.int 3, V.int 8, V.int 9] (if m < 3 then m else 3) = some (.int j) ∧ 1 ≤ j ∧ j ≤ 9 ∧ ((j = 1 ∧ m = 0) ∨ (j = 3 ∧ m = 1) ∨ (j = 8 ∧ m = 2) ∨ (j = 9 ∧ 3 ≤ m)) := by
    by_cases k : m < 3
    · rw [if_pos k]
      have : m = 0 ∨ m = 1 ∨ m = 2 := by omega
      rcases this with rfl | rfl | rfl
      · exact ⟨1, rfl, by decide, by decide, by decide⟩
      · exact ⟨3, rfl, by decide, by decide, by decide⟩
      · exact ⟨8, rfl, by decide, by decide, by decide⟩
    · rw [if_neg k]
      exact ⟨9, rfl, by decide, by decide, by omega⟩
  refine ⟨_, rfl, _, _, rfl, cl, _, _, _, rfl, rfl, SqL.of upd_same, hj, f, c, j, rfl, by omega, ?_, F2, fun v H1 v0 v1 F3 B3 => ?_⟩
  · have : j = 1 ∨ j = 3 ∨ j = 8 ∨ j = 9 := by omega
    rcases this with rfl | rfl | rfl | rfl <;> decide +kernel
  obtain ⟨wd, hw, hat, n1, n3, n8, n9, n0⟩ := nine_at v0 (by omega)
  have hn : needs wd ≤ m := by
    rcases jn with ⟨rfl, rfl⟩ | ⟨rfl, rfl⟩ | ⟨rfl, rfl⟩ | ⟨rfl, k⟩
    · exact n1 v1
    · exact n3 v1
    · exact n8 v1
    · omega
  have hwl : H1 wl = some (.lst (nine.map V.str)) := B3 _ _ (same_new ncl _ _ upd_same) (hF.ne nwl)
  refine ⟨wl, _, _, _, rfl, rfl, SqL.of hwl, hat, ?_⟩
  have BB := B2.trans B3
  refine ⟨_, rfl, rfl, _, rfl, if_str (fun e => ?_) (fun e => ?_)⟩
  · refine ⟨_, rfl, _, rfl, f, c, 19, rfl, by decide, by decide +kernel, F3, fun v2 H2 a2 b2 F4 B4 => ⟨_, _, rfl, rfl, (by show 2 ≤ sizeLine; decide), fun r nr => ?_⟩⟩
    exact q r ⟨wd, some (v2 - 9), 0⟩ _ upd_same ⟨hw, ⟨fun _ => .inl e, fun _ => rfl⟩, fun n en => by cases en; exact ⟨by omega, by omega⟩⟩ hn n0 rfl (F4.new nr) ((BB.trans B4).new nr)
  refine ⟨_, rfl, rfl, _, rfl, if_str (fun e2 => ?_) (fun e2 => ?_)⟩
  · refine ⟨_, rfl, _, rfl, f, c, rfl, F3, fun v2 H2 s2 F4 B4 => ⟨(by show 2 ≤ sizeLine; decide), fun r nr => ?_⟩⟩
    exact q r ⟨wd, some v2, 0⟩ _ upd_same ⟨hw, ⟨fun _ => .inr e2, fun _ => rfl⟩, fun n en => by cases en; exact s2⟩ hn n0 rfl (F4.new nr) ((BB.trans B4).new nr)
  · refine ⟨_, rfl, (by show 1 ≤ sizeLine; decide), fun r nr => ?_⟩
    exact q r ⟨wd, none, 0⟩ _ upd_same ⟨hw, ⟨(fun z => nomatch z), fun z => absurd z (fun z => z.elim e e2)⟩, (fun n en => nomatch en)⟩ hn n0 rfl (F3.new nr) (BB.new nr)
def sp_law_shuffled (K : PySem.W.Frag) : Sp := fun vs H Q _ => ∃ (f c l : Addr) (xs : List V), vs = [.ref f, .ref l] ∧ SqL K H l xs ∧ l ≠ f ∧ xs.length ≤ 500 ∧ Flow H f c ∧
  ∀ (p : Addr) (ys : List V) (H' : Hp), ys.Perm xs → H p = none → H' p = some (.lst ys) → Flow H' f c → But f H H' → Q (.ref p) H'
theorem But.seqL {K : PySem.W.Frag} {f a : Addr} {H H1 : Hp} {xs : List V} (b : But f H H1) (h : SqL K H a xs) (n : a ≠ f) : SqL K H1 a xs := by
  rcases h with h | h
  · left
    rcases h with h | ⟨o, h⟩
    · exact .inl (b _ _ h n)
    · exact .inr ⟨o, b _ _ h n⟩
  · exact .inr h
theorem same_seqL {K : PySem.W.Frag} {a : Addr} {H H1 : Hp} {xs : List V} (b : Same H H1) (h : SqL K H a xs) : SqL K H1 a xs := by
  rcases h with h | h
  · left
    rcases h with h | ⟨o, h⟩
    · exact .inl (b _ _ h)
    · exact .inr ⟨o, b _ _ h⟩
  · exact .inr h
theorem log_small {m : Nat} (h : m ≤ 500) : ((m : Int)).natAbs.log2 < 9000 := by
  rw [Int.natAbs_natCast]
  exact Nat.lt_of_le_of_lt (Nat.log2_le_self m) (by omega)
theorem perm_erase {α : Type} : ∀ {l : List α} {j : Nat} {y : α}, l[j]? = some y → (y :: l.eraseIdx j).Perm l
  | [], _, _, h => nomatch h
  | a :: l, 0, y, h => by
    cases h
    exact List.Perm.refl _
  | a :: l, j + 1, y, h => by
    have ih : (y :: l.eraseIdx j).Perm l := perm_erase h
    exact (List.Perm.swap a y _).trans (ih.cons a)
theorem ok_law_shuffled {f : Addr} {fd : FuncData} (F : Fun K "_law_shuffled" "_law_shuffled" s_law_shuffled f fd) (T : Top K mg) : FnOk P w K mg base CX0 2 f fd ["_law_flow_here", "_law_some"] (sp_law_shuffled K) := by
  obtain ⟨f_law_pick, fd_law_pick, F_law_pick, b_law_pick, m_law_pick⟩ := T.d_law_pick
  have G_law_pick := ok_law_pick (P := P) (w := w) (base := base) F_law_pick T
  refine F.ok sc_law_shuffled (fun vs H Q E h => ?_) (fun cdv A outer s H vs Q E hr h => ?_)
  · obtain ⟨f, c, l, xs, rfl, _⟩ := h
    rfl
  obtain ⟨f, c, l, xs, rfl, hL, nl, hlen, hF, q⟩ := h
  refine ⟨_, (pss_cons (ps_set (i := 2) sc_law_shuffled.nd rfl (Or.inr rfl) (pe_callTy (call_list_ofK K rfl) (by rfl) T.m_list (by decide +kernel) (pa_cons (pv 1) pa_nil)))
      (pss_one (ps_ret (pe_lc (own := [("_law_k", 3)]) (g := gName 3) (tt := tYes) (by rfl) sc_law_shuffled.nd (pi_range1 (by rfl) T.m_range (pa_cons (pe_callB (call_len_seqK K rfl) (by rfl) T.m_len (by decide +kernel) (pa_cons (pv 1) pa_nil)) pa_nil)) (blkOk_by (own := [("_law_k", 3)]) (N := N_law_shuffled) (sc := defScope s_law_shuffled) (by decide +kernel)) (fun _ _ _ _ _ => (pg_name (i := 3) sc_law_shuffled.nd rfl (Or.inl rfl))) (fun _ _ _ _ _ => pts_nil) (fun _ _ _ _ _ => (pe_bmK K rfl PySem.F.plainAttrs_list PySem.F.slot_list_pop PySem.F.type_list_pop mt_popAt (pv 2) (pa_cons (pe_call G_law_pick (hr.mono (by decide)) (by rfl) m_law_pick F_law_pick.kp b_law_pick .nil pass0 (pa_cons (pv 0) (pa_cons (pe_callB (call_len_seqK K rfl) (by rfl) T.m_len (by decide +kernel) (pa_cons (pv 2) pa_nil)) pa_nil))) pa_nil))))))), ?_⟩
  refine ⟨_, rfl, l, _, rfl, .inl hL, fun lf nlf => ?_⟩
  refine ⟨_, rfl, l, _, rfl, .inl (same_seqL (same_new nlf) hL), _, rfl, by omega, (by omega), fun D nD => ?_⟩
  have F1 : Flow (upd H lf (.lst xs)) f c := hF.new nlf
  have dl : D ≠ lf := (ne_of_none upd_same nD).symm
  refine lc_range (lo := 0) (n := xs.length) (fun i H5 => ∃ acc rest : List V, H5 D = some (.lst acc) ∧ H5 lf = some (.lst rest) ∧ acc.length = i ∧ rest.length + i = xs.length ∧ (acc ++ rest).Perm xs ∧ Flow H5 f c ∧ But f H H5)
    ⟨[], xs, upd_same, by rw [upd_ne dl.symm]; exact upd_same, rfl, by omega, List.Perm.refl _, F1.new nD, (But.refl.new nlf).new nD⟩ ?_ ?_
  · rintro i H5 hi ⟨acc, rest, hD, hl, ha, hr2, hp, F5, B5⟩
    refine ⟨rfl, yes_in ?_⟩
    refine ⟨_, rfl, .inl ⟨rfl, _, SqL.of hl⟩, _, rfl, _, rfl, lf, _, rfl, .inl (SqL.of hl), f, c, ((rest.length : Nat) : Int), rfl, by omega, log_small (by omega), F5, fun v H6 v0 v1 F6 B6 => ?_⟩
    have hl6 := B6 _ _ hl (hF.ne nlf)
    have hv : v.toNat < rest.length := by omega
    have e1 : seqIndex? v rest.length = some v.toNat := by
      rw [seqIndex_of v0 (by omega)]
    refine ⟨lf, rest, v, v.toNat, rest[v.toNat], rfl, rfl, hl6, by omega, by omega, e1, List.getElem?_eq_getElem hv, ?_⟩
    have hD6 := B6 _ _ hD (fun e => by rw [e] at nD; rw [show upd H lf (.lst xs) f = H f from upd_ne (hF.ne nlf).symm] at nD; obtain ⟨_, _, _, _, _, e1, _⟩ := hF; rw [e1] at nD; cases nD)
    refine ⟨acc, by rw [upd_ne dl]; exact hD6, small1000 (by omega), acc ++ [rest[v.toNat]], rest.eraseIdx v.toNat, upd_same, by rw [upd_ne dl.symm]; exact upd_same, by rw [List.length_append, ha]; rfl, ?_, ?_, ?_, ?_⟩
    · rw [List.length_eraseIdx, if_pos hv]
      omega
    · refine List.Perm.trans ?_ hp
      rw [List.append_assoc]
      exact List.Perm.append_left acc (perm_erase (List.getElem?_eq_getElem hv))
    · have dc : D ≠ c := fun e => by
        rw [e] at nD
        obtain ⟨_, _, _, _, _, _, e1, _⟩ := F1
        rw [e1] at nD
        cases nD
      exact (F6.lst (hF.ne nlf) (hF.nec nlf)).lst (F1.ne nD) dc
    · exact ((B5.trans B6).own nlf).own (same_none (same_new nlf) nD)
  · rintro H5 ⟨acc, rest, hD, hl, ha, hr2, hp, F5, B5⟩
    have er : rest = [] := by
      cases rest with
      | nil => rfl
      | cons a l => simp at hr2
    subst er
    rw [List.append_nil] at hp
    exact q D acc H5 hp (same_none (same_new nlf) nD) hD F5 B5
end
/-! ### the hands of a drawn room -/
def unS : V → Str
  | .str s => s
  | _ => ""
theorem perm_strs {ys : List V} {zs : List Str} (h : ys.Perm (zs.map V.str)) : ∃ ss : List Str, ys = ss.map V.str ∧ ss.Perm zs := by
  refine ⟨ys.map unS, ?_, ?_⟩
  · rw [List.map_map]
    symm
    refine (List.map_congr_left (g := id) fun y hy => ?_).trans (List.map_id _)
    obtain ⟨z, _, e⟩ := List.mem_map.mp (h.mem_iff.mp hy)
    subst e
    rfl
  · have q := h.map unS
    rw [List.map_map] at q
    have e : zs.map (unS ∘ V.str) = zs := (List.map_congr_left (g := id) fun z _ => rfl).trans (List.map_id _)
    rw [e] at q
    exact q
theorem flat_rep {α : Type} (x : α) : ∀ n : Nat, (List.replicate n [x]).flatten = List.replicate n x
  | 0 => rfl
  | n + 1 => by
    rw [List.replicate_succ, List.flatten_cons, flat_rep x n]
    rfl
def cnt (ss : List Str) : Nat := (ss.filter fun s => !decide (s = ("in" : Str))).length
theorem cnt_le (ss : List Str) : cnt ss ≤ ss.length := List.length_filter_le ..
theorem cut_drop (xs : List V) (k : Nat) : cutV xs (some ((k : Nat) : Int)) none = xs.drop k := by
  unfold cutV
  rw [HT.sIx_nat, HT.sIx_none]
  by_cases h : k ≤ xs.length
  · rw [Nat.min_eq_left h]
    exact List.take_of_length_le (by rw [List.length_drop]; exact Nat.le_refl _)
  · rw [Nat.min_eq_right (by omega), Nat.sub_self, List.take_zero, List.drop_eq_nil_of_le (by omega)]
structure HInv (f c sl hh : Addr) (ss : List Str) (H0 H : Hp) (i : Nat) (vs : List V) (hs : List HR) (left : Int) : Prop where
  fl : Flow H f c
  bt : But f H0 H
  hsl : H sl = some (.lst (ss.map V.str))
  hhh : H hh = some (.lst vs)
  al : All2 (HandAt H) vs hs
  len : hs.length = i
  good : ∀ h ∈ hs, GoodHand h
  lf : (cnt (ss.drop i) : Int) ≤ left
  sum : (hs.map fun h => needs h.wd).sum + left = 20
  nz : ∀ h ∈ hs, 0 ≤ needs h.wd
  one : ("hand" : Str) ∈ ss.take i → ∃ h ∈ hs, h.wd ≠ "out"
  n1 : sl ≠ f
  n2 : sl ≠ hh
  n3 : hh ≠ f
  n4 : hh ≠ c
  n5 : H0 hh = none
section
variable {f c sl hh : Addr} {ss : List Str} {H0 H H' : Hp} {i : Nat} {vs : List V} {hs : List HR} {left : Int}
theorem HInv.but (s : HInv f c sl hh ss H0 H i vs hs left) (F : Flow H' f c) (b : But f H H') : HInv f c sl hh ss H0 H' i vs hs left :=
  { s with fl := F, bt := s.bt.trans b, hsl := b _ _ s.hsl s.n1, hhh := b _ _ s.hhh s.n3, al := s.al.imp fun _ _ k => k.keep (TK.but s.fl b) }
theorem HInv.new {p : Addr} {o : HO} (s : HInv f c sl hh ss H0 H i vs hs left) (n : H p = none) : HInv f c sl hh ss H0 (upd H p o) i vs hs left :=
  { s with fl := s.fl.new n, bt := s.bt.new n, hsl := same_new n _ _ s.hsl, hhh := same_new n _ _ s.hhh, al := s.al.imp fun _ _ k => k.keep (TK.new n) }
theorem HInv.same (s : HInv f c sl hh ss H0 H i vs hs left) (k : Same H H') : HInv f c sl hh ss H0 H' i vs hs left :=
  { s with fl := s.fl.same k, bt := s.bt.same k, hsl := k _ _ s.hsl, hhh := k _ _ s.hhh, al := s.al.imp fun _ _ z => z.keep (TK.same k) }
theorem HInv.step {x : V} {h : HR} {sd : Str} (s : HInv f c sl hh ss H0 H i vs hs left) (hx : HandAt H x h) (g : GoodHand h) (z : 0 ≤ needs h.wd) (k : needs h.wd + (cnt (ss.drop (i + 1)) : Int) ≤ left) (e : ss[i]? = some sd) (o : sd = "hand" → h.wd ≠ "out") :
    HInv f c sl hh ss H0 (upd H hh (.lst (vs ++ [x]))) (i + 1) (vs ++ [x]) (hs ++ [h]) (left - needs h.wd) := by
  refine { s with fl := s.fl.lst s.n3 s.n4, bt := s.bt.own s.n5, hsl := by rw [upd_ne s.n2]; exact s.hsl, hhh := upd_same, al := (s.al.snoc hx).imp fun _ _ z => z.keep (TK.lst s.hhh), len := by rw [List.length_append, s.len]; rfl, good := ?_, lf := by omega, sum := ?_, nz := ?_, one := ?_ }
  · intro y hy
    rcases List.mem_append.mp hy with hy | hy
    · exact s.good y hy
    · obtain rfl : y = h := by simpa using hy
      exact g
  · have := s.sum
    rw [List.map_append, List.sum_append]
    simp only [List.map_cons, List.map_nil, List.sum_cons, List.sum_nil]
    omega
  · intro y hy
    rcases List.mem_append.mp hy with hy | hy
    · exact s.nz y hy
    · obtain rfl : y = h := by simpa using hy
      exact z
  · intro hm
    rw [List.take_add_one, e] at hm
    rcases List.mem_append.mp hm with hm | hm
    · obtain ⟨y, h1, h2⟩ := s.one hm
      exact ⟨y, List.mem_append_left _ h1, h2⟩
    · have e2 : ("hand" : Str) = sd := by simpa using hm
      exact ⟨h, List.mem_append_right _ (by simp), o e2.symm⟩
end
theorem cnt_cons {ss : List Str} {i : Nat} {sd : Str} (e : ss[i]? = some sd) : cnt (ss.drop i) = (if sd = "in" then 0 else 1) + cnt (ss.drop (i + 1)) := by
  have hi := (List.getElem?_eq_some_iff.mp e).1
  have e2 : ss.drop i = sd :: ss.drop (i + 1) := by
    rw [List.drop_eq_getElem_cons hi, (List.getElem?_eq_some_iff.mp e).2]
  rw [e2]
  unfold cnt
  rw [List.filter_cons]
  by_cases k : sd = "in"
  · rw [if_pos k, decide_eq_true k]
    simp
  · rw [if_neg k, decide_eq_false k]
    simp only [Bool.not_false, if_true, List.length_cons]
    omega
section
variable {P : Program} {w : World} {K : PySem.W.Frag} {mg : Str → Option Value} {base : Heap}
structure HandsOk (hs : List HR) : Prop where
  len : hs.length ≤ 12
  good : ∀ h ∈ hs, GoodHand h
  sum : (hs.map fun h => needs h.wd).sum ≤ 20
  nz : ∀ h ∈ hs, 0 ≤ needs h.wd
  one : ∃ h ∈ hs, h.wd ≠ "out"
def sp_law_hands (K : PySem.W.Frag) : Sp := fun vs H Q _ => ∃ (f c : Addr) (m : Int), vs = [.ref f, .int m] ∧ 1 ≤ m ∧ m ≤ 8 ∧ Flow H f c ∧
  ∀ (p : Addr) (xs : List V) (hs : List HR) (H' : Hp), H p = none → H' p = some (.lst xs) → All2 (HandAt H') xs hs → HandsOk hs → Flow H' f c → But f H H' → Q (.ref p) H'
theorem ok_law_hands {f : Addr} {fd : FuncData} (F : Fun K "_law_hands" "_law_hands" s_law_hands f fd) (T : Top K mg) : FnOk P w K mg base CX0 4 f fd ["_law_flow_here", "_law_many"] (sp_law_hands K) := by
  obtain ⟨f_law_shuffled, fd_law_shuffled, F_law_shuffled, b_law_shuffled, m_law_shuffled⟩ := T.d_law_shuffled
  have G_law_shuffled := ok_law_shuffled (P := P) (w := w) (base := base) F_law_shuffled T
  obtain ⟨f_law_rule, fd_law_rule, F_law_rule, b_law_rule, m_law_rule⟩ := T.d_law_rule
  have G_law_rule := ok_law_rule (P := P) (w := w) (base := base) F_law_rule T
  obtain ⟨f_law_needs, fd_law_needs, F_law_needs, b_law_needs, m_law_needs⟩ := T.d_law_needs
  have G_law_needs := ok_law_needs (P := P) (w := w) (base := base) F_law_needs T
  obtain ⟨f_law_pick, fd_law_pick, F_law_pick, b_law_pick, m_law_pick⟩ := T.d_law_pick
  have G_law_pick := ok_law_pick (P := P) (w := w) (base := base) F_law_pick T
  refine F.ok sc_law_hands (fun vs H Q E h => ?_) (fun cdv A outer s H vs Q E hr h => ?_)
  · obtain ⟨f, c, m, rfl, _⟩ := h
    rfl
  obtain ⟨f, c, m, rfl, m1, m8, hF, q⟩ := h
  let R1 : TS := fun D' σ' H' => D'.rt = Q ∧ ∃ (sl : Addr) (ss : List Str), σ' = [some (.ref f), some (.int m), some (.ref sl), none, none, none, none, none, none, none] ∧ H' sl = some (.lst (ss.map V.str)) ∧ sl ≠ f ∧ ss.length ≤ 12 ∧ ("hand" : Str) ∈ ss ∧ (∀ s ∈ ss, s = "in" ∨ s = "out" ∨ s = "hand") ∧ Flow H' f c ∧ But f H H'
  refine ⟨_, (pss_cons (ps_set (i := 2) sc_law_hands.nd rfl (Or.inl rfl) (pe_op op_cat (pe_op op_cat (pe_op op_rep (pe_lst (pa_cons pe_str pa_nil)) (pe_call G_law_pick (hr.mono (by decide)) (by rfl) m_law_pick F_law_pick.kp b_law_pick .nil pass0 (pa_cons (pv 0) (pa_cons pe_int pa_nil)))) (pe_op op_rep (pe_lst (pa_cons pe_str pa_nil)) (pe_call G_law_pick (hr.mono (by decide)) (by rfl) m_law_pick F_law_pick.kp b_law_pick .nil pass0 (pa_cons (pv 0) (pa_cons pe_int pa_nil))))) (pe_op op_rep (pe_lst (pa_cons pe_str pa_nil)) (pv 1))))
      (pss_cons (ps_set (i := 2) sc_law_hands.nd rfl (Or.inl rfl) (pe_call G_law_shuffled (hr.mono (by decide)) (by rfl) m_law_shuffled F_law_shuffled.kp b_law_shuffled .nil pass0 (pa_cons (pv 0) (pa_cons (pv 2) pa_nil))))
      (PSs.to (pss_cons (ps_set (i := 3) sc_law_hands.nd rfl (Or.inl rfl) pe_int)
      (pss_cons (ps_set (i := 4) sc_law_hands.nd rfl (Or.inl rfl) (pe_lst pa_nil))
      (pss_cons (ps_for PassesOwn.never rfl (pi_enum (by rfl) T.m_enumerate (pa_cons (pv 2) pa_nil)) (pg_tupK K rfl rfl (pgs_cons (pg_name (i := 5) sc_law_hands.nd rfl (Or.inl rfl)) (pgs_cons (pg_name (i := 6) sc_law_hands.nd rfl (Or.inl rfl)) pgs_nil)))
        (pss_cons (ps_if (pt_cmpR op_eq (pv 6) pe_str (nomark _)) (pss_cons (ps_set (i := 7) sc_law_hands.nd rfl (Or.inl rfl) (pe_callB (call_len_seqK K rfl) (by rfl) T.m_len (by decide +kernel) (pa_cons (pe_lc (own := [("_law_other", 8)]) (g := gName 8) (by rfl) sc_law_hands.nd (pi_listK K rfl (pe_slice (sl_listK K rfl) (pv 2) (po_some (pe_op op_add (pv 5) pe_int)) po_none)) (blkOk_by (own := [("_law_other", 8)]) (N := N_law_hands) (sc := defScope s_law_hands) (by decide +kernel)) (fun _ _ _ _ _ => (pg_name (i := 8) sc_law_hands.nd rfl (Or.inl rfl))) (fun _ _ _ _ _ => pts_one (pt_cmpR op_ne (pv 8) pe_str (nomark _))) (fun _ _ _ _ _ => (pv 8))) pa_nil)))
      (pss_cons (ps_set (i := 9) sc_law_hands.nd rfl (Or.inl rfl) (pe_call G_law_rule (hr.mono (by decide)) (by rfl) m_law_rule F_law_rule.kp b_law_rule .nil pass0 (pa_cons (pv 0) (pa_cons (pe_op op_sub (pv 3) (pv 7)) pa_nil))))
      (pss_one (ps_expr (pe_bmK K rfl PySem.F.plainAttrs_list PySem.F.slot_list_append PySem.F.type_list_append mt_append (pv 4) (pa_cons (pe_tup (pa_cons (pv 9) (pa_cons (pe_call G_law_pick (hr.mono (by decide)) (by rfl) m_law_pick F_law_pick.kp b_law_pick .nil pass0 (pa_cons (pv 0) (pa_cons (pe_ix (ix_listK K rfl) (pe_lst (pa_cons pe_int (pa_cons pe_int (pa_cons pe_int pa_nil)))) (pe_call G_law_pick (hr.mono (by decide)) (by rfl) m_law_pick F_law_pick.kp b_law_pick .nil pass0 (pa_cons (pv 0) (pa_cons pe_int pa_nil))) (fun _ _ => rfl)) pa_nil))) pa_nil))) pa_nil)))))) (pss_one (ps_expr (pe_bmK K rfl PySem.F.plainAttrs_list PySem.F.slot_list_append PySem.F.type_list_append mt_append (pv 4) (pa_cons (pe_tup (pa_cons (pe_tup (pa_cons (pv 6) pa_nil)) (pa_cons pe_int pa_nil))) pa_nil)))))
      (pss_one (ps_set (i := 3) sc_law_hands.nd rfl (Or.inl rfl) (pe_op op_sub (pv 3) (pe_call G_law_needs (hr.mono (by decide)) (by rfl) m_law_needs F_law_needs.kp b_law_needs .nil pass0 (pa_cons (pe_ix (ix_tupK K rfl) (pe_ix (ix_listK K rfl) (pv 4) (pe_un un_neg pe_int) (fun _ _ => rfl)) pe_int (fun _ _ => rfl)) pa_nil)))))))
      (pss_one (ps_ret (pv 4)))))) R1 ?tail1))), ?_⟩
  case tail1 =>
    rintro D' σ' H1 ⟨eD, sl, ss, rfl, hsl, nsl, hlen, hhand, hall, F1, B1⟩
    refine ⟨(by show 0 ≤ sizeLine; decide), fun hh nhh => ?_⟩
    have I0 : HInv f c sl hh ss H (upd H1 hh (.lst [])) 0 [] [] 20 :=
      { fl := F1.new nhh, bt := B1.new nhh, hsl := same_new nhh _ _ hsl, hhh := upd_same, al := .nil, len := rfl, good := (fun _ h => nomatch h), lf := by have := cnt_le (ss.drop 0); rw [List.length_drop] at this; omega, sum := rfl, nz := (fun _ h => nomatch h), one := (fun h => nomatch h), n1 := nsl, n2 := ne_of_none hsl nhh, n3 := F1.ne nhh, n4 := F1.nec nhh, n5 := B1.none nhh (F1.ne nhh) }
    refine ⟨_, rfl, sl, _, rfl, SqL.of I0.hsl, for_it (n := ss.length) (fun i σ H2 => ∃ (vs : List V) (hs : List HR) (left : Int) (v5 v6 v7 v8 v9 : Option V), σ = [some (.ref f), some (.int m), some (.ref sl), some (.int left), some (.ref hh), v5, v6, v7, v8, v9] ∧ HInv f c sl hh ss H H2 i vs hs left)
      ⟨[], [], 20, none, none, none, none, none, rfl, I0⟩ ?_ ?_ ?_ ?_⟩
    · rintro i σ H2 hi ⟨vs, hs, left, v5, v6, v7, v8, v9, rfl, I⟩
      exact ⟨_, _, SqL.of I.hsl, by rw [List.getElem?_map, List.getElem?_eq_getElem hi]; rfl⟩
    · rintro σ H2 ⟨vs, hs, left, v5, v6, v7, v8, v9, rfl, I⟩
      exact ⟨_, SqL.of I.hsl, by rw [List.length_map]; exact Nat.le_refl _⟩
    · rintro i x σ H2 H3 hi ⟨vs, hs, left, v5, v6, v7, v8, v9, rfl, I⟩ ⟨t, y, rfl, nt, rfl, fy⟩
      have ei : ss[i]? = some ss[i] := List.getElem?_eq_getElem hi
      obtain ⟨sd, hsd⟩ : ∃ sd, sd = ss[i] := ⟨_, rfl⟩
      rw [← hsd] at ei
      have ey : y = V.str sd := by
        have := fy _ (SqL.of I.hsl)
        rw [List.getElem?_map, ei] at this
        exact (Option.some.inj this).symm
      subst ey
      have I1 := I.new (o := .tup [V.int ((i : Nat) : Int), V.str sd]) nt
      have hc1 := cnt_cons ei
      have hl := I.lf
      have sz : vs.length < sizeLine := small1000 (by rw [I.al.length, I.len]; omega)
      refine ⟨t, _, rfl, SqT.of upd_same, rfl, _, _, rfl, _, _, rfl, rfl, ?_⟩
      refine ⟨_, rfl, rfl, _, rfl, if_str (fun e => ?_) (fun e => ?_)⟩
      · -- a hand
        refine ⟨_, rfl, _, rfl, _, _, rfl, rfl, _, rfl, sl, _, rfl, SqL.of I1.hsl, fun cp ncp => ?_⟩
        have I2 := I1.new (o := .lst (cutV (ss.map V.str) (some (((i : Nat) : Int) + 1)) none)) ncp
        have ecut : cutV (ss.map V.str) (some (((i : Nat) : Int) + 1)) none = (ss.drop (i + 1)).map V.str := by
          rw [show ((i : Nat) : Int) + 1 = ((i + 1 : Nat) : Int) by omega, cut_drop, List.map_drop]
        refine ⟨cp, rfl, ⟨_, SqL.of upd_same⟩, fun D nD => lc_list (K := K) (a := cp) (xs := cutV (ss.map V.str) (some (((i : Nat) : Int) + 1)) none) (fun j H5 => ∃ acc : List V, H5 D = some (.lst acc) ∧ acc.length = cnt ((ss.drop (i + 1)).take j) ∧ H5 cp = some (.lst (cutV (ss.map V.str) (some (((i : Nat) : Int) + 1)) none)) ∧ HInv f c sl hh ss H H5 i vs hs left ∧ D ≠ cp ∧ D ≠ f ∧ D ≠ c ∧ D ≠ sl ∧ D ≠ hh ∧ H D = Option.none)
          ⟨[], upd_same, rfl, same_new nD _ _ upd_same, I2.new nD, (ne_of_none upd_same nD).symm, I2.fl.ne nD, I2.fl.nec nD, (ne_of_none I2.hsl nD).symm, (ne_of_none I2.hhh nD).symm, I2.bt.none nD (I2.fl.ne nD)⟩ (fun j H5 _ ⟨_, _, _, h, _⟩ => SqL.of h) ?_ ?_⟩
        · rintro j z H5 hz ⟨acc, hD, hacc, hcp, I5, d1, d2, d3, d4, d5, d6⟩
          rw [ecut, List.getElem?_map] at hz
          cases ez : (ss.drop (i + 1))[j]? with
          | none => rw [ez] at hz; cases hz
          | some so =>
            rw [ez] at hz
            obtain rfl : V.str so = z := Option.some.inj hz
            refine ⟨rfl, _, rfl, rfl, _, rfl, if_bl (fun k => ?_) (fun k => ?_)⟩
            · have k2 : ¬ so = "in" := fun y => by
                rw [y] at k
                exact absurd k (by decide +kernel)
              refine ⟨_, rfl, acc, hD, ?_, acc ++ [V.str so], upd_same, ?_, by rw [upd_ne d1.symm]; exact hcp, ?_, d1, d2, d3, d4, d5, d6⟩
              · rw [hacc]
                have := cnt_le ((ss.drop (i + 1)).take j)
                rw [List.length_take, List.length_drop] at this
                exact small1000 (by omega)
              · rw [List.length_append, hacc, List.take_add_one, ez]
                unfold cnt
                rw [List.filter_append, List.length_append]
                simp [k2]
              · exact { I5 with fl := I5.fl.lst d2 d3, bt := I5.bt.own d6, hsl := by rw [upd_ne d4.symm]; exact I5.hsl, hhh := by rw [upd_ne d5.symm]; exact I5.hhh, al := I5.al.imp fun _ _ y => y.keep (TK.lst hD) }
            · have k2 : so = "in" := by
                by_cases y : so = "in"
                · exact y
                · have k3 : (!decide (V.str so = V.str "in")) = false := k
                  rw [decide_eq_false (fun y2 => y (V.str.inj y2))] at k3
                  cases k3
              refine ⟨acc, hD, ?_, hcp, I5, d1, d2, d3, d4, d5, d6⟩
              rw [hacc, List.take_add_one, ez]
              unfold cnt
              rw [List.filter_append, List.length_append]
              simp [k2]
        · rintro H5 ⟨acc, hD, hacc, hcp, I5, d1, d2, d3, d4, d5, d6⟩
          have hacc2 : acc.length = cnt (ss.drop (i + 1)) := by
            rw [hacc, List.take_of_length_le]
            rw [ecut, List.length_map]
            exact Nat.le_refl _
          have hm0 : 0 ≤ left - ((acc.length : Nat) : Int) := by
            have hne : ¬ sd = "in" := by rw [e]; decide +kernel
            rw [hacc2]
            rw [hc1, if_neg hne] at hl
            omega
          refine ⟨D, _, rfl, .inl (SqL.of hD), ?_⟩
          refine ⟨_, rfl, _, rfl, _, rfl, _, _, rfl, rfl, f, c, _, rfl, hm0, I5.fl, fun r hR H6 hr6 gR n1 n0 mo F6 B6 => ?_⟩
          have I6 := I5.but F6 B6
          refine ⟨_, rfl, .inl ⟨rfl, _, SqL.of I6.hhh⟩, _, rfl, _, rfl, (by show 3 ≤ sizeLine; decide), fun ml nml => ?_⟩
          have I7 := I6.new (o := .lst [V.int 5, V.int 5, V.int 31]) nml
          refine ⟨_, rfl, f, c, 3, rfl, by decide, by decide +kernel, I7.fl, fun z H8 z0 z3 F8 B8 => ?_⟩
          have I8 := I7.but F8 B8
          have hml := B8 _ _ upd_same (I6.fl.ne nml)
          obtain ⟨mm, hmm, mk⟩ : ∃ mm : Int, atI [V.int 5, V.int 5, V.int 31] z = some (.int mm) ∧ (mm = 5 ∨ mm = 31) := by
            have : z = 0 ∨ z = 1 ∨ z = 2 := by omega
            rcases this with rfl | rfl | rfl
            · exact ⟨5, rfl, .inl rfl⟩
            · exact ⟨5, rfl, .inl rfl⟩
            · exact ⟨31, rfl, .inr rfl⟩
          refine ⟨ml, _, _, _, rfl, rfl, SqL.of hml, hmm, f, c, mm, rfl, by omega, (by rcases mk with rfl | rfl <;> decide +kernel), I8.fl, fun mo2 H9 o0 o1 F9 B9 => ?_⟩
          have I9 := I8.but F9 B9
          refine ⟨(by show 2 ≤ sizeLine; decide), fun t2 nt2 => ?_⟩
          have I10 := I9.new (o := .tup [V.ref r, V.int mo2]) nt2
          have sz10 : vs.length < sizeLine := sz
          refine ⟨hh, _, _, rfl, rfl, I10.hhh, sz10, ?_⟩
          have k9 : TK H6 H9 := ((TK.new nml).trans (TK.but I7.fl B8)).trans (TK.but I8.fl B9)
          have hx : HandAt (upd H9 t2 (.tup [V.ref r, V.int mo2])) (V.ref t2) ⟨hR.wd, hR.no, mo2⟩ := ⟨t2, r, rfl, upd_same, TK.new nt2 _ _ (k9 _ _ hr6)⟩
          have gd : GoodHand ⟨hR.wd, hR.no, mo2⟩ := ⟨.inl ⟨gR.wd, gR.no, gR.big⟩, o0, (show mo2 ≤ 30 by omega)⟩
          have nout : hR.wd ≠ "out" := fun y => by
            have := gR.wd
            rw [y] at this
            exact absurd this (by decide +kernel)
          have I11 := I10.step (h := ⟨hR.wd, hR.no, mo2⟩) hx gd n0 (by show needs hR.wd + _ ≤ left; rw [hacc2] at n1; omega) ei (fun _ => nout)
          refine ⟨_, rfl, _, rfl, 1, rfl, hh, _, -1, _, rfl, rfl, SqL.of I11.hhh, atI_last _ _, t2, _, _, _, rfl, rfl, SqT.of (TK.lst I10.hhh _ _ upd_same), atI_nat (j := 0) rfl, r, hR.wd, _, rfl, SqT.of (TK.lst I10.hhh _ _ (TK.new nt2 _ _ (k9 _ _ hr6))), fun H12 s12 => ⟨_, _, rfl, rfl, ?_⟩⟩
          exact ⟨_, _, _, _, _, _, _, _, rfl, I11.same s12⟩
      · -- a door
        refine ⟨_, rfl, .inl ⟨rfl, _, SqL.of I1.hhh⟩, _, rfl, (by show 1 ≤ sizeLine; decide), fun r nr => ⟨(by show 2 ≤ sizeLine; decide), fun t2 nt2 => ?_⟩⟩
        have I2 := (I1.new (o := .tup [V.str sd]) nr).new (o := .tup [V.ref r, V.int 0]) nt2
        refine ⟨hh, _, _, rfl, rfl, I2.hhh, sz, ?_⟩
        have hsd2 : sd = "in" ∨ sd = "out" := by
          rcases hall sd (List.mem_of_getElem? ei) with y | y | y
          · exact .inl y
          · exact .inr y
          · exact absurd y e
        have hn : needs sd = (if sd = "in" then 0 else 1) := by
          rcases hsd2 with y | y <;> rw [y] <;> decide +kernel
        have hx : HandAt (upd (upd (upd H2 t (.tup [V.int ((i : Nat) : Int), V.str sd])) r (.tup [V.str sd])) t2 (.tup [V.ref r, V.int 0])) (V.ref t2) ⟨sd, none, 0⟩ := ⟨t2, r, rfl, upd_same, same_new nt2 _ _ upd_same⟩
        have I3 := I2.step (h := ⟨sd, none, 0⟩) hx ⟨.inr ⟨hsd2, rfl⟩, (show (0 : Int) ≤ 0 by decide), (show (0 : Int) ≤ 30 by decide)⟩ (by show 0 ≤ needs sd; rw [hn]; split <;> decide) (by
          show needs sd + _ ≤ left
          rw [hn]
          rw [hc1] at hl
          by_cases y : sd = "in"
          · rw [if_pos y] at hl ⊢; omega
          · rw [if_neg y] at hl ⊢; omega) ei (fun y => absurd y e)
        refine ⟨_, rfl, _, rfl, 1, rfl, hh, _, -1, _, rfl, rfl, SqL.of I3.hhh, atI_last _ _, t2, _, _, _, rfl, rfl, SqT.of (TK.lst I2.hhh _ _ upd_same), atI_nat (j := 0) rfl, r, sd, _, rfl, SqT.of (TK.lst I2.hhh _ _ (same_new nt2 _ _ upd_same)), fun H12 s12 => ⟨_, _, rfl, rfl, ?_⟩⟩
        exact ⟨_, _, _, _, _, _, _, _, rfl, I3.same s12⟩
    · rintro σ H2 ⟨vs, hs, left, v5, v6, v7, v8, v9, rfl, I⟩
      refine ⟨_, rfl, ?_⟩
      rw [eD]
      refine q hh vs hs H2 I.n5 I.hhh I.al ⟨by rw [I.len]; exact hlen, I.good, ?_, I.nz, I.one (by rw [List.take_length]; exact hhand)⟩ I.fl I.bt
      have := I.sum
      have := I.lf
      omega
  refine ⟨(by show 1 ≤ sizeLine; decide), fun l1 nl1 => ?_⟩
  refine ⟨_, rfl, f, c, 3, rfl, by decide, by decide +kernel, hF.new nl1, fun v1 H1 a1 b1 F1 B1 => ?_⟩
  have g1 := B1 _ _ upd_same (hF.ne nl1)
  have small : ∀ v : Int, 0 ≤ v → v ≤ 8 → [V.str "in"].length * v.toNat ≤ sizeLine := fun v v0 v8 => little (by show 1 * v.toNat ≤ 1000; omega)
  refine ⟨l1, v1, _, rfl, rfl, g1, by omega, by omega, small v1 a1 (by omega), fun p1 np1 => ?_⟩
  rw [flat_rep]
  have F2 := F1.new (o := .lst (List.replicate v1.toNat (V.str "in"))) np1
  refine ⟨(by show 1 ≤ sizeLine; decide), fun l2 nl2 => ?_⟩
  refine ⟨_, rfl, f, c, 3, rfl, by decide, by decide +kernel, F2.new nl2, fun v2 H3 a2 b2 F3 B3 => ?_⟩
  have g2 := B3 _ _ upd_same (F2.ne nl2)
  have h1 := B3 _ _ (same_new nl2 _ _ upd_same) (F1.ne np1)
  refine ⟨l2, v2, _, rfl, rfl, g2, by omega, by omega, small v2 a2 (by omega), fun p2 np2 => ?_⟩
  rw [flat_rep]
  have F4 := F3.new (o := .lst (List.replicate v2.toNat (V.str "out"))) np2
  refine ⟨p1, p2, _, _, rfl, rfl, same_new np2 _ _ h1, upd_same, ?_, fun p3 np3 => ?_⟩
  · rw [List.length_replicate, List.length_replicate]; exact little (by omega)
  have F5 := F4.new (o := .lst (List.replicate v1.toNat (V.str "in") ++ List.replicate v2.toNat (V.str "out"))) np3
  refine ⟨(by show 1 ≤ sizeLine; decide), fun l4 nl4 => ⟨_, rfl, l4, m, _, rfl, rfl, upd_same, by omega, by omega, small m (by omega) m8, fun p5 np5 => ?_⟩⟩
  rw [flat_rep]
  have F6 := F5.new (o := .lst [V.str "hand"]) nl4
  have F7 := F6.new (o := .lst (List.replicate m.toNat (V.str "hand"))) np5
  refine ⟨p3, p5, _, _, rfl, rfl, same_new np5 _ _ (same_new nl4 _ _ upd_same), upd_same, ?_, fun p6 np6 => ?_⟩
  · rw [List.length_append, List.length_replicate, List.length_replicate, List.length_replicate]; exact little (by omega)
  refine ⟨_, rfl, _, rfl, f, c, p6, _, rfl, SqL.of upd_same, F7.ne np6, ?_, F7.new np6, fun p ys H8 hp np hy F8 B8 => ?_⟩
  · rw [List.length_append, List.length_append, List.length_replicate, List.length_replicate, List.length_replicate]; omega
  have ez : (List.replicate v1.toNat (V.str "in") ++ List.replicate v2.toNat (V.str "out")) ++ List.replicate m.toNat (V.str "hand") = ((List.replicate v1.toNat ("in" : Str) ++ List.replicate v2.toNat ("out" : Str)) ++ List.replicate m.toNat ("hand" : Str)).map V.str := by
    rw [List.map_append, List.map_append, List.map_replicate, List.map_replicate, List.map_replicate]
  rw [ez] at hp
  obtain ⟨ss, rfl, hss⟩ := perm_strs hp
  have pf : p ≠ f := fun y => by
    rw [y] at np
    obtain ⟨_, _, _, _, _, e1, _⟩ := F7.new (o := .lst ((List.replicate v1.toNat (V.str "in") ++ List.replicate v2.toNat (V.str "out")) ++ List.replicate m.toNat (V.str "hand"))) np6
    rw [e1] at np
    cases np
  refine ⟨rfl, p, ss, rfl, hy, pf, ?_, ?_, ?_, F8, But.trans ((((((((((But.refl.new nl1).trans B1).new np1).new nl2).trans B3).new np2).new np3).new nl4).new np5).new np6) B8⟩
  · rw [hss.length_eq, List.length_append, List.length_append, List.length_replicate, List.length_replicate, List.length_replicate]; omega
  · refine hss.mem_iff.mpr (List.mem_append_right _ (List.mem_replicate.mpr ⟨by omega, rfl⟩))
  · intro s hs
    rcases List.mem_append.mp (hss.mem_iff.mp hs) with hs | hs
    · rcases List.mem_append.mp hs with hs | hs
      · exact .inl (List.mem_replicate.mp hs).2
      · exact .inr (.inl (List.mem_replicate.mp hs).2)
    · exact .inr (.inr (List.mem_replicate.mp hs).2)
end
/-! ### rules as data -/
abbrev ruleD (h : HR) : List PyData := .str h.wd :: (match h.no with | none => [] | some n => [.int n])
theorem rule_dp {K : PySem.W.Frag} {H : Hp} {r : Addr} {h : HR} (e : H r = some (.tup (ruleL h))) : Dp K H (.ref r) (.tuple (ruleD h)) := by
  obtain ⟨wd, no, mom⟩ := h
  cases no with
  | none => exact .tup (SqT.of e) (.cons (.str _) .nil)
  | some n => exact .tup (SqT.of e) (.cons (.str _) (.cons (.int _) .nil))
theorem rule_shaped {h : HR} (k : PyData.canLay0 (.str h.wd) = true) : SeqAt.shaped (.tuple (ruleD h)) = true := by
  obtain ⟨wd, no, mom⟩ := h
  have k : PyData.canLay0 (.str wd) = true := k
  cases no <;> simp [SeqAt.shaped, PyData.canLay0, PyData.canLayAll0, PyData.depth, PyData.depthAll] <;> simpa [PyData.canLay0] using k
theorem GoodHand.lay {h : HR} (g : GoodHand h) : PyData.canLay0 (.str h.wd) = true := by
  have : h.wd ∈ nine ∨ h.wd = "in" ∨ h.wd = "out" := g.1.elim (fun k => .inl k.wd) (fun k => .inr k.1)
  rcases this with k | k | k
  · unfold nine at k
    simp only [List.mem_cons, List.not_mem_nil, or_false] at k
    rcases k with k | k | k | k | k | k | k | k | k <;> rw [k] <;> decide +kernel
  · rw [k]; decide +kernel
  · rw [k]; decide +kernel
theorem one_shaped {z : Str} (k : PyData.canLay0 (.str z) = true) : SeqAt.shaped (.tuple [.str z]) = true := rule_shaped (h := ⟨z, none, 0⟩) k
theorem at0 {xs : List V} {i : Nat} {v : V} (h : xs[i]? = some v) : atI xs (0 + ((i : Nat) : Int)) = some v := by
  rw [Int.zero_add]
  exact atI_nat h
theorem rule_eqv (h : HR) (z : Str) : PyData.eqv (.tuple (ruleD h)) (.tuple [.str z]) = (decide (h.wd = z) && h.no.isNone) := by
  obtain ⟨wd, no, mom⟩ := h
  have e : (wd == z) = decide (wd = z) := by
    by_cases k : wd = z
    · rw [k, decide_eq_true rfl]; exact beq_self_eq_true z
    · rw [decide_eq_false k]; exact beq_eq_false_iff_ne.mpr k
  cases no with
  | none =>
    show (wd == z && true) = (decide (wd = z) && true)
    rw [e]
  | some n =>
    show (wd == z && false) = (decide (wd = z) && false)
    rw [Bool.and_false, Bool.and_false]
theorem GoodHand.door {h : HR} (g : GoodHand h) (z : Str) (hz : z = "in" ∨ z = "out") : (decide (h.wd = z) && h.no.isNone) = decide (h.wd = z) := by
  by_cases k : h.wd = z
  · rw [decide_eq_true k, Bool.true_and]
    rcases g.1 with g | g
    · have := g.wd
      rw [k] at this
      rcases hz with rfl | rfl <;> exact absurd this (by decide +kernel)
    · rw [g.2]; rfl
  · rw [decide_eq_false k]; rfl
/-! ### numbers in lists -/
abbrev nV (n : Nat) : V := .int (n : Nat)
def unN : V → Nat
  | .int i => i.toNat
  | _ => 0
def unI : V → Int
  | .int i => i
  | _ => 0
theorem perm_inv {α : Type} {f : α → V} {g : V → α} (k : ∀ a, g (f a) = a) {ys : List V} {zs : List α} (h : ys.Perm (zs.map f)) : ∃ ss : List α, ys = ss.map f ∧ ss.Perm zs := by
  refine ⟨ys.map g, ?_, ?_⟩
  · rw [List.map_map]
    symm
    refine (List.map_congr_left (g := id) fun y hy => ?_).trans (List.map_id _)
    obtain ⟨z, _, e⟩ := List.mem_map.mp (h.mem_iff.mp hy)
    subst e
    show f (g (f z)) = f z
    rw [k]
  · have q := h.map g
    rw [List.map_map] at q
    have e : zs.map (g ∘ f) = zs := (List.map_congr_left (g := id) fun z _ => k z).trans (List.map_id _)
    rw [e] at q
    exact q
def nd (hs : List HR) (j : Nat) : Nat := match hs[j]? with | some h => (needs h.wd).toNat | none => 0
def tkTo (hs : List HR) : Nat → List Nat
  | 0 => []
  | n + 1 => tkTo hs n ++ List.replicate (nd hs n) n
theorem tk_count (hs : List HR) (k : Nat) : ∀ n, (tkTo hs n).count k = if k < n then nd hs k else 0
  | 0 => by simp [tkTo]
  | n + 1 => by
    unfold tkTo
    rw [List.count_append, tk_count hs k n, List.count_replicate]
    by_cases h1 : k < n
    · have h2 : ¬ (n == k) = true := by simp; omega
      rw [if_pos h1, if_neg h2, if_pos (show k < n + 1 by omega), Nat.add_zero]
    · by_cases h2 : n = k
      · subst h2
        rw [if_neg h1, if_pos (beq_self_eq_true n), if_pos (show n < n + 1 by omega), Nat.zero_add]
      · have h3 : ¬ (n == k) = true := by simpa using h2
        rw [if_neg h1, if_neg h3, if_neg (show ¬ k < n + 1 by omega)]
theorem tk_mem (hs : List HR) : ∀ n k, k ∈ tkTo hs n → k < n
  | 0, k, h => nomatch h
  | n + 1, k, h => by
    rcases List.mem_append.mp h with h | h
    · exact Nat.lt_succ_of_lt (tk_mem hs n k h)
    · rw [(List.mem_replicate.mp h).2]; exact Nat.lt_succ_self n
theorem tk_len (hs : List HR) (z : ∀ h ∈ hs, 0 ≤ needs h.wd) : ∀ n, n ≤ hs.length → ((tkTo hs n).length : Int) = ((hs.take n).map fun h => needs h.wd).sum
  | 0, _ => rfl
  | n + 1, hn => by
    have e : hs[n]? = some hs[n] := List.getElem?_eq_getElem (by omega)
    unfold tkTo
    rw [List.length_append, List.length_replicate, List.take_add_one, e, List.map_append, List.sum_append, Int.natCast_add, tk_len hs z n (by omega)]
    unfold nd
    rw [e]
    have := z hs[n] (List.getElem_mem _)
    simp only [Option.toList, List.map_cons, List.map_nil, List.sum_cons, List.sum_nil]
    omega
structure RoomOk (hs : List HR) (bs : List BR) : Prop where
  hands : hs.length ≤ 12
  good : ∀ h ∈ hs, GoodHand h
  ends : ∀ b ∈ bs, b.one < hs.length ∧ b.to < hs.length
  out : ∀ b ∈ bs, ∀ h, hs[b.one]? = some h → h.wd ≠ "out"
  th : ∀ b ∈ bs, b.th.length ≤ 6 ∧ ∀ x ∈ b.th, Small x
  rank : ∃ rk : Nat → Int, ∀ b ∈ bs, b.th = [] → rk b.one < rk b.to
  count : ∀ k h, hs[k]? = some h → (((bs.map BR.to).count k : Nat) : Int) = needs h.wd
  many : bs.length ≤ 20
structure RoomAt (H : Hp) (r : Addr) (hs : List HR) (bs : List BR) : Prop where
  ex : ∃ (ha ba : Addr) (hv bv : List V), H r = some (.tup [.ref ha, .ref ba]) ∧ H ha = some (.tup hv) ∧ H ba = some (.tup bv) ∧ All2 (HandAt H) hv hs ∧ All2 (BeltAt H) bv bs
theorem RoomAt.keep {H H' : Hp} {r : Addr} {hs : List HR} {bs : List BR} (a : RoomAt H r hs bs) (k : TK H H') : RoomAt H' r hs bs := by
  obtain ⟨ha, ba, hv, bv, e1, e2, e3, a1, a2⟩ := a.ex
  exact ⟨ha, ba, hv, bv, k _ _ e1, k _ _ e2, k _ _ e3, a1.imp fun _ _ z => z.keep k, a2.imp fun _ _ z => z.keep k⟩
section
variable {P : Program} {w : World} {K : PySem.W.Frag} {mg : Str → Option Value} {base : Heap}
def sp_law_room (K : PySem.W.Frag) : Sp := fun vs H Q _ => ∃ (f c : Addr) (m : Int), vs = [.ref f, .int m] ∧ 1 ≤ m ∧ m ≤ 8 ∧ Flow H f c ∧
  ∀ (r : Addr) (hs : List HR) (bs : List BR) (H' : Hp), RoomAt H' r hs bs → RoomOk hs bs → 0 < hs.length → Flow H' f c → But f H H' → Q (.ref r) H'
/-- what stands while a room is drawn: the draws, the list of its hands -/
structure RI (f c hh : Addr) (H0 H : Hp) (xs : List V) (hs : List HR) : Prop where
  fl : Flow H f c
  bt : But f H0 H
  lh : H hh = some (.lst xs)
  al : All2 (HandAt H) xs hs
  n1 : hh ≠ f
  n2 : H0 hh = none
section
variable {f c hh : Addr} {H0 H H' : Hp} {xs : List V} {hs : List HR}
theorem RI.but (s : RI f c hh H0 H xs hs) (F : Flow H' f c) (b : But f H H') : RI f c hh H0 H' xs hs :=
  { s with fl := F, bt := s.bt.trans b, lh := b _ _ s.lh s.n1, al := s.al.imp fun _ _ k => k.keep (TK.but s.fl b) }
theorem RI.new {p : Addr} {o : HO} (s : RI f c hh H0 H xs hs) (n : H p = none) : RI f c hh H0 (upd H p o) xs hs :=
  { s with fl := s.fl.new n, bt := s.bt.new n, lh := same_new n _ _ s.lh, al := s.al.imp fun _ _ k => k.keep (TK.new n) }
theorem RI.same (s : RI f c hh H0 H xs hs) (k : Same H H') : RI f c hh H0 H' xs hs :=
  { s with fl := s.fl.same k, bt := s.bt.same k, lh := k _ _ s.lh, al := s.al.imp fun _ _ z => z.keep (TK.same k) }
theorem RI.lst {D : Addr} {as bs : List V} (s : RI f c hh H0 H xs hs) (h : H D = some (.lst as)) (d1 : D ≠ f) (d2 : D ≠ c) (d3 : D ≠ hh) (d4 : H0 D = none) : RI f c hh H0 (upd H D (.lst bs)) xs hs :=
  { s with fl := s.fl.lst d1 d2, bt := s.bt.own d4, lh := by rw [upd_ne d3.symm]; exact s.lh, al := s.al.imp fun _ _ z => z.keep (TK.lst h) }
end
theorem ok_law_room {f : Addr} {fd : FuncData} (F : Fun K "_law_room" "_law_room" s_law_room f fd) (T : Top K mg) : FnOk P w K mg base CX0 5 f fd ["_law_flow_here", "_law_most"] (sp_law_room K) := by
  obtain ⟨f_law_hands, fd_law_hands, F_law_hands, b_law_hands, m_law_hands⟩ := T.d_law_hands
  have G_law_hands := ok_law_hands (P := P) (w := w) (base := base) F_law_hands T
  obtain ⟨f_law_shuffled, fd_law_shuffled, F_law_shuffled, b_law_shuffled, m_law_shuffled⟩ := T.d_law_shuffled
  have G_law_shuffled := ok_law_shuffled (P := P) (w := w) (base := base) F_law_shuffled T
  obtain ⟨f_law_pick, fd_law_pick, F_law_pick, b_law_pick, m_law_pick⟩ := T.d_law_pick
  have G_law_pick := ok_law_pick (P := P) (w := w) (base := base) F_law_pick T
  obtain ⟨f_law_needs, fd_law_needs, F_law_needs, b_law_needs, m_law_needs⟩ := T.d_law_needs
  have G_law_needs := ok_law_needs (P := P) (w := w) (base := base) F_law_needs T
  obtain ⟨f_law_thing, fd_law_thing, F_law_thing, b_law_thing, m_law_thing⟩ := T.d_law_thing
  have G_law_thing := ok_law_thing (P := P) (w := w) (base := base) F_law_thing T
  refine F.ok sc_law_room (fun vs H Q E h => ?_) (fun cdv A outer s H vs Q E hr h => ?_)
  · obtain ⟨f, c, m, rfl, _⟩ := h
    rfl
  obtain ⟨f, c, m, rfl, m1, m8, hF, q⟩ := h
  have hm9 : m.natAbs.log2 < 9000 := by
    obtain ⟨j, rfl⟩ : ∃ j : Nat, m = (j : Int) := ⟨m.toNat, by omega⟩
    exact log_small (by omega)
  let R1 : TS := fun D' σ' H' => D'.rt = Q ∧ ∃ (hh rk gv : Addr) (xs : List V) (hs : List HR) (is : List Int) (gs : List Nat), σ' = [some (.ref f), some (.int m), some (.ref hh), some (.ref rk), some (.ref gv), none, none, none, none, none, none] ∧ RI f c hh H H' xs hs ∧ HandsOk hs ∧ H' rk = some (.lst (is.map V.int)) ∧ is.length = hs.length ∧ H' gv = some (.lst (gs.map nV)) ∧ gs ≠ [] ∧ gs.length ≤ 12 ∧ (∀ k ∈ gs, ∃ h, hs[k]? = some h ∧ h.wd ≠ "out") ∧ rk ≠ f ∧ gv ≠ f
  let R2 : TS := fun D' σ' H' => D'.rt = Q ∧ ∃ (hh rk gv tk : Addr) (xs : List V) (hs : List HR) (is : List Int) (gs ts : List Nat) (v5 : Option V), σ' = [some (.ref f), some (.int m), some (.ref hh), some (.ref rk), some (.ref gv), v5, some (.ref tk), none, none, none, none] ∧ RI f c hh H H' xs hs ∧ HandsOk hs ∧ H' rk = some (.lst (is.map V.int)) ∧ is.length = hs.length ∧ H' gv = some (.lst (gs.map nV)) ∧ gs ≠ [] ∧ gs.length ≤ 12 ∧ (∀ k ∈ gs, ∃ h, hs[k]? = some h ∧ h.wd ≠ "out") ∧ rk ≠ f ∧ gv ≠ f ∧ tk ≠ f ∧ H' tk = some (.lst (ts.map nV)) ∧ ts = tkTo hs hs.length
  refine ⟨_, (pss_cons (ps_set (i := 2) sc_law_room.nd rfl (Or.inr rfl) (pe_call G_law_hands (hr.mono (by decide)) (by rfl) m_law_hands F_law_hands.kp b_law_hands .nil pass0 (pa_cons (pv 0) (pa_cons (pe_op op_add pe_int (pe_call G_law_pick (hr.mono (by decide)) (by rfl) m_law_pick F_law_pick.kp b_law_pick .nil pass0 (pa_cons (pv 0) (pa_cons (pv 1) pa_nil)))) pa_nil))))
      (pss_cons (ps_set (i := 3) sc_law_room.nd rfl (Or.inl rfl) (pe_call G_law_shuffled (hr.mono (by decide)) (by rfl) m_law_shuffled F_law_shuffled.kp b_law_shuffled .nil pass0 (pa_cons (pv 0) (pa_cons (pe_listRg rfl (by rfl) T.m_list (prg_1 (by rfl) T.m_range (pe_callB (call_len_seqK K rfl) (by rfl) T.m_len (by decide +kernel) (pa_cons (pv 2) pa_nil)))) pa_nil))))
      (pss_cons (ps_setLc (i := 4) (own := [("_law_k", 5)]) (g := gName 5) (by rfl) sc_law_room.nd rfl rfl (sw_true rfl rfl rfl (by decide +kernel)) (pi_range1 (by rfl) T.m_range (pa_cons (pe_callB (call_len_seqK K rfl) (by rfl) T.m_len (by decide +kernel) (pa_cons (pv 2) pa_nil)) pa_nil)) (blkOk_by (own := [("_law_k", 5)]) (N := N_law_room) (sc := defScope s_law_room) (by decide +kernel)) (fun _ _ _ _ _ => (pg_name (i := 5) sc_law_room.nd rfl (Or.inl rfl))) (fun _ _ _ _ _ => pts_one (pt_cmpR (op_neDK K rfl hr.units) (pe_ix (ix_tupK K rfl) (pe_ix (ix_listK K rfl) (pv 2) (pv 5) (fun _ _ => rfl)) pe_int (fun _ _ => rfl)) (pe_tup (pa_cons pe_str pa_nil)) (nomark _))) (fun _ _ _ _ _ => (pv 5)))
      (PSs.to (pss_cons (ps_set (i := 6) sc_law_room.nd rfl (Or.inl rfl) (pe_lst pa_nil))
      (pss_cons (ps_for PassesOwn.never rfl (pi_range1 (by rfl) T.m_range (pa_cons (pe_callB (call_len_seqK K rfl) (by rfl) T.m_len (by decide +kernel) (pa_cons (pv 2) pa_nil)) pa_nil)) (pg_name (i := 5) sc_law_room.nd rfl (Or.inl rfl))
        (pss_one (ps_set (i := 6) sc_law_room.nd rfl (Or.inl rfl) (pe_op op_cat (pv 6) (pe_op op_rep (pe_lst (pa_cons (pv 5) pa_nil)) (pe_call G_law_needs (hr.mono (by decide)) (by rfl) m_law_needs F_law_needs.kp b_law_needs .nil pass0 (pa_cons (pe_ix (ix_tupK K rfl) (pe_ix (ix_listK K rfl) (pv 2) (pv 5) (fun _ _ => rfl)) pe_int (fun _ _ => rfl)) pa_nil)))))))
      (PSs.to (pss_cons (ps_set (i := 7) sc_law_room.nd rfl (Or.inl rfl) (pe_lst pa_nil))
      (pss_cons (ps_for PassesOwn.never rfl (pi_listK K rfl (pe_call G_law_shuffled (hr.mono (by decide)) (by rfl) m_law_shuffled F_law_shuffled.kp b_law_shuffled .nil pass0 (pa_cons (pv 0) (pa_cons (pv 6) pa_nil)))) (pg_name (i := 8) sc_law_room.nd rfl (Or.inl rfl))
        (pss_cons (ps_set (i := 9) sc_law_room.nd rfl (Or.inl rfl) (pe_ix (ix_listK K rfl) (pv 4) (pe_call G_law_pick (hr.mono (by decide)) (by rfl) m_law_pick F_law_pick.kp b_law_pick .nil pass0 (pa_cons (pv 0) (pa_cons (pe_callB (call_len_seqK K rfl) (by rfl) T.m_len (by decide +kernel) (pa_cons (pv 4) pa_nil)) pa_nil))) (fun _ _ => rfl)))
      (pss_cons (ps_set (i := 10) sc_law_room.nd rfl (Or.inl rfl) (pe_ix (ix_listK K rfl) (pe_lst (pa_cons pe_int (pa_cons pe_int (pa_cons pe_int (pa_cons pe_int (pa_cons pe_int (pa_cons pe_int (pa_cons pe_int (pa_cons pe_int pa_nil))))))))) (pe_call G_law_pick (hr.mono (by decide)) (by rfl) m_law_pick F_law_pick.kp b_law_pick .nil pass0 (pa_cons (pv 0) (pa_cons pe_int pa_nil))) (fun _ _ => rfl)))
      (pss_cons (ps_if (pt_cmpR op_ge (pe_ix (ix_listK K rfl) (pv 3) (pv 9) (fun _ _ => rfl)) (pe_ix (ix_listK K rfl) (pv 3) (pv 8) (fun _ _ => rfl)) (nomark _)) (pss_one (ps_set (i := 10) sc_law_room.nd rfl (Or.inl rfl) (pe_callB (call_max2 rfl) (by rfl) T.m_max (by decide +kernel) (pa_cons pe_int (pa_cons (pv 10) pa_nil))))) pss_nil)
      (pss_one (ps_expr (pe_bmK K rfl PySem.F.plainAttrs_list PySem.F.slot_list_append PySem.F.type_list_append mt_append (pv 7) (pa_cons (pe_tup (pa_cons (pv 9) (pa_cons (pv 8) (pa_cons (pe_callTy (call_tuple_ofK K rfl) (by rfl) T.m_tuple (by decide +kernel) (pa_cons (pe_lc (own := [("_law_k", 5)]) (g := gName 5) (tt := tYes) (by rfl) sc_law_room.nd (pi_range1 (by rfl) T.m_range (pa_cons (pv 10) pa_nil)) (blkOk_by (own := [("_law_k", 5)]) (N := N_law_room) (sc := defScope s_law_room) (by decide +kernel)) (fun _ _ _ _ _ => (pg_name (i := 5) sc_law_room.nd rfl (Or.inl rfl))) (fun _ _ _ _ _ => pts_nil) (fun _ _ _ _ _ => (pe_call G_law_thing (hr.mono (by decide)) (by rfl) m_law_thing F_law_thing.kp b_law_thing .nil pass0 (pa_cons (pv 0) pa_nil)))) pa_nil)) pa_nil)))) pa_nil))))))))
      (pss_one (ps_ret (pe_tup (pa_cons (pe_callTy (call_tuple_ofK K rfl) (by rfl) T.m_tuple (by decide +kernel) (pa_cons (pv 2) pa_nil)) (pa_cons (pe_callTy (call_tuple_ofK K rfl) (by rfl) T.m_tuple (by decide +kernel) (pa_cons (pv 7) pa_nil)) pa_nil))))))) R2 ?tail2))) R1 ?tail1)))), ?_⟩
  case tail2 =>
    rintro D' σ' H1 ⟨eD, hh, rk, gv, tk, xs, hs, is, gs, ts, v5, rfl, I1, ok, hrk, lis, hgv, gne, glen, gok, nrk, ngv, ntk, htk, ets⟩
    have hx : xs.length = hs.length := I1.al.length
    have len12 := ok.len
    have lts : ts.length ≤ 20 := by
      have a := tk_len hs ok.nz hs.length (Nat.le_refl _)
      rw [List.take_length, ← ets] at a
      have := ok.sum
      omega
    refine ⟨(by show 0 ≤ sizeLine; decide), fun bl nbl => ?_⟩
    have I2 := I1.new (o := .lst []) nbl
    refine ⟨_, rfl, _, rfl, f, c, tk, _, rfl, SqL.of (same_new nbl _ _ htk), ntk, by rw [List.length_map]; omega, I2.fl, fun sh ys H3 hp nsh hsh F3 B3 => ?_⟩
    obtain ⟨tt, rfl, htt⟩ := perm_inv (f := nV) (g := unN) (fun n => by show ((n : Nat) : Int).toNat = n; omega) hp
    have I3 := I2.but F3 B3
    have bf : bl ≠ f := I1.fl.ne nbl
    have bc : bl ≠ c := I1.fl.nec nbl
    have hbl3 := B3 _ _ upd_same bf
    have bsh : bl ≠ sh := fun e => by rw [← e, upd_same] at nsh; cases nsh
    have bnone : H bl = Option.none := I1.bt.none nbl bf
    have rank : Nat → Int := fun k => is.getD k 0
    refine ⟨sh, rfl, ⟨_, SqL.of hsh⟩, for_list (K := K) (a := sh) (xs := tt.map nV) (fun i σ H4 => ∃ (bv : List V) (bs : List BR) (v5 v8 v9 v10 : Option V), σ = [some (.ref f), some (.int m), some (.ref hh), some (.ref rk), some (.ref gv), v5, some (.ref tk), some (.ref bl), v8, v9, v10] ∧ RI f c hh H H4 xs hs ∧ H4 rk = some (.lst (is.map V.int)) ∧ H4 gv = some (.lst (gs.map nV)) ∧ H4 sh = some (.lst (tt.map nV)) ∧ H4 bl = some (.lst bv) ∧ All2 (BeltAt H4) bv bs ∧ bs.map BR.to = tt.take i ∧
        (∀ b ∈ bs, b.one < hs.length ∧ (∀ h, hs[b.one]? = some h → h.wd ≠ "out") ∧ b.th.length ≤ 6 ∧ (∀ x ∈ b.th, Small x) ∧ (b.th = [] → is.getD b.one 0 < is.getD b.to 0)))
      ⟨[], [], v5, none, none, none, rfl, I3, B3 _ _ (same_new nbl _ _ hrk) nrk, B3 _ _ (same_new nbl _ _ hgv) ngv, hsh, hbl3, .nil, rfl, (fun _ h => nomatch h)⟩ (fun i σ H4 _ ⟨_, _, _, _, _, _, _, _, _, _, h, _⟩ => SqL.of h) ?_ ?_⟩
    · rintro i y σ H4 hi ⟨bv, bs, v5, v8, v9, v10, rfl, I4, hrk4, hgv4, hsh4, hbl4, al, em, hb⟩
      rw [List.getElem?_map] at hi
      cases et : tt[i]? with
      | none => rw [et] at hi; cases hi
      | some to =>
      rw [et] at hi
      obtain rfl : nV to = y := Option.some.inj hi
      have toL : to < hs.length := tk_mem hs _ _ (by rw [← ets]; exact htt.mem_iff.mp (List.mem_of_getElem? et))
      have il : i < 20 := by have := (List.getElem?_eq_some_iff.mp et).1; rw [htt.length_eq] at this; omega
      have lb : bs.length = i := by
        have := congrArg List.length em
        rw [List.length_map, List.length_take, Nat.min_eq_left (Nat.le_of_lt (List.getElem?_eq_some_iff.mp et).1)] at this
        exact this
      have g0 : 0 < gs.length := List.length_pos_iff.mpr gne
      refine ⟨_, rfl, _, rfl, _, rfl, gv, _, rfl, .inl (SqL.of hgv4), f, c, _, rfl, (by rw [List.length_map]; omega), (by rw [List.length_map]; exact log_small (by omega)), I4.fl, fun z H5 z0 z1 F5 B5 => ?_⟩
      rw [List.length_map] at z1
      have I5 := I4.but F5 B5
      have hgv5 := B5 _ _ hgv4 ngv
      obtain ⟨one, eo, ho⟩ : ∃ one, atI (gs.map nV) z = some (nV one) ∧ one ∈ gs := by
        have hk : z.toNat < gs.length := by omega
        have ek : z = ((z.toNat : Nat) : Int) := by omega
        refine ⟨gs[z.toNat], ?_, List.getElem_mem _⟩
        have q2 : atI (gs.map nV) ((z.toNat : Nat) : Int) = some (nV gs[z.toNat]) := atI_nat (by rw [List.getElem?_map, List.getElem?_eq_getElem hk]; rfl)
        rw [← ek] at q2
        exact q2
      obtain ⟨ho1, eh1, hout⟩ := gok one ho
      have oneL : one < hs.length := (List.getElem?_eq_some_iff.mp eh1).1
      refine ⟨gv, _, _, _, rfl, rfl, SqL.of hgv5, eo, ?_⟩
      refine ⟨(by show 8 ≤ sizeLine; decide), fun tl ntl => ?_⟩
      have I6 := I5.new (o := .lst [V.int 0, V.int 0, V.int 0, V.int 1, V.int 1, V.int 2, V.int 3, V.int 6]) ntl
      refine ⟨_, rfl, f, c, 8, rfl, by decide, by decide +kernel, I6.fl, fun y2 H7 y0 y8 F7 B7 => ?_⟩
      have I7 := I6.but F7 B7
      have htl := B7 _ _ upd_same (I5.fl.ne ntl)
      obtain ⟨tr, htr, tr0, tr6⟩ : ∃ tr : Int, atI [V.int 0, V.int 0, V.int 0, V.int 1, V.int 1, V.int 2, V.int 3, V.int 6] y2 = some (.int tr) ∧ 0 ≤ tr ∧ tr ≤ 6 := by
        have : y2 = 0 ∨ y2 = 1 ∨ y2 = 2 ∨ y2 = 3 ∨ y2 = 4 ∨ y2 = 5 ∨ y2 = 6 ∨ y2 = 7 := by omega
        rcases this with rfl | rfl | rfl | rfl | rfl | rfl | rfl | rfl
        · exact ⟨0, rfl, by decide, by decide⟩
        · exact ⟨0, rfl, by decide, by decide⟩
        · exact ⟨0, rfl, by decide, by decide⟩
        · exact ⟨1, rfl, by decide, by decide⟩
        · exact ⟨1, rfl, by decide, by decide⟩
        · exact ⟨2, rfl, by decide, by decide⟩
        · exact ⟨3, rfl, by decide, by decide⟩
        · exact ⟨6, rfl, by decide, by decide⟩
      refine ⟨tl, _, _, _, rfl, rfl, SqL.of htl, htr, ?_⟩
      have k7 : But f H4 H7 := (B5.new ntl).trans B7
      have hrk7 := k7 _ _ hrk4 nrk
      have hgv7 := k7 _ _ hgv4 ngv
      have shf : sh ≠ f := fun e => by rw [e] at nsh; obtain ⟨_, _, _, _, _, e1, _⟩ := I2.fl; rw [e1] at nsh; cases nsh
      have hsh7 := k7 _ _ hsh4 shf
      have hbl7 := k7 _ _ hbl4 bf
      have tk7 : TK H4 H7 := (TK.but I4.fl B5).trans ((TK.new ntl).trans (TK.but I6.fl B7))
      have al7 : All2 (BeltAt H7) bv bs := al.imp fun _ _ z => z.keep tk7
      have r1 : (is.map V.int)[one]? = some (.int (is.getD one 0)) := by
        rw [List.getElem?_map, List.getD_eq_getElem?_getD, List.getElem?_eq_getElem (by omega)]; rfl
      have r2 : (is.map V.int)[to]? = some (.int (is.getD to 0)) := by
        rw [List.getElem?_map, List.getD_eq_getElem?_getD, List.getElem?_eq_getElem (by omega)]; rfl
      have bvl : bv.length = i := by rw [al.length, lb]
      -- the end of a turn, with so many trays
      refine ⟨_, rfl, _, rfl, rk, _, _, _, rfl, rfl, SqL.of hrk7, atI_nat r1, _, rfl, _, rfl, rk, _, _, _, rfl, rfl, SqL.of hrk7, atI_nat r2, _, _, rfl, rfl, _, rfl, if_bl (fun kk => ?_) (fun kk => ?_)⟩
      · refine ⟨_, rfl, _, _, rfl, ?_⟩
        generalize ht : (if tr > 1 then tr else 1) = tn
        have tn0 : 0 ≤ tn := by rw [← ht]; split <;> omega
        have tn6 : tn ≤ 6 := by rw [← ht]; split <;> omega
        have ttt : tn.toNat = 0 → is.getD one 0 < is.getD to 0 := fun e => by
          exfalso
          have : 1 ≤ tn := by rw [← ht]; split <;> omega
          omega
        refine ⟨_, rfl, .inl ⟨rfl, _, SqL.of hbl7⟩, _, rfl, _, rfl, _, rfl, _, rfl, by omega, by omega, fun D nD => lc_range (lo := 0) (n := tn.toNat) (fun j H8 => ∃ vs : List Int, vs.length = j ∧ H8 D = some (.lst (vs.map V.int)) ∧ (∀ x ∈ vs, Small x) ∧ RI f c hh H H8 xs hs ∧ But f H7 H8 ∧ TK H7 H8 ∧ D ≠ f ∧ D ≠ c ∧ D ≠ hh ∧ H D = Option.none ∧ H7 D = Option.none)
          ⟨[], rfl, upd_same, (fun _ h => nomatch h), I7.new nD, But.refl.new nD, TK.new nD, I7.fl.ne nD, I7.fl.nec nD, (ne_of_none I7.lh nD).symm, I7.bt.none nD (I7.fl.ne nD), nD⟩ ?_ ?_⟩
        · rintro j H8 hj ⟨vs, lv, hD, sm, I8, b8, t8, d1, d2, d3, d4, d5⟩
          refine ⟨rfl, yes_in ⟨_, rfl, f, c, rfl, I8.fl, fun x H9 sx F9 B9 => ⟨_, B9 _ _ hD d1, ?_, vs ++ [x], by rw [List.length_append, lv]; rfl, ?_, ?_, (I8.but F9 B9).lst (B9 _ _ hD d1) d1 d2 d3 d4, (b8.trans B9).own d5, (t8.trans (TK.but I8.fl B9)).trans (TK.lst (B9 _ _ hD d1)), d1, d2, d3, d4, d5⟩⟩⟩
          · rw [List.length_map, lv]; exact small1000 (by omega)
          · rw [upd_same, List.map_append]; rfl
          · intro y hy
            rcases List.mem_append.mp hy with hy | hy
            · exact sm y hy
            · obtain rfl : y = x := by simpa using hy
              exact sx
        · rintro H8 ⟨vs, lv, hD, sm, I8, b8, t8, d1, d2, d3, d4, d5⟩
          refine ⟨D, _, rfl, .inl ⟨SqL.of hD, fun g ng => ⟨(by show 3 ≤ sizeLine; decide), fun t nt => ?_⟩⟩⟩
          have I9 := (I8.new (o := .tup (vs.map V.int)) ng).new (o := .tup [nV one, nV to, V.ref g]) nt
          have hbl8 := same_new (o := .tup [nV one, nV to, V.ref g]) nt _ _ (same_new (o := .tup (vs.map V.int)) ng _ _ (b8 _ _ hbl7 bf))
          have t9 : TK H7 (upd (upd H8 g (.tup (vs.map V.int))) t (.tup [nV one, nV to, V.ref g])) := (t8.trans (TK.new ng)).trans (TK.new nt)
          have s9 : ∀ b o, H7 b = some o → b ≠ f → (upd (upd H8 g (.tup (vs.map V.int))) t (.tup [nV one, nV to, V.ref g])) b = some o := fun b o e n => same_new nt _ _ (same_new ng _ _ (b8 _ _ e n))
          have bh : bl ≠ hh := fun e => by
            have h1 := I1.lh
            rw [← e, nbl] at h1
            cases h1
          have brk : bl ≠ rk := fun e => by
            have h1 := hrk
            rw [← e, nbl] at h1
            cases h1
          have bgv : bl ≠ gv := fun e => by
            have h1 := hgv
            rw [← e, nbl] at h1
            cases h1
          refine ⟨bl, _, _, rfl, rfl, hbl8, small1000 (by rw [bvl]; omega), ?_⟩
          refine ⟨bv ++ [V.ref t], bs ++ [⟨one, to, vs⟩], _, _, _, _, rfl, I9.lst hbl8 bf bc bh bnone, ?_, ?_, ?_, upd_same, ?_, ?_, ?_⟩
          · rw [upd_ne brk.symm]; exact s9 _ _ hrk7 nrk
          · rw [upd_ne bgv.symm]; exact s9 _ _ hgv7 ngv
          · rw [upd_ne bsh.symm]; exact s9 _ _ hsh7 shf
          · exact ((al7.imp fun _ _ z => z.keep t9).snoc ⟨t, g, rfl, upd_same, same_new nt _ _ upd_same⟩).imp fun _ _ z => z.keep (TK.lst hbl8)
          · rw [List.map_append, em, List.take_add_one, et]; rfl
          · intro b hb2
            rcases List.mem_append.mp hb2 with hb2 | hb2
            · exact hb b hb2
            · obtain rfl : b = ⟨one, to, vs⟩ := by simpa using hb2
              refine ⟨oneL, fun h e => ?_, by show vs.length ≤ 6; omega, sm, fun e => ?_⟩
              · have e : hs[one]? = some h := e
                rw [eh1] at e
                cases e
                exact hout
              · have e : vs = [] := e
                rw [e] at lv
                exact ttt (by simpa using lv.symm)
      · obtain ⟨tn, ht⟩ : ∃ tn, tn = tr := ⟨_, rfl⟩
        rw [← ht]
        have tn0 : 0 ≤ tn := by omega
        have tn6 : tn ≤ 6 := by omega
        have ttt : tn.toNat = 0 → is.getD one 0 < is.getD to 0 := fun _ => by
          have : ¬ is.getD to 0 ≤ is.getD one 0 := of_decide_eq_false kk
          omega
        refine ⟨_, rfl, .inl ⟨rfl, _, SqL.of hbl7⟩, _, rfl, _, rfl, _, rfl, _, rfl, by omega, by omega, fun D nD => lc_range (lo := 0) (n := tn.toNat) (fun j H8 => ∃ vs : List Int, vs.length = j ∧ H8 D = some (.lst (vs.map V.int)) ∧ (∀ x ∈ vs, Small x) ∧ RI f c hh H H8 xs hs ∧ But f H7 H8 ∧ TK H7 H8 ∧ D ≠ f ∧ D ≠ c ∧ D ≠ hh ∧ H D = Option.none ∧ H7 D = Option.none)
          ⟨[], rfl, upd_same, (fun _ h => nomatch h), I7.new nD, But.refl.new nD, TK.new nD, I7.fl.ne nD, I7.fl.nec nD, (ne_of_none I7.lh nD).symm, I7.bt.none nD (I7.fl.ne nD), nD⟩ ?_ ?_⟩
        · rintro j H8 hj ⟨vs, lv, hD, sm, I8, b8, t8, d1, d2, d3, d4, d5⟩
          refine ⟨rfl, yes_in ⟨_, rfl, f, c, rfl, I8.fl, fun x H9 sx F9 B9 => ⟨_, B9 _ _ hD d1, ?_, vs ++ [x], by rw [List.length_append, lv]; rfl, ?_, ?_, (I8.but F9 B9).lst (B9 _ _ hD d1) d1 d2 d3 d4, (b8.trans B9).own d5, (t8.trans (TK.but I8.fl B9)).trans (TK.lst (B9 _ _ hD d1)), d1, d2, d3, d4, d5⟩⟩⟩
          · rw [List.length_map, lv]; exact small1000 (by omega)
          · rw [upd_same, List.map_append]; rfl
          · intro y hy
            rcases List.mem_append.mp hy with hy | hy
            · exact sm y hy
            · obtain rfl : y = x := by simpa using hy
              exact sx
        · rintro H8 ⟨vs, lv, hD, sm, I8, b8, t8, d1, d2, d3, d4, d5⟩
          refine ⟨D, _, rfl, .inl ⟨SqL.of hD, fun g ng => ⟨(by show 3 ≤ sizeLine; decide), fun t nt => ?_⟩⟩⟩
          have I9 := (I8.new (o := .tup (vs.map V.int)) ng).new (o := .tup [nV one, nV to, V.ref g]) nt
          have hbl8 := same_new (o := .tup [nV one, nV to, V.ref g]) nt _ _ (same_new (o := .tup (vs.map V.int)) ng _ _ (b8 _ _ hbl7 bf))
          have t9 : TK H7 (upd (upd H8 g (.tup (vs.map V.int))) t (.tup [nV one, nV to, V.ref g])) := (t8.trans (TK.new ng)).trans (TK.new nt)
          have s9 : ∀ b o, H7 b = some o → b ≠ f → (upd (upd H8 g (.tup (vs.map V.int))) t (.tup [nV one, nV to, V.ref g])) b = some o := fun b o e n => same_new nt _ _ (same_new ng _ _ (b8 _ _ e n))
          have bh : bl ≠ hh := fun e => by
            have h1 := I1.lh
            rw [← e, nbl] at h1
            cases h1
          have brk : bl ≠ rk := fun e => by
            have h1 := hrk
            rw [← e, nbl] at h1
            cases h1
          have bgv : bl ≠ gv := fun e => by
            have h1 := hgv
            rw [← e, nbl] at h1
            cases h1
          refine ⟨bl, _, _, rfl, rfl, hbl8, small1000 (by rw [bvl]; omega), ?_⟩
          refine ⟨bv ++ [V.ref t], bs ++ [⟨one, to, vs⟩], _, _, _, _, rfl, I9.lst hbl8 bf bc bh bnone, ?_, ?_, ?_, upd_same, ?_, ?_, ?_⟩
          · rw [upd_ne brk.symm]; exact s9 _ _ hrk7 nrk
          · rw [upd_ne bgv.symm]; exact s9 _ _ hgv7 ngv
          · rw [upd_ne bsh.symm]; exact s9 _ _ hsh7 shf
          · exact ((al7.imp fun _ _ z => z.keep t9).snoc ⟨t, g, rfl, upd_same, same_new nt _ _ upd_same⟩).imp fun _ _ z => z.keep (TK.lst hbl8)
          · rw [List.map_append, em, List.take_add_one, et]; rfl
          · intro b hb2
            rcases List.mem_append.mp hb2 with hb2 | hb2
            · exact hb b hb2
            · obtain rfl : b = ⟨one, to, vs⟩ := by simpa using hb2
              refine ⟨oneL, fun h e => ?_, by show vs.length ≤ 6; omega, sm, fun e => ?_⟩
              · have e : hs[one]? = some h := e
                rw [eh1] at e
                cases e
                exact hout
              · have e : vs = [] := e
                rw [e] at lv
                exact ttt (by simpa using lv.symm)
    · rintro σ H4 ⟨bv, bs, v5, v8, v9, v10, rfl, I4, hrk4, hgv4, hsh4, hbl4, al, em, hb⟩
      rw [List.length_map, List.take_length] at em
      have lb : bs.length = ts.length := by
        have := congrArg List.length em
        rw [List.length_map] at this
        rw [this, htt.length_eq]
      refine ⟨_, rfl, hh, _, rfl, .inl ⟨SqL.of I4.lh, fun a1 na1 => ⟨_, rfl, bl, _, rfl, .inl ⟨SqL.of (same_new na1 _ _ hbl4), fun a2 na2 => ⟨(by show 2 ≤ sizeLine; decide), fun a3 na3 => ?_⟩⟩⟩⟩⟩
      rw [eD]
      have k1 : TK H4 (upd (upd (upd H4 a1 (.tup xs)) a2 (.tup bv)) a3 (.tup [V.ref a1, V.ref a2])) := ((TK.new na1).trans (TK.new na2)).trans (TK.new na3)
      refine q a3 hs bs _ ⟨a1, a2, xs, bv, upd_same, same_new na3 _ _ (same_new na2 _ _ upd_same), same_new na3 _ _ upd_same, I4.al.imp fun _ _ z => z.keep k1, al.imp fun _ _ z => z.keep k1⟩ ⟨ok.len, ok.good, fun b hb2 => ⟨(hb b hb2).1, ?_⟩, fun b hb2 => (hb b hb2).2.1, fun b hb2 => ⟨(hb b hb2).2.2.1, (hb b hb2).2.2.2.1⟩, ⟨fun k => is.getD k 0, fun b hb2 => (hb b hb2).2.2.2.2⟩, fun k h hk => ?_, by omega⟩ (by obtain ⟨h1, hm1, _⟩ := ok.one; exact List.length_pos_of_mem hm1) (((I4.fl.new na1).new na2).new na3) (((I4.bt.new na1).new na2).new na3)
      · have : b.to ∈ bs.map BR.to := List.mem_map.mpr ⟨b, hb2, rfl⟩
        rw [em] at this
        exact tk_mem hs _ _ (by rw [← ets]; exact htt.mem_iff.mp this)
      · rw [em, htt.count_eq, ets, tk_count, if_pos (List.getElem?_eq_some_iff.mp hk).1]
        unfold nd
        rw [hk]
        have := ok.nz h (List.mem_of_getElem? hk)
        show (((needs h.wd).toNat : Nat) : Int) = needs h.wd
        omega
  case tail1 =>
    rintro D' σ' H1 ⟨eD, hh, rk, gv, xs, hs, is, gs, rfl, I1, ok, hrk, lis, hgv, gne, glen, gok, nrk, ngv⟩
    refine ⟨(by show 0 ≤ sizeLine; decide), fun tk ntk => ?_⟩
    have I2 := I1.new (o := .lst []) ntk
    have hx : xs.length = hs.length := I1.al.length
    refine ⟨_, rfl, hh, _, rfl, .inl (SqL.of I2.lh), _, rfl, by omega, (by rw [hx]; have := ok.len; omega), for_range (lo := 0) (n := xs.length) (fun i σ H2 => ∃ (tk : Addr) (v5 : Option V), σ = [some (.ref f), some (.int m), some (.ref hh), some (.ref rk), some (.ref gv), v5, some (.ref tk), none, none, none, none] ∧ RI f c hh H H2 xs hs ∧ H2 rk = some (.lst (is.map V.int)) ∧ H2 gv = some (.lst (gs.map nV)) ∧ tk ≠ f ∧ H2 tk = some (.lst ((tkTo hs i).map nV)))
      ⟨tk, none, rfl, I2, same_new ntk _ _ hrk, same_new ntk _ _ hgv, I1.fl.ne ntk, upd_same⟩ ?_ ?_⟩
    · rintro i σ H2 hi ⟨tk, v5, rfl, I3, hrk3, hgv3, tf, htk⟩
      have eh : hs[i]? = some hs[i] := List.getElem?_eq_getElem (by omega)
      obtain ⟨x, ex, ⟨t, r, rfl, e1, e2⟩⟩ := I3.al.get eh
      have z0 := ok.nz _ (List.mem_of_getElem? eh)
      have zs : needs hs[i].wd ≤ 3 := by
        unfold needs
        split
        · decide
        · split
          · decide
          · split <;> decide
      have sz : (tkTo hs i).length ≤ 20 := by
        have a := tk_len hs ok.nz i (by omega)
        have b : ((hs.take i).map fun h => needs h.wd).sum ≤ (hs.map fun h => needs h.wd).sum := by
          have e : hs.map (fun h => needs h.wd) = (hs.take i).map (fun h => needs h.wd) ++ (hs.drop i).map (fun h => needs h.wd) := by rw [← List.map_append, List.take_append_drop]
          rw [e, List.sum_append]
          have : 0 ≤ ((hs.drop i).map fun h => needs h.wd).sum := by
            have hz : ∀ h ∈ hs.drop i, 0 ≤ needs h.wd := fun h hh => ok.nz h (List.mem_of_mem_drop hh)
            revert hz
            generalize hs.drop i = l
            intro hz
            induction l with
            | nil => decide
            | cons a l ih =>
              have := hz a (List.mem_cons_self ..)
              have := ih fun h hh => hz h (List.mem_cons_of_mem _ hh)
              rw [List.map_cons, List.sum_cons]
              omega
          omega
        have := ok.sum
        omega
      refine ⟨_, rfl, _, rfl, (by show 1 ≤ sizeLine; decide), fun l1 nl1 => ?_⟩
      have I4 := I3.new (o := .lst [V.int (0 + ((i : Nat) : Int))]) nl1
      refine ⟨_, rfl, _, rfl, hh, _, _, _, rfl, rfl, SqL.of I4.lh, at0 ex, t, _, _, _, rfl, rfl, SqT.of (same_new nl1 _ _ e1), atI_nat (j := 0) rfl, r, hs[i].wd, _, rfl, SqT.of (same_new nl1 _ _ e2), fun H5 s5 => ?_⟩
      have I5 := I4.same s5
      have g1 := s5 _ _ upd_same
      have g2 := s5 _ _ (same_new nl1 _ _ htk)
      refine ⟨l1, _, _, rfl, rfl, g1, by omega, by omega, little (by show 1 * (needs hs[i].wd).toNat ≤ 1000; omega), fun l2 nl2 => ?_⟩
      rw [flat_rep]
      have I6 := I5.new (o := .lst (List.replicate (needs hs[i].wd).toNat (V.int (0 + ((i : Nat) : Int))))) nl2
      refine ⟨tk, l2, _, _, rfl, rfl, same_new nl2 _ _ g2, upd_same, ?_, fun l3 nl3 => ?_⟩
      · rw [List.length_map, List.length_replicate]; exact little (by omega)
      refine ⟨l3, _, rfl, I6.new nl3, same_new nl3 _ _ (same_new nl2 _ _ (s5 _ _ (same_new nl1 _ _ hrk3))), same_new nl3 _ _ (same_new nl2 _ _ (s5 _ _ (same_new nl1 _ _ hgv3))), I6.fl.ne nl3, ?_⟩
      rw [upd_same]
      have e : nd hs i = (needs hs[i].wd).toNat := by unfold nd; rw [eh]
      rw [show tkTo hs (i + 1) = tkTo hs i ++ List.replicate (nd hs i) i from rfl, List.map_append, List.map_replicate, e, Int.zero_add]
    · rintro σ H2 ⟨tk, v5, rfl, I3, hrk3, hgv3, tf, htk⟩
      exact ⟨eD, hh, rk, gv, tk, xs, hs, is, gs, _, v5, rfl, I3, ok, hrk3, lis, hgv3, gne, glen, gok, nrk, ngv, tf, htk, by rw [hx]⟩
  refine ⟨_, rfl, _, rfl, _, rfl, f, c, m, rfl, by omega, hm9, hF, fun v1 H1 a1 b1 F1 B1 => ?_⟩
  refine ⟨_, _, rfl, rfl, f, c, _, rfl, by omega, by omega, F1, fun hh xs hs H2 nhh hhh al ok F2 B2 => ?_⟩
  have hx : xs.length = hs.length := al.length
  have len12 := ok.len
  have nf : hh ≠ f := F1.ne nhh
  have I2 : RI f c hh H H2 xs hs := ⟨F2, B1.trans B2, hhh, al, nf, B1.none nhh nf⟩
  -- ranks
  refine ⟨_, rfl, _, rfl, hh, _, rfl, .inl (SqL.of I2.lh), _, rfl, ⟨by omega, by omega, by omega, by omega, by omega⟩, fun rg nrg => ?_⟩
  have I3 := I2.new (o := .lst (rgV 0 ((xs.length : Nat) : Int))) nrg
  refine ⟨f, c, rg, _, rfl, SqL.of upd_same, I2.fl.ne nrg, ?_, I3.fl, fun rk ys H4 hp nrk hrk F4 B4 => ?_⟩
  · rw [rgV_length]; omega
  have erg : rgV 0 ((xs.length : Nat) : Int) = ((List.range xs.length).map fun i => ((i : Nat) : Int)).map V.int := by
    unfold rgV
    rw [List.map_map, show (((xs.length : Nat) : Int) - 0).toNat = xs.length by omega]
    refine List.map_congr_left fun i _ => ?_
    show V.int (0 + ((i : Nat) : Int)) = V.int ((i : Nat) : Int)
    rw [Int.zero_add]
  rw [erg] at hp
  obtain ⟨is, rfl, his⟩ := perm_inv (f := V.int) (g := unI) (fun _ => rfl) hp
  have lis : is.length = hs.length := by rw [his.length_eq, List.length_map, List.length_range, hx]
  have I4 := I3.but F4 B4
  have rkf : rk ≠ f := I3.fl.ne nrk
  -- givers
  refine ⟨_, rfl, hh, _, rfl, .inl (SqL.of I4.lh), _, rfl, by omega, by omega, fun D nD => lc_range (lo := 0) (n := xs.length) (fun i H5 => ∃ gs : List Nat, H5 D = some (.lst (gs.map nV)) ∧ gs.length ≤ i ∧ RI f c hh H H5 xs hs ∧ H5 rk = some (.lst (is.map V.int)) ∧ (∀ k ∈ gs, ∃ h, hs[k]? = some h ∧ h.wd ≠ "out") ∧ (∀ k h, k < i → hs[k]? = some h → h.wd ≠ "out" → gs ≠ []) ∧ D ≠ f ∧ D ≠ c ∧ D ≠ hh ∧ D ≠ rk ∧ H D = Option.none)
    ⟨[], upd_same, Nat.le_refl _, I4.new nD, same_new nD _ _ hrk, (fun _ h => nomatch h), (fun k h hk => absurd hk (Nat.not_lt_zero _)), I4.fl.ne nD, I4.fl.nec nD, (ne_of_none I4.lh nD).symm, (ne_of_none hrk nD).symm, I4.bt.none nD (I4.fl.ne nD)⟩ ?_ ?_⟩
  · rintro i H5 hi ⟨gs, hD, lg, I5, hrk5, g1, g2, d1, d2, d3, d4, d5⟩
    have eh : hs[i]? = some hs[i] := List.getElem?_eq_getElem (by omega)
    obtain ⟨x, ex, ⟨t, r, rfl, e1, e2⟩⟩ := I5.al.get eh
    have gh := ok.good _ (List.mem_of_getElem? eh)
    refine ⟨rfl, _, rfl, _, rfl, hh, _, _, _, rfl, rfl, SqL.of I5.lh, at0 ex, t, _, _, _, rfl, rfl, SqT.of e1, atI_nat (j := 0) rfl, (by show 1 ≤ sizeLine; decide), fun o1 no1 => ?_⟩
    have I6 := I5.new (o := .tup [V.str "out"]) no1
    have hD6 : (upd H5 o1 (.tup [V.str "out"])) D = some (.lst (gs.map nV)) := same_new no1 _ _ hD
    refine ⟨_, _, rule_dp (same_new no1 _ _ e2), .tup (SqT.of upd_same) (.cons (.str _) .nil), rule_shaped gh.lay, one_shaped (by decide +kernel), _, rfl, ?_⟩
    rw [rule_eqv, gh.door "out" (.inr rfl)]
    by_cases k : hs[i].wd = "out"
    · rw [decide_eq_true k]
      refine if_bl (fun z => absurd z (by decide)) (fun _ => ⟨gs, hD6, by omega, I6, same_new no1 _ _ hrk5, g1, fun k' h' hk hk2 hk3 => ?_, d1, d2, d3, d4, d5⟩)
      by_cases y : k' = i
      · subst y
        rw [eh] at hk2
        cases hk2
        exact absurd k hk3
      · exact g2 k' h' (by omega) hk2 hk3
    · rw [decide_eq_false k]
      refine if_bl (fun _ => ⟨_, rfl, _, hD6, ?_, gs ++ [i], ?_, ?_, I6.lst hD6 d1 d2 d3 d5, ?_, ?_, fun _ _ _ _ _ z => by simp at z, d1, d2, d3, d4, d5⟩) (fun z => absurd z (by decide))
      · rw [List.length_map]; exact small1000 (by omega)
      · rw [upd_same, List.map_append, Int.zero_add]; rfl
      · rw [List.length_append]; show gs.length + 1 ≤ i + 1; omega
      · rw [upd_ne d4.symm]; exact same_new no1 _ _ hrk5
      · intro k' hk
        rcases List.mem_append.mp hk with hk | hk
        · exact g1 k' hk
        · obtain rfl : k' = i := by simpa using hk
          exact ⟨_, eh, k⟩
  · rintro H5 ⟨gs, hD, lg, I5, hrk5, g1, g2, d1, d2, d3, d4, d5⟩
    obtain ⟨h1, hm1, hm2⟩ := ok.one
    obtain ⟨k1, hk1⟩ := List.getElem?_of_mem hm1
    have k1l := (List.getElem?_eq_some_iff.mp hk1).1
    exact ⟨rfl, hh, rk, D, xs, hs, is, gs, rfl, I5, ok, hrk5, lis, hD, g2 k1 h1 (by omega) hk1 hm2, by omega, g1, rkf, d1⟩
end
/-! ### a loop over any iterator, whatever its turn does -/
theorem it_loop {J : It} {n : Nat} {B : V → Hp → (Hp → Prop) → Prop} {H0 : Hp} {Qd : Hp → Prop} (Pv : Nat → Hp → Prop) (h0 : Pv 0 H0) (go : ∀ i H, i < n → Pv i H → J.go i H) (st : ∀ H, Pv n H → J.stop n H)
    (hs : ∀ i x H H', i < n → Pv i H → J.yld i H x H' → B x H' (Pv (i + 1))) (hd : ∀ H, Pv n H → Qd H) :
    ∃ W : Nat → Nat → Hp → Prop, (∃ m, W 0 m H0) ∧ ∀ i m H, W i m H → (J.stop i H ∧ Qd H) ∨ (J.go i H ∧ ∃ Nx : Hp → Prop, (∀ H', Nx H' → ∃ m', m' < m ∧ W (i + 1) m' H') ∧ ∀ x H', J.yld i H x H' → B x H' Nx) := by
  refine ⟨fun i m H => i + m = n ∧ Pv i H, ⟨n, by omega, h0⟩, fun i m H ⟨e, p⟩ => ?_⟩
  by_cases k : i < n
  · exact .inr ⟨go i H k p, Pv (i + 1), fun H' p' => ⟨m - 1, by omega, by omega, p'⟩, fun x H' y => hs i x H H' k p y⟩
  · have z : i = n := by omega
    subst z
    exact .inl ⟨st H p, hd H p⟩
theorem r_at0 {xs : List V} {k : Nat} {x : V} (h : xs[k]? = some x) : atI xs (0 + (k : Int)) = some x := by
  rw [Int.zero_add]
  exact atI_nat h
theorem filt_succ {p : Nat → Bool} (i : Nat) : (List.range (i + 1)).filter p = (List.range i).filter p ++ (if p i = true then [i] else []) := by
  rw [List.range_succ, List.filter_append]
  cases h : p i <;> simp [h]
theorem filt_len {p : Nat → Bool} (i : Nat) : ((List.range i).filter p).length ≤ i := by
  refine Nat.le_trans (List.length_filter_le ..) ?_
  rw [List.length_range]
  exact Nat.le_refl _
/-! ### two things alike (found == due, by kinds, as deep as need be) -/
def Lf (v : V) : Prop := (∃ a : Int, v = .int a) ∨ (∃ s : Str, v = .str s ∧ PyData.canLay0 (.str s) = true) ∨ ∃ b : Bool, v = .bl b
def Al : Nat → Hp → V → V → Prop
  | 0, _, _, _ => False
  | n + 1, H, v, u => (Lf v ∧ v = u) ∨ ∃ (p q : Addr) (xs ys : List V), v = .ref p ∧ u = .ref q ∧ ((H p = some (.lst xs) ∧ H q = some (.lst ys)) ∨ (H p = some (.tup xs) ∧ H q = some (.tup ys))) ∧ xs.length ≤ 400 ∧ All2 (Al n H) xs ys
theorem Al.same {H H' : Hp} (s : Same H H') : ∀ {n : Nat} {v u : V}, Al n H v u → Al n H' v u
  | 0, _, _, h => h
  | n + 1, _, _, .inl h => .inl h
  | n + 1, _, _, .inr h => by
    obtain ⟨p, q, xs, ys, e1, e2, e3, e4, e5⟩ := h
    exact .inr ⟨p, q, xs, ys, e1, e2, e3.imp (fun z => ⟨s _ _ z.1, s _ _ z.2⟩) (fun z => ⟨s _ _ z.1, s _ _ z.2⟩), e4, e5.imp fun _ _ z => Al.same s z⟩
theorem Al.int {n : Nat} {H : Hp} {a : Int} : Al (n + 1) H (.int a) (.int a) := .inl ⟨.inl ⟨a, rfl⟩, rfl⟩
theorem Al.str {n : Nat} {H : Hp} {s : Str} (h : PyData.canLay0 (.str s) = true) : Al (n + 1) H (.str s) (.str s) := .inl ⟨.inr (.inl ⟨s, rfl, h⟩), rfl⟩
theorem Al.bl {n : Nat} {H : Hp} {b : Bool} : Al (n + 1) H (.bl b) (.bl b) := .inl ⟨.inr (.inr ⟨b, rfl⟩), rfl⟩
theorem Al.ints {n : Nat} {H : Hp} : ∀ m : List Int, All2 (Al (n + 1) H) (m.map V.int) (m.map V.int)
  | [] => .nil
  | _ :: m => .cons .int (Al.ints m)
theorem Al.tup {n : Nat} {H : Hp} {p q : Addr} {xs ys : List V} (h1 : H p = some (.tup xs)) (h2 : H q = some (.tup ys)) (l : xs.length ≤ 400) (a : All2 (Al n H) xs ys) : Al (n + 1) H (.ref p) (.ref q) := .inr ⟨p, q, xs, ys, rfl, rfl, .inr ⟨h1, h2⟩, l, a⟩
theorem Al.lst {n : Nat} {H : Hp} {p q : Addr} {xs ys : List V} (h1 : H p = some (.lst xs)) (h2 : H q = some (.lst ys)) (l : xs.length ≤ 400) (a : All2 (Al n H) xs ys) : Al (n + 1) H (.ref p) (.ref q) := .inr ⟨p, q, xs, ys, rfl, rfl, .inl ⟨h1, h2⟩, l, a⟩
def spA (n : Nat) : Sp := fun vs H Q _ => ∃ v u : V, vs = [v, u] ∧ Al n H v u ∧ ∀ H', Same H H' → Q (.bl true) H'
theorem kit_lst {K : PySem.W.Frag} : PySem.W.kitAny K (.type "list") [.type "list", .type "tuple"] = some true := by
  unfold PySem.W.kitAny
  rw [kit_ty (show kitB "list" "list" = some true by decide +kernel)]
theorem kit_tup {K : PySem.W.Frag} : PySem.W.kitAny K (.type "tuple") [.type "list", .type "tuple"] = some true := by
  unfold PySem.W.kitAny
  rw [kit_ty (show kitB "tuple" "list" = some false by decide +kernel)]
  unfold PySem.W.kitAny
  rw [kit_ty (show kitB "tuple" "tuple" = some true by decide +kernel)]
theorem kit_int {K : PySem.W.Frag} : PySem.W.kitAny K (.type "int") [.type "list", .type "tuple"] = some false := by
  unfold PySem.W.kitAny
  rw [kit_ty (show kitB "int" "list" = some false by decide +kernel)]
  unfold PySem.W.kitAny
  rw [kit_ty (show kitB "int" "tuple" = some false by decide +kernel)]
  rfl
theorem or_zip {K : PySem.W.Frag} {ta : TA} {σ : L2.St} {H : Hp} {R : It → Hp → Prop} {p q : Addr} {xs ys : List V} (ht : ∀ Q : List V → Hp → Prop, Q [.ref p, .ref q] H → ta σ H Q) (h : (H p = some (.lst xs) ∧ H q = some (.lst ys)) ∨ (H p = some (.tup xs) ∧ H q = some (.tup ys))) (hl : xs.length = ys.length)
    (k : ∀ J : It, (∀ i H', (H' p = H p ∧ H' q = H q) → i < xs.length → J.go i H') → (∀ H', (H' p = H p ∧ H' q = H q) → J.stop xs.length H') → (∀ i H' v H'', (H' p = H p ∧ H' q = H q) → J.yld i H' v H'' → ∃ T x y, v = .ref T ∧ H' T = none ∧ H'' = upd H' T (.tup [x, y]) ∧ xs[i]? = some x ∧ ys[i]? = some y) → R J H) :
    RZ.iZipA K ta σ H R := by
  rcases h with ⟨e1, e2⟩ | ⟨e1, e2⟩
  · refine ht _ ⟨p, q, xs, ys, rfl, .inl ⟨SqL.of e1, SqL.of e2, k _ (fun i H' st hi => ?_) (fun H' st => ?_) fun i H' v H'' st y => ?_⟩⟩
    · exact ⟨xs, ys, _, _, SqL.of (st.1.trans e1), SqL.of (st.2.trans e2), List.getElem?_eq_getElem hi, List.getElem?_eq_getElem (by omega)⟩
    · exact ⟨xs, ys, SqL.of (st.1.trans e1), SqL.of (st.2.trans e2), .inl (Nat.le_refl _)⟩
    · obtain ⟨T, x, z, q1, q2, q3, q4, q5⟩ := y
      exact ⟨T, x, z, q1, q2, q3, q4 _ (SqL.of (st.1.trans e1)), q5 _ (SqL.of (st.2.trans e2))⟩
  · refine ht _ ⟨p, q, xs, ys, rfl, .inr ⟨SqT.of e1, SqT.of e2, k _ (fun i H' st hi => ?_) (fun H' st => ?_) fun i H' v H'' st y => ?_⟩⟩
    · exact ⟨xs, ys, _, _, SqT.of (st.1.trans e1), SqT.of (st.2.trans e2), List.getElem?_eq_getElem hi, List.getElem?_eq_getElem (by omega)⟩
    · exact ⟨xs, ys, SqT.of (st.1.trans e1), SqT.of (st.2.trans e2), .inl (Nat.le_refl _)⟩
    · obtain ⟨T, x, z, q1, q2, q3, q4, q5⟩ := y
      exact ⟨T, x, z, q1, q2, q3, q4 _ (SqT.of (st.1.trans e1)), q5 _ (SqT.of (st.2.trans e2))⟩
theorem kit_str {K : PySem.W.Frag} : PySem.W.kitAny K (.type "str") [.type "list", .type "tuple"] = some false := by
  unfold PySem.W.kitAny
  rw [kit_ty (show kitB "str" "list" = some false by decide +kernel)]
  unfold PySem.W.kitAny
  rw [kit_ty (show kitB "str" "tuple" = some false by decide +kernel)]
  rfl
theorem kit_bool {K : PySem.W.Frag} : PySem.W.kitAny K (.type "bool") [.type "list", .type "tuple"] = some false := by
  unfold PySem.W.kitAny
  rw [kit_ty (show kitB "bool" "list" = some false by decide +kernel)]
  unfold PySem.W.kitAny
  rw [kit_ty (show kitB "bool" "tuple" = some false by decide +kernel)]
  rfl
section
variable {P : Program} {w : World} {K : PySem.W.Frag} {mg : Str → Option Value} {base : Heap}
theorem alike_step (T : Top K mg) (n : Nat) (below : ∀ (f : Addr) (fd : FuncData), Fun K "_law_alike" "_law_alike" s_law_alike f fd → FnOk P w K mg base CX0 n f fd ["_law_found", "_law_due"] (spA n)) {f : Addr} {fd : FuncData} (F : Fun K "_law_alike" "_law_alike" s_law_alike f fd) :
    FnOk P w K mg base CX0 (n + 1) f fd ["_law_found", "_law_due"] (spA (n + 1)) := by
  obtain ⟨f_law_alike, fd_law_alike, F_law_alike, b_law_alike, m_law_alike⟩ := T.d_law_alike
  have G_law_alike := below f_law_alike fd_law_alike F_law_alike
  refine F.ok sc_law_alike (fun vs H Q E h => ?_) (fun cdv A outer s H vs Q E hr h => ?_)
  · obtain ⟨v, u, rfl, _⟩ := h
    rfl
  obtain ⟨v, u, rfl, al, q⟩ := h
  refine ⟨_, (pss_cons (ps_if (pt_val (pe_callB (call_isiTK K rfl) (by rfl) T.m_isinstance (by decide +kernel) (pa_cons (pv 1) (pa_cons (pe_tup (pa_cons (pe_bltn (v := .ty "list") (by rfl) T.m_list (by decide +kernel) rfl) (pa_cons (pe_bltn (v := .ty "tuple") (by rfl) T.m_tuple (by decide +kernel) rfl) pa_nil))) pa_nil)))) (pss_cons (ps_if (PW.pt (pw_or (pt_cmpR op_ne (pe_callB (call_isiKK K rfl) (by rfl) T.m_isinstance (by decide +kernel) (pa_cons (pv 0) (pa_cons (pe_bltn (v := .ty "list") (by rfl) T.m_list (by decide +kernel) rfl) pa_nil))) (pe_callB (call_isiKK K rfl) (by rfl) T.m_isinstance (by decide +kernel) (pa_cons (pv 1) (pa_cons (pe_bltn (v := .ty "list") (by rfl) T.m_list (by decide +kernel) rfl) pa_nil))) (nomark _)) (pw_or1 (pt_cmpR op_ne (pe_callB (call_isiKK K rfl) (by rfl) T.m_isinstance (by decide +kernel) (pa_cons (pv 0) (pa_cons (pe_bltn (v := .ty "tuple") (by rfl) T.m_tuple (by decide +kernel) rfl) pa_nil))) (pe_callB (call_isiKK K rfl) (by rfl) T.m_isinstance (by decide +kernel) (pa_cons (pv 1) (pa_cons (pe_bltn (v := .ty "tuple") (by rfl) T.m_tuple (by decide +kernel) rfl) pa_nil))) (nomark _))))) (pss_one (ps_ret pe_bl)) pss_nil)
      (pss_one (ps_ret (pe_and (pe_cmpR op_eq (pe_callB (call_len_seqK K rfl) (by rfl) T.m_len (by decide +kernel) (pa_cons (pv 0) pa_nil)) (pe_callB (call_len_seqK K rfl) (by rfl) T.m_len (by decide +kernel) (pa_cons (pv 1) pa_nil)) (nomark _)) (pe_one (pe_callB (cr_allK K rfl rfl) (by rfl) T.m_all (by decide +kernel) (pa_cons (pe_lc (own := [("_law_one", 2), ("_law_other", 3)]) (g := gTup K 2 (gCons (gName 2) (gCons (gName 3) gNil))) (tt := tYes) (by rfl) sc_law_alike.nd (pi_zipAK K rfl (by rfl) T.m_zip (pa_cons (pv 0) (pa_cons (pv 1) pa_nil))) (blkOk_by (own := [("_law_one", 2), ("_law_other", 3)]) (N := N_law_alike) (sc := defScope s_law_alike) (by decide +kernel)) (fun _ _ _ _ _ => (pg_tupK K rfl rfl (pgs_cons (pg_name (i := 2) sc_law_alike.nd rfl (Or.inl rfl)) (pgs_cons (pg_name (i := 3) sc_law_alike.nd rfl (Or.inl rfl)) pgs_nil)))) (fun _ _ _ _ _ => pts_nil) (fun _ _ _ _ _ => (pe_call G_law_alike (hr.mono (Nat.le_refl _)) (by rfl) m_law_alike F_law_alike.kp b_law_alike .nil pass0 (pa_cons (pv 2) (pa_cons (pv 3) pa_nil))))) pa_nil))))))) pss_nil)
      (pss_one (ps_ret (pe_and (pe_cmpR op_eq (pe_callB (call_isiKK K rfl) (by rfl) T.m_isinstance (by decide +kernel) (pa_cons (pv 0) (pa_cons (pe_bltn (v := .ty "bool") (by rfl) T.m_bool (by decide +kernel) rfl) pa_nil))) (pe_callB (call_isiKK K rfl) (by rfl) T.m_isinstance (by decide +kernel) (pa_cons (pv 1) (pa_cons (pe_bltn (v := .ty "bool") (by rfl) T.m_bool (by decide +kernel) rfl) pa_nil))) (nomark _)) (pe_one (pe_cmpR (op_eqDK K rfl hr.units) (pv 0) (pv 1) (nomark _))))))), ?_⟩
  refine ⟨_, rfl, (by show 2 ≤ sizeLine; decide), fun tp ntp => ?_⟩
  rcases al with ⟨lf, rfl⟩ | ⟨p, q2, xs, ys, rfl, rfl, kinds, few, al⟩
  · rcases lf with ⟨a, rfl⟩ | ⟨a, rfl, lay⟩ | ⟨a, rfl⟩
    · refine ⟨_, tp, _, _, _, false, rfl, upd_same, .cons (.ty "list") (.cons (.ty "tuple") .nil), .base (.int _), kit_int, _, rfl, if_bl (fun z => nomatch z) (fun _ => ?_)⟩
      refine ⟨_, rfl, _, _, _, _, false, rfl, .ty "bool", .base (.int _), kit_ty (by decide +kernel), _, rfl, _, _, _, _, false, rfl, .ty "bool", .base (.int _), kit_ty (by decide +kernel), rfl, _, rfl, if_bl (fun _ => ?_) (fun z => nomatch z)⟩
      refine ⟨_, rfl, _, rfl, _, _, .int a, .int a, rfl, rfl, ?_⟩
      rw [show PyData.eqv (.int a) (.int a) = true by simp [PyData.eqv]]
      exact q _ (same_new ntp)
    · refine ⟨_, tp, _, _, _, false, rfl, upd_same, .cons (.ty "list") (.cons (.ty "tuple") .nil), .base (.str _), kit_str, _, rfl, if_bl (fun z => nomatch z) (fun _ => ?_)⟩
      refine ⟨_, rfl, _, _, _, _, false, rfl, .ty "bool", .base (.str _), kit_ty (by decide +kernel), _, rfl, _, _, _, _, false, rfl, .ty "bool", .base (.str _), kit_ty (by decide +kernel), rfl, _, rfl, if_bl (fun _ => ?_) (fun z => nomatch z)⟩
      have sh : SeqAt.shaped (.str a) = true := by
        unfold SeqAt.shaped
        rw [lay]
        rfl
      refine ⟨_, rfl, _, rfl, _, _, .str a, .str a, sh, sh, ?_⟩
      rw [show PyData.eqv (.str a) (.str a) = true by simp [PyData.eqv]]
      exact q _ (same_new ntp)
    · refine ⟨_, tp, _, _, _, false, rfl, upd_same, .cons (.ty "list") (.cons (.ty "tuple") .nil), .base (.bl _), kit_bool, _, rfl, if_bl (fun z => nomatch z) (fun _ => ?_)⟩
      refine ⟨_, rfl, _, _, _, _, true, rfl, .ty "bool", .base (.bl _), kit_ty (by decide +kernel), _, rfl, _, _, _, _, true, rfl, .ty "bool", .base (.bl _), kit_ty (by decide +kernel), rfl, _, rfl, if_bl (fun _ => ?_) (fun z => nomatch z)⟩
      refine ⟨_, rfl, _, rfl, _, _, .bl a, .bl a, rfl, rfl, ?_⟩
      rw [show PyData.eqv (.bool a) (.bool a) = true by simp [PyData.eqv]]
      exact q _ (same_new ntp)
  rcases kinds with ⟨hp, hq⟩ | ⟨hp, hq⟩
  · have hp1 := same_new (o := .tup [V.ty "list", V.ty "tuple"]) ntp _ _ hp
    have hq1 := same_new (o := .tup [V.ty "list", V.ty "tuple"]) ntp _ _ hq
    refine ⟨_, tp, _, _, _, true, rfl, upd_same, .cons (.ty "list") (.cons (.ty "tuple") .nil), .base (.lst hq1), kit_lst, _, rfl, if_bl (fun _ => ?_) (fun z => nomatch z)⟩
    refine ⟨_, rfl, _, _, _, _, true, rfl, .ty "list", .base (.lst hp1), kit_ty (by decide +kernel), _, rfl, _, _, _, _, true, rfl, .ty "list", .base (.lst hq1), kit_ty (by decide +kernel), rfl, _, rfl, if_bl (fun z => nomatch z) (fun _ => ?_)⟩
    refine ⟨_, rfl, _, _, _, _, false, rfl, .ty "tuple", .base (.lst hp1), kit_ty (by decide +kernel), _, rfl, _, _, _, _, false, rfl, .ty "tuple", .base (.lst hq1), kit_ty (by decide +kernel), rfl, _, rfl, if_bl (fun z => nomatch z) (fun _ => ?_)⟩
    refine ⟨_, rfl, p, _, rfl, .inl (SqL.of hp1), _, rfl, q2, _, rfl, .inl (SqL.of hq1), rfl, _, rfl, if_bl (fun _ => ?_) (fun z => ?_)⟩
    case refine_2 =>
      rw [al.length, decide_eq_true rfl] at z
      cases z
    dsimp only [tNext, tRet, tCB, tCons, tLc]
    refine or_zip (p := p) (q := q2) (xs := xs) (ys := ys) (fun Q q => ⟨_, rfl, _, rfl, q⟩) (.inl ⟨hp1, hq1⟩) al.length (fun J gj sj yj D nD => lc_it (J := J) (n := xs.length) (fun i H5 => H5 D = some (.lst ((List.replicate i true).map V.bl)) ∧ Same (upd H tp (.tup [V.ty "list", V.ty "tuple"])) H5) ⟨upd_same, same_new nD⟩ ?_ ?_ ?_ ?_)
    · rintro i H5 hi ⟨hD, s5⟩
      exact gj i H5 ⟨(s5 _ _ hp1).trans hp1.symm, (s5 _ _ hq1).trans hq1.symm⟩ hi
    · rintro H5 ⟨hD, s5⟩
      exact sj H5 ⟨(s5 _ _ hp1).trans hp1.symm, (s5 _ _ hq1).trans hq1.symm⟩
    · rintro i v H5 H6 hi ⟨hD, s5⟩ y
      obtain ⟨t, x, z, rfl, nt, rfl, ex, ez⟩ := yj i H5 v H6 ⟨(s5 _ _ hp1).trans hp1.symm, (s5 _ _ hq1).trans hq1.symm⟩ y
      obtain ⟨z', ez', ha⟩ := al.getL ex
      rw [ez] at ez'
      cases ez'
      have s6 := s5.trans (same_new (o := .tup [x, z]) nt)
      refine ⟨t, _, rfl, SqT.of upd_same, rfl, _, _, rfl, _, _, rfl, rfl, rfl, yes_in ⟨_, rfl, _, rfl, x, z, rfl, ha.same ((same_new ntp).trans s6), fun H7 s7 => ⟨_, s7 _ _ (same_new nt _ _ hD), ?_, ?_, Same.own (s6.trans s7) nD⟩⟩⟩
      · rw [List.length_map, List.length_replicate]; exact small1000 (by omega)
      · rw [upd_same, List.replicate_succ', List.map_append]; rfl
    · rintro H5 ⟨hD, s5⟩
      refine ⟨D, _, rfl, SqL.of hD, ?_⟩
      rw [show (List.replicate xs.length true).all id = true by simp]
      exact q _ ((same_new ntp).trans s5)
  · have hp1 := same_new (o := .tup [V.ty "list", V.ty "tuple"]) ntp _ _ hp
    have hq1 := same_new (o := .tup [V.ty "list", V.ty "tuple"]) ntp _ _ hq
    refine ⟨_, tp, _, _, _, true, rfl, upd_same, .cons (.ty "list") (.cons (.ty "tuple") .nil), .base (.tup hq1), kit_tup, _, rfl, if_bl (fun _ => ?_) (fun z => nomatch z)⟩
    refine ⟨_, rfl, _, _, _, _, false, rfl, .ty "list", .base (.tup hp1), kit_ty (by decide +kernel), _, rfl, _, _, _, _, false, rfl, .ty "list", .base (.tup hq1), kit_ty (by decide +kernel), rfl, _, rfl, if_bl (fun z => nomatch z) (fun _ => ?_)⟩
    refine ⟨_, rfl, _, _, _, _, true, rfl, .ty "tuple", .base (.tup hp1), kit_ty (by decide +kernel), _, rfl, _, _, _, _, true, rfl, .ty "tuple", .base (.tup hq1), kit_ty (by decide +kernel), rfl, _, rfl, if_bl (fun z => nomatch z) (fun _ => ?_)⟩
    refine ⟨_, rfl, p, _, rfl, .inr (SqT.of hp1), _, rfl, q2, _, rfl, .inr (SqT.of hq1), rfl, _, rfl, if_bl (fun _ => ?_) (fun z => ?_)⟩
    case refine_2 =>
      rw [al.length, decide_eq_true rfl] at z
      cases z
    dsimp only [tNext, tRet, tCB, tCons, tLc]
    refine or_zip (p := p) (q := q2) (xs := xs) (ys := ys) (fun Q q => ⟨_, rfl, _, rfl, q⟩) (.inr ⟨hp1, hq1⟩) al.length (fun J gj sj yj D nD => lc_it (J := J) (n := xs.length) (fun i H5 => H5 D = some (.lst ((List.replicate i true).map V.bl)) ∧ Same (upd H tp (.tup [V.ty "list", V.ty "tuple"])) H5) ⟨upd_same, same_new nD⟩ ?_ ?_ ?_ ?_)
    · rintro i H5 hi ⟨hD, s5⟩
      exact gj i H5 ⟨(s5 _ _ hp1).trans hp1.symm, (s5 _ _ hq1).trans hq1.symm⟩ hi
    · rintro H5 ⟨hD, s5⟩
      exact sj H5 ⟨(s5 _ _ hp1).trans hp1.symm, (s5 _ _ hq1).trans hq1.symm⟩
    · rintro i v H5 H6 hi ⟨hD, s5⟩ y
      obtain ⟨t, x, z, rfl, nt, rfl, ex, ez⟩ := yj i H5 v H6 ⟨(s5 _ _ hp1).trans hp1.symm, (s5 _ _ hq1).trans hq1.symm⟩ y
      obtain ⟨z', ez', ha⟩ := al.getL ex
      rw [ez] at ez'
      cases ez'
      have s6 := s5.trans (same_new (o := .tup [x, z]) nt)
      refine ⟨t, _, rfl, SqT.of upd_same, rfl, _, _, rfl, _, _, rfl, rfl, rfl, yes_in ⟨_, rfl, _, rfl, x, z, rfl, ha.same ((same_new ntp).trans s6), fun H7 s7 => ⟨_, s7 _ _ (same_new nt _ _ hD), ?_, ?_, Same.own (s6.trans s7) nD⟩⟩⟩
      · rw [List.length_map, List.length_replicate]; exact small1000 (by omega)
      · rw [upd_same, List.replicate_succ', List.map_append]; rfl
    · rintro H5 ⟨hD, s5⟩
      refine ⟨D, _, rfl, SqL.of hD, ?_⟩
      rw [show (List.replicate xs.length true).all id = true by simp]
      exact q _ ((same_new ntp).trans s5)
theorem ok_alike (T : Top K mg) : ∀ (n : Nat) (f : Addr) (fd : FuncData), Fun K "_law_alike" "_law_alike" s_law_alike f fd → FnOk P w K mg base CX0 n f fd ["_law_found", "_law_due"] (spA n)
  | 0, _, _, _ => ⟨fun _ _ _ _ ⟨_, _, _, h, _⟩ => h.elim, fun _ _ _ _ _ _ _ _ _ _ _ _ _ ⟨_, _, _, h, _⟩ => h.elim⟩
  | n + 1, _, _, F => alike_step T n (ok_alike T n) F
abbrev sp_law_alike (K : PySem.W.Frag) : Sp := spA 6
theorem ok_law_alike {f : Addr} {fd : FuncData} (F : Fun K "_law_alike" "_law_alike" s_law_alike f fd) (T : Top K mg) : FnOk P w K mg base CX0 6 f fd ["_law_found", "_law_due"] (sp_law_alike K) := ok_alike T 6 f fd F
end
/-! ### rooms alike -/
theorem rule_al {n : Nat} {H : Hp} {h : HR} (g : PyData.canLay0 (.str h.wd) = true) : All2 (Al (n + 1) H) (ruleL h) (ruleL h) := by
  obtain ⟨wd, no, mom⟩ := h
  cases no with
  | none => exact .cons (.str g) .nil
  | some z => exact .cons (.str g) (.cons .int .nil)
theorem rule_few {h : HR} : (ruleL h).length ≤ 2 := by
  obtain ⟨wd, no, mom⟩ := h
  cases no with
  | none => exact (show 1 ≤ 2 by decide)
  | some z => exact (show 2 ≤ 2 by decide)
theorem hands_al {n : Nat} {H : Hp} {hs : List HR} : ∀ {xs ys : List V}, All2 (HandAt H) xs hs → All2 (HandAt H) ys hs → (∀ h ∈ hs, GoodHand h) → All2 (Al (n + 3) H) xs ys := by
  intro xs ys a
  induction a generalizing ys with
  | nil => intro b _; cases b; exact .nil
  | cons r t ih =>
    intro b l
    cases b with
    | cons r2 t2 =>
      obtain ⟨t1, g1, rfl, h1, k1⟩ := r
      obtain ⟨t2', g2, rfl, h2, k2⟩ := r2
      exact .cons (.tup h1 h2 (show 2 ≤ 400 by decide) (.cons (.tup k1 k2 (Nat.le_trans rule_few (by decide)) (rule_al (l _ (List.mem_cons_self ..)).lay)) (.cons .int .nil))) (ih t2 fun m hm => l m (List.mem_cons_of_mem _ hm))
theorem belts_al {n : Nat} {H : Hp} {bs : List BR} : ∀ {xs ys : List V}, All2 (BeltAt H) xs bs → All2 (BeltAt H) ys bs → (∀ b ∈ bs, b.th.length ≤ 400) → All2 (Al (n + 3) H) xs ys := by
  intro xs ys a
  induction a generalizing ys with
  | nil => intro b _; cases b; exact .nil
  | cons r t ih =>
    intro b l
    cases b with
    | cons r2 t2 =>
      obtain ⟨t1, g1, rfl, h1, k1⟩ := r
      obtain ⟨t2', g2, rfl, h2, k2⟩ := r2
      exact .cons (.tup h1 h2 (show 3 ≤ 400 by decide) (.cons .int (.cons .int (.cons (.tup k1 k2 (by rw [List.length_map]; exact l _ (List.mem_cons_self ..)) (Al.ints _)) .nil)))) (ih t2 fun m hm => l m (List.mem_cons_of_mem _ hm))
theorem room_al {n : Nat} {H : Hp} {r r' : Addr} {hs : List HR} {bs : List BR} (a : RoomAt H r hs bs) (b : RoomAt H r' hs bs) (good : ∀ h ∈ hs, GoodHand h) (lh : hs.length ≤ 400) (lb : bs.length ≤ 400) (lt : ∀ b ∈ bs, b.th.length ≤ 400) : Al (n + 5) H (.ref r) (.ref r') := by
  obtain ⟨ha, ba, hv, bv, er, eh, eb, alh, alb⟩ := a.ex
  obtain ⟨ha2, ba2, hv2, bv2, er2, eh2, eb2, alh2, alb2⟩ := b.ex
  exact .tup er er2 (show 2 ≤ 400 by decide) (.cons (.tup eh eh2 (by rw [alh.length]; exact lh) (hands_al alh alh2 good)) (.cons (.tup eb eb2 (by rw [alb.length]; exact lb) (belts_al alb alb2 lt)) .nil))
/-! ### a room of doors alone -/
def insOf (ss : List Str) : List Nat := (List.range ss.length).filter fun j => decide (ss[j]? = some ("in" : Str))
theorem ins_mem {ss : List Str} {k : Nat} (h : k ∈ insOf ss) : ss[k]? = some ("in" : Str) := of_decide_eq_true (List.mem_filter.mp h).2
theorem ins_len {ss : List Str} : (insOf ss).length = ss.count ("in" : Str) := by
  unfold insOf
  have : ∀ n, n ≤ ss.length → ((List.range n).filter fun j => decide (ss[j]? = some ("in" : Str))).length = (ss.take n).count ("in" : Str) := by
    intro n
    induction n with
    | zero => intro _; rfl
    | succ n ih =>
      intro h
      have e : ss[n]? = some ss[n] := List.getElem?_eq_getElem (by omega)
      rw [filt_succ, List.length_append, ih (by omega), List.take_add_one, e, List.count_append]
      by_cases c : ss[n] = "in"
      · rw [if_pos (decide_eq_true (by rw [c]))]
        simp [c]
      · rw [if_neg (by simpa using c)]
        simp [c]
  rw [this _ (Nat.le_refl _), List.take_length]
abbrev doorH (s : Str) : HR := ⟨s, none, 0⟩
theorem door_good {s : Str} (h : s = "in" ∨ s = "out") : GoodHand (doorH s) := ⟨.inr ⟨h, rfl⟩, (show (0 : Int) ≤ 0 by decide), (show (0 : Int) ≤ 30 by decide)⟩
theorem in_out : ("in" : Str) ≠ "out" := by decide +kernel
/-- the belts of a room of doors, as far as hand i -/
structure DB (ss : List Str) (i : Nat) (bs : List BR) : Prop where
  one : ∀ b ∈ bs, ss[b.one]? = some ("in" : Str)
  to : ∀ b ∈ bs, ss[b.to]? = some ("out" : Str) ∧ b.to < i
  th : ∀ b ∈ bs, b.th.length ≤ 6 ∧ ∀ x ∈ b.th, Small x
  cnt : ∀ k, k < i → (bs.map BR.to).count k = if ss[k]? = some ("out" : Str) then 1 else 0
  len : bs.length ≤ i
theorem DB.nil {ss : List Str} : DB ss 0 [] := ⟨(fun _ z => nomatch z), (fun _ z => nomatch z), (fun _ z => nomatch z), fun k h => absurd h (Nat.not_lt_zero _), Nat.le_refl _⟩
theorem DB.none {ss : List Str} {i : Nat} {bs : List BR} (d : DB ss i bs) {k : Nat} (h : i ≤ k) : (bs.map BR.to).count k = 0 := by
  refine List.count_eq_zero.mpr fun hk => ?_
  obtain ⟨b, hb, e⟩ := List.mem_map.mp hk
  have := (d.to b hb).2
  omega
theorem DB.skip {ss : List Str} {i : Nat} {bs : List BR} (d : DB ss i bs) (h : ss[i]? ≠ some ("out" : Str)) : DB ss (i + 1) bs := by
  refine ⟨d.one, fun b hb => ⟨(d.to b hb).1, Nat.lt_succ_of_lt (d.to b hb).2⟩, d.th, fun k hk => ?_, Nat.le_succ_of_le d.len⟩
  by_cases e : k = i
  · subst e
    rw [d.none (Nat.le_refl _), if_neg h]
  · exact d.cnt k (by omega)
theorem DB.more {ss : List Str} {i : Nat} {bs : List BR} (d : DB ss i bs) (h : ss[i]? = some ("out" : Str)) {g : Nat} {th : List Int} (hg : ss[g]? = some ("in" : Str)) (ht : th.length ≤ 6 ∧ ∀ x ∈ th, Small x) : DB ss (i + 1) (bs ++ [⟨g, i, th⟩]) := by
  refine ⟨fun b hb => ?_, fun b hb => ?_, fun b hb => ?_, fun k hk => ?_, by rw [List.length_append]; exact Nat.succ_le_succ d.len⟩
  · rcases List.mem_append.mp hb with hb | hb
    · exact d.one b hb
    · obtain rfl : b = _ := by simpa using hb
      exact hg
  · rcases List.mem_append.mp hb with hb | hb
    · exact ⟨(d.to b hb).1, Nat.lt_succ_of_lt (d.to b hb).2⟩
    · obtain rfl : b = _ := by simpa using hb
      exact ⟨h, Nat.lt_succ_self _⟩
  · rcases List.mem_append.mp hb with hb | hb
    · exact d.th b hb
    · obtain rfl : b = _ := by simpa using hb
      exact ht
  · rw [List.map_append, List.count_append]
    by_cases e : k = i
    · subst e
      rw [d.none (Nat.le_refl _), if_pos h]
      simp
    · rw [d.cnt k (by omega)]
      have : ([(⟨g, i, th⟩ : BR)].map BR.to).count k = 0 := by
        refine List.count_eq_zero.mpr fun z => ?_
        have : k = i := by simpa using z
        exact e this
      rw [this, Nat.add_zero]
theorem DB.ok {ss : List Str} {bs : List BR} (d : DB ss ss.length bs) (hs : ∀ s ∈ ss, s = "in" ∨ s = "out") (l : ss.length ≤ 6) : RoomOk (ss.map doorH) bs := by
  have at_ : ∀ k, (ss.map doorH)[k]? = (ss[k]?).map doorH := fun k => List.getElem?_map ..
  refine ⟨by rw [List.length_map]; omega, fun h hh => ?_, fun b hb => ?_, fun b hb h e => ?_, d.th, ⟨fun k => if ss[k]? = some ("in" : Str) then 0 else 1, fun b hb _ => ?_⟩, fun k h e => ?_, Nat.le_trans d.len (by omega)⟩
  · obtain ⟨s, hm, rfl⟩ := List.mem_map.mp hh
    exact door_good (hs s hm)
  · rw [List.length_map]
    exact ⟨(List.getElem?_eq_some_iff.mp (d.one b hb)).1, (List.getElem?_eq_some_iff.mp (d.to b hb).1).1⟩
  · rw [at_, d.one b hb] at e
    cases e
    exact in_out
  · show (if ss[b.one]? = some ("in" : Str) then (0 : Int) else 1) < (if ss[b.to]? = some ("in" : Str) then (0 : Int) else 1)
    rw [if_pos (d.one b hb), if_neg (by rw [(d.to b hb).1]; exact fun z => in_out (Option.some.inj z).symm)]
    decide
  · rw [at_] at e
    cases q : ss[k]? with
    | none => rw [q] at e; cases e
    | some s =>
      rw [q] at e
      cases e
      have kl := (List.getElem?_eq_some_iff.mp q).1
      rw [d.cnt k kl, q]
      rcases hs s (List.mem_of_getElem? q) with z | z <;> rw [z]
      · rw [if_neg fun z => in_out (Option.some.inj z)]
        decide +kernel
      · rw [if_pos rfl]
        decide +kernel
section
variable {P : Program} {w : World} {K : PySem.W.Frag} {mg : Str → Option Value} {base : Heap}
def sp_law_doors_room (K : PySem.W.Frag) : Sp := fun vs H Q _ => ∃ f c : Addr, vs = [.ref f] ∧ Flow H f c ∧ ∀ (r : Addr) (hs : List HR) (bs : List BR) (H' : Hp), RoomAt H' r hs bs → RoomOk hs bs → Flow H' f c → But f H H' → Q (.ref r) H'
theorem ok_law_doors_room {f : Addr} {fd : FuncData} (F : Fun K "_law_doors_room" "_law_doors_room" s_law_doors_room f fd) (T : Top K mg) : FnOk P w K mg base CX0 3 f fd ["_law_flow_here"] (sp_law_doors_room K) := by
  obtain ⟨f_law_pick, fd_law_pick, F_law_pick, b_law_pick, m_law_pick⟩ := T.d_law_pick
  have G_law_pick := ok_law_pick (P := P) (w := w) (base := base) F_law_pick T
  obtain ⟨f_law_shuffled, fd_law_shuffled, F_law_shuffled, b_law_shuffled, m_law_shuffled⟩ := T.d_law_shuffled
  have G_law_shuffled := ok_law_shuffled (P := P) (w := w) (base := base) F_law_shuffled T
  obtain ⟨f_law_thing, fd_law_thing, F_law_thing, b_law_thing, m_law_thing⟩ := T.d_law_thing
  have G_law_thing := ok_law_thing (P := P) (w := w) (base := base) F_law_thing T
  refine F.ok sc_law_doors_room (fun vs H Q E h => ?_) (fun cdv A outer s H vs Q E hr h => ?_)
  · obtain ⟨f, c, rfl, _⟩ := h
    rfl
  obtain ⟨f, c, rfl, hF, q⟩ := h
  let R1 : TS := fun D' σ' H' => D'.rt = Q ∧ ∃ (iv ov : Int) (sl : Addr) (ss : List Str), σ' = [some (.ref f), some (.int iv), some (.int ov), some (.ref sl), none, none, none, none, none, none] ∧ H' sl = some (.lst (ss.map V.str)) ∧ sl ≠ f ∧ ss.length ≤ 6 ∧ 0 ≤ iv ∧ iv ≤ 3 ∧ ss.count ("in" : Str) = iv.toNat ∧ (ss = [] ∨ 0 < iv) ∧ (∀ s ∈ ss, s = "in" ∨ s = "out") ∧ Flow H' f c ∧ But f H H'
  refine ⟨_, (pss_cons (ps_set (i := 1) sc_law_doors_room.nd rfl (Or.inl rfl) (pe_call G_law_pick (hr.mono (by decide)) (by rfl) m_law_pick F_law_pick.kp b_law_pick .nil pass0 (pa_cons (pv 0) (pa_cons pe_int pa_nil))))
      (pss_cons (ps_set (i := 2) sc_law_doors_room.nd rfl (Or.inl rfl) (pe_ix (ix_listK K rfl) (pe_lst (pa_cons pe_int (pa_cons (pe_op op_add pe_int (pe_call G_law_pick (hr.mono (by decide)) (by rfl) m_law_pick F_law_pick.kp b_law_pick .nil pass0 (pa_cons (pv 0) (pa_cons pe_int pa_nil)))) pa_nil))) (pe_callTy call_int1 (by rfl) T.m_int (by decide +kernel) (pa_cons (pe_cmpR op_gt (pv 1) pe_int (nomark _)) pa_nil)) (fun _ _ => rfl)))
      (pss_cons (ps_set (i := 3) sc_law_doors_room.nd rfl (Or.inl rfl) (pe_call G_law_shuffled (hr.mono (by decide)) (by rfl) m_law_shuffled F_law_shuffled.kp b_law_shuffled .nil pass0 (pa_cons (pv 0) (pa_cons (pe_op op_cat (pe_op op_rep (pe_lst (pa_cons pe_str pa_nil)) (pv 1)) (pe_op op_rep (pe_lst (pa_cons pe_str pa_nil)) (pv 2))) pa_nil))))
      (PSs.to (pss_cons (ps_setLc (i := 4) (own := [("_law_k", 5), ("_law_sort", 6)]) (g := gTup K 2 (gCons (gName 5) (gCons (gName 6) gNil))) (by rfl) sc_law_doors_room.nd rfl rfl (sw_true rfl rfl rfl (by decide +kernel)) (pi_enum (by rfl) T.m_enumerate (pa_cons (pv 3) pa_nil)) (blkOk_by (own := [("_law_k", 5), ("_law_sort", 6)]) (N := N_law_doors_room) (sc := defScope s_law_doors_room) (by decide +kernel)) (fun _ _ _ _ _ => (pg_tupK K rfl rfl (pgs_cons (pg_name (i := 5) sc_law_doors_room.nd rfl (Or.inl rfl)) (pgs_cons (pg_name (i := 6) sc_law_doors_room.nd rfl (Or.inl rfl)) pgs_nil)))) (fun _ _ _ _ _ => pts_one (pt_cmpR op_eq (pv 6) pe_str (nomark _))) (fun _ _ _ _ _ => (pv 5)))
      (pss_cons (ps_set (i := 7) sc_law_doors_room.nd rfl (Or.inl rfl) (pe_lst pa_nil))
      (pss_cons (ps_for PassesOwn.never rfl (pi_enum (by rfl) T.m_enumerate (pa_cons (pv 3) pa_nil)) (pg_tupK K rfl rfl (pgs_cons (pg_name (i := 5) sc_law_doors_room.nd rfl (Or.inl rfl)) (pgs_cons (pg_name (i := 6) sc_law_doors_room.nd rfl (Or.inl rfl)) pgs_nil)))
        (pss_one (ps_if (pt_cmpR op_eq (pv 6) pe_str (nomark _)) (pss_cons (ps_set (i := 8) sc_law_doors_room.nd rfl (Or.inl rfl) (pe_callTy (call_tuple_ofK K rfl) (by rfl) T.m_tuple (by decide +kernel) (pa_cons (pe_lc (own := [("_law_j", 9)]) (g := gName 9) (tt := tYes) (by rfl) sc_law_doors_room.nd (pi_range1 (by rfl) T.m_range (pa_cons (pe_call G_law_pick (hr.mono (by decide)) (by rfl) m_law_pick F_law_pick.kp b_law_pick .nil pass0 (pa_cons (pv 0) (pa_cons pe_int pa_nil))) pa_nil)) (blkOk_by (own := [("_law_j", 9)]) (N := N_law_doors_room) (sc := defScope s_law_doors_room) (by decide +kernel)) (fun _ _ _ _ _ => (pg_name (i := 9) sc_law_doors_room.nd rfl (Or.inl rfl))) (fun _ _ _ _ _ => pts_nil) (fun _ _ _ _ _ => (pe_call G_law_thing (hr.mono (by decide)) (by rfl) m_law_thing F_law_thing.kp b_law_thing .nil pass0 (pa_cons (pv 0) pa_nil)))) pa_nil)))
      (pss_one (ps_expr (pe_bmK K rfl PySem.F.plainAttrs_list PySem.F.slot_list_append PySem.F.type_list_append mt_append (pv 7) (pa_cons (pe_tup (pa_cons (pe_ix (ix_listK K rfl) (pv 4) (pe_call G_law_pick (hr.mono (by decide)) (by rfl) m_law_pick F_law_pick.kp b_law_pick .nil pass0 (pa_cons (pv 0) (pa_cons (pv 1) pa_nil))) (fun _ _ => rfl)) (pa_cons (pv 5) (pa_cons (pv 8) pa_nil)))) pa_nil))))) pss_nil)))
      (pss_one (ps_ret (pe_tup (pa_cons (pe_callTy (call_tuple_ofK K rfl) (by rfl) T.m_tuple (by decide +kernel) (pa_cons (pe_lc (own := [("_law_sort", 6)]) (g := gName 6) (tt := tYes) (by rfl) sc_law_doors_room.nd (pi_listK K rfl (pv 3)) (blkOk_by (own := [("_law_sort", 6)]) (N := N_law_doors_room) (sc := defScope s_law_doors_room) (by decide +kernel)) (fun _ _ _ _ _ => (pg_name (i := 6) sc_law_doors_room.nd rfl (Or.inl rfl))) (fun _ _ _ _ _ => pts_nil) (fun _ _ _ _ _ => (pe_tup (pa_cons (pe_tup (pa_cons (pv 6) pa_nil)) (pa_cons pe_int pa_nil))))) pa_nil)) (pa_cons (pe_callTy (call_tuple_ofK K rfl) (by rfl) T.m_tuple (by decide +kernel) (pa_cons (pv 7) pa_nil)) pa_nil)))))))) R1 ?tail1)))), ?_⟩
  case tail1 =>
    rintro D' σ' H1 ⟨eD, iv, ov, sl, ss, rfl, hsl, nsl, ls, i0, i3, ci, some_, hall, F1, B1⟩
    refine ⟨_, rfl, sl, _, rfl, SqL.of hsl, fun G nG => lc_it (n := ss.length) (fun i H5 => H5 G = some (.lst (((List.range i).filter fun j => decide (ss[j]? = some ("in" : Str))).map nV)) ∧ Same H1 H5) ⟨upd_same, same_new nG⟩ ?_ ?_ ?_ ?_⟩
    · rintro i H5 hi ⟨_, s5⟩
      exact ⟨_, _, SqL.of (s5 _ _ hsl), by rw [List.getElem?_map, List.getElem?_eq_getElem hi]; rfl⟩
    · rintro H5 ⟨_, s5⟩
      exact ⟨_, SqL.of (s5 _ _ hsl), by rw [List.length_map]; exact Nat.le_refl _⟩
    · rintro i x H5 H6 hi ⟨hG, s5⟩ ⟨t, y, rfl, nt, rfl, fy⟩
      obtain ⟨sd, ei⟩ : ∃ sd, ss[i]? = some sd := ⟨_, List.getElem?_eq_getElem hi⟩
      have ey : y = V.str sd := by
        have := fy _ (SqL.of (s5 _ _ hsl))
        rw [List.getElem?_map, ei] at this
        exact (Option.some.inj this).symm
      subst ey
      have hG6 := same_new (o := .tup [.int (i : Nat), V.str sd]) nt _ _ hG
      have few := filt_len (p := fun j => decide (ss[j]? = some ("in" : Str))) i
      refine ⟨t, _, rfl, SqT.of upd_same, rfl, _, _, rfl, _, _, rfl, rfl, rfl, _, rfl, rfl, _, rfl, if_str (fun e => ?_) (fun e => ?_)⟩
      · refine ⟨_, rfl, _, hG6, by rw [List.length_map]; exact small1000 (by omega), ?_, Same.own (s5.trans (same_new nt)) nG⟩
        rw [upd_same, filt_succ, if_pos (decide_eq_true (by rw [ei, e])), List.map_append]
        rfl
      · refine ⟨?_, s5.trans (same_new nt)⟩
        rw [filt_succ, if_neg (fun z => e (by have := of_decide_eq_true z; rw [ei] at this; exact Option.some.inj this)), List.append_nil]
        exact hG6
    · rintro H2 ⟨hG, s2⟩
      have hG : H2 G = some (.lst ((insOf ss).map nV)) := hG
      have F2 := F1.same s2
      have gf : G ≠ f := F1.ne nG
      refine ⟨(by show 0 ≤ sizeLine; decide), fun L nL => ?_⟩
      have lf : L ≠ f := F2.ne nL
      have lc : L ≠ c := F2.nec nL
      have ls_ : L ≠ sl := (ne_of_none (s2 _ _ hsl) nL).symm
      have lg : L ≠ G := (ne_of_none hG nL).symm
      refine ⟨_, rfl, sl, _, rfl, SqL.of (same_new nL _ _ (s2 _ _ hsl)), for_it (n := ss.length) (fun i σ H3 => ∃ (bv : List V) (bs : List BR) (v5 v6 v8 v9 : Option V), σ = [some (.ref f), some (.int iv), some (.int ov), some (.ref sl), some (.ref G), v5, v6, some (.ref L), v8, v9] ∧ H3 L = some (.lst bv) ∧ All2 (BeltAt H3) bv bs ∧ DB ss i bs ∧ H3 sl = some (.lst (ss.map V.str)) ∧ H3 G = some (.lst ((insOf ss).map nV)) ∧ Flow H3 f c ∧ But f H2 H3)
        ⟨[], [], _, _, _, _, rfl, upd_same, .nil, DB.nil, same_new nL _ _ (s2 _ _ hsl), same_new nL _ _ hG, F2.new nL, But.refl.new nL⟩ ?_ ?_ ?_ ?_⟩
      · rintro i σ H3 hi ⟨bv, bs, v5, v6, v8, v9, rfl, hL, al, db, hsl3, hG3, F3, B3⟩
        exact ⟨_, _, SqL.of hsl3, by rw [List.getElem?_map, List.getElem?_eq_getElem hi]; rfl⟩
      · rintro σ H3 ⟨bv, bs, v5, v6, v8, v9, rfl, hL, al, db, hsl3, hG3, F3, B3⟩
        exact ⟨_, SqL.of hsl3, by rw [List.length_map]; exact Nat.le_refl _⟩
      · rintro i x σ H3 H4 hi ⟨bv, bs, v5, v6, v8, v9, rfl, hL, al, db, hsl3, hG3, F3, B3⟩ ⟨t, y, rfl, nt, rfl, fy⟩
        obtain ⟨sd, ei⟩ : ∃ sd, ss[i]? = some sd := ⟨_, List.getElem?_eq_getElem hi⟩
        have ey : y = V.str sd := by
          have := fy _ (SqL.of hsl3)
          rw [List.getElem?_map, ei] at this
          exact (Option.some.inj this).symm
        subst ey
        have F4 := F3.new (o := .tup [.int (i : Nat), V.str sd]) nt
        have B4 := B3.new (o := .tup [.int (i : Nat), V.str sd]) nt
        have s4 := same_new (H := H3) (o := .tup [.int (i : Nat), V.str sd]) nt
        refine ⟨t, _, rfl, SqT.of upd_same, rfl, _, _, rfl, _, _, rfl, rfl, ?_⟩
        refine ⟨_, rfl, rfl, _, rfl, if_str (fun e => ?_) (fun e => ?_)⟩
        · refine ⟨_, rfl, f, c, 7, rfl, by decide, by decide +kernel, F4, fun tv H5 t0 t1 F5 B5 => ?_⟩
          refine ⟨_, rfl, by omega, by omega, fun M nM => lc_range (lo := 0) (n := tv.toNat) (fun j H6 => ∃ vs : List Int, vs.length = j ∧ H6 M = some (.lst (vs.map V.int)) ∧ (∀ y ∈ vs, Small y) ∧ Flow H6 f c ∧ But f H5 H6) ⟨[], rfl, upd_same, (fun _ z => nomatch z), F5.new nM, But.refl.new nM⟩ ?_ ?_⟩
          · rintro j H6 hj ⟨vs, lv, hM, sm, F6, B6⟩
            have mf : M ≠ f := F5.ne nM
            have mc : M ≠ c := F5.nec nM
            refine ⟨rfl, yes_in ⟨_, rfl, f, c, rfl, F6, fun y H7 sy F7 B7 => ⟨_, B7 _ _ hM mf, ?_, vs ++ [y], by rw [List.length_append, lv]; rfl, ?_, ?_, F7.lst mf mc, (B6.trans B7).own nM⟩⟩⟩
            · rw [List.length_map, lv]; exact small1000 (by omega)
            · rw [upd_same, List.map_append]; rfl
            · intro z hz
              rcases List.mem_append.mp hz with hz | hz
              · exact sm z hz
              · obtain rfl : z = y := by simpa using hz
                exact sy
          · rintro H6 ⟨vs, lv, hM, sm, F6, B6⟩
            refine ⟨M, _, rfl, .inl ⟨SqL.of hM, fun tp ntp => ?_⟩⟩
            have F7 := F6.new (o := .tup (vs.map V.int)) ntp
            have B7 : But f H3 (upd H6 tp (.tup (vs.map V.int))) := ((((But.of s4).trans B5).trans B6).new ntp)
            refine ⟨_, rfl, .inl ⟨rfl, _, SqL.of (B7 _ _ hL lf)⟩, _, rfl, _, rfl, _, rfl, f, c, iv, rfl, ?_, ?_, F7, fun gi H8 g0 g1 F8 B8 => ?_⟩
            · rcases some_ with z | z
              · rw [z] at hi; exact absurd hi (Nat.not_lt_zero _)
              · exact z
            · have : iv.natAbs.log2 ≤ iv.natAbs := Nat.log2_le_self _
              omega
            have gl : gi.toNat < (insOf ss).length := by rw [ins_len, ci]; omega
            obtain ⟨g, eg⟩ : ∃ g, (insOf ss)[gi.toNat]? = some g := ⟨_, List.getElem?_eq_getElem gl⟩
            have egi : atI ((insOf ss).map nV) gi = some (nV g) := by
              have : atI ((insOf ss).map nV) ((gi.toNat : Nat) : Int) = some (nV g) := atI_nat (by rw [List.getElem?_map, eg]; rfl)
              rwa [show ((gi.toNat : Nat) : Int) = gi by omega] at this
            have B38 := B7.trans B8
            refine ⟨G, _, _, _, rfl, rfl, SqL.of (B38 _ _ hG3 gf), egi, _, rfl, _, rfl, (by show 3 ≤ sizeLine; decide), fun bt nbt => ⟨L, _, _, rfl, rfl, same_new nbt _ _ (B38 _ _ hL lf), ?_, ?_⟩⟩
            · rw [al.length]
              have := db.len
              exact small1000 (by omega)
            have hL9 := same_new (o := .tup [nV g, .int (i : Nat), V.ref tp]) nbt _ _ (B38 _ _ hL lf)
            have k9 : TK H3 (upd H8 bt (.tup [nV g, .int (i : Nat), V.ref tp])) := (TK.but F3 B38).trans (TK.new nbt)
            refine ⟨bv ++ [.ref bt], bs ++ [⟨g, i, vs⟩], _, _, _, _, rfl, upd_same, ?_, db.more (by rw [ei, e]) (ins_mem (List.mem_of_getElem? eg)) ⟨by omega, sm⟩, ?_, ?_, (F8.new nbt).lst lf lc, ?_⟩
            · refine ((al.imp fun _ _ z => z.keep k9).snoc ⟨bt, tp, rfl, upd_same, same_new nbt _ _ (B8 _ _ upd_same (F6.ne ntp))⟩).imp fun _ _ z => z.keep (TK.lst hL9)
            · rw [upd_ne ls_.symm]; exact same_new nbt _ _ (B38 _ _ hsl3 nsl)
            · rw [upd_ne lg.symm]; exact same_new nbt _ _ (B38 _ _ hG3 gf)
            · exact ((B3.trans B38).new nbt).own nL
        · have k4 : TK H3 _ := TK.new (o := .tup [.int (i : Nat), V.str sd]) nt
          refine ⟨bv, bs, _, _, _, _, rfl, s4 _ _ hL, al.imp fun _ _ z => z.keep k4, db.skip (by rw [ei]; exact fun z => e (Option.some.inj z)), s4 _ _ hsl3, s4 _ _ hG3, F4, B4⟩
      · rintro σ H3 ⟨bv, bs, v5, v6, v8, v9, rfl, hL, al, db, hsl3, hG3, F3, B3⟩
        refine ⟨_, rfl, sl, rfl, ⟨_, SqL.of hsl3⟩, fun E nE => lc_list (K := K) (a := sl) (xs := ss.map V.str) (fun i H4 => ∃ hv, H4 E = some (.lst hv) ∧ All2 (HandAt H4) hv ((ss.take i).map doorH) ∧ Same H3 H4) ⟨[], upd_same, .nil, same_new nE⟩ (fun i H4 _ ⟨_, _, _, s4⟩ => SqL.of (s4 _ _ hsl3)) ?_ ?_⟩
        · rintro i x H4 hx ⟨hv, hE, alh, s4⟩
          have il := (List.getElem?_eq_some_iff.mp hx).1
          rw [List.length_map] at il
          obtain ⟨sd, ei⟩ : ∃ sd, ss[i]? = some sd := ⟨_, List.getElem?_eq_getElem il⟩
          rw [List.getElem?_map, ei] at hx
          cases hx
          refine ⟨rfl, yes_in ⟨_, rfl, (by show 1 ≤ sizeLine; decide), fun a1 na1 => ⟨(by show 2 ≤ sizeLine; decide), fun a2 na2 => ?_⟩⟩⟩
          have s6 : Same H4 _ := (same_new (o := .tup [V.str sd]) na1).trans (same_new (o := .tup [V.ref a1, V.int 0]) na2)
          refine ⟨hv, s6 _ _ hE, ?_, hv ++ [.ref a2], upd_same, ?_, Same.own (s4.trans s6) nE⟩
          · rw [alh.length, List.length_map, List.length_take]; exact small1000 (by omega)
          · rw [List.take_add_one, ei, List.map_append]
            exact ((alh.imp fun _ _ z => z.keep (TK.same s6)).snoc ⟨a2, a1, rfl, upd_same, same_new na2 _ _ upd_same⟩).imp fun _ _ z => z.keep (TK.lst (s6 _ _ hE))
        · rintro H4 ⟨hv, hE, alh, s4⟩
          rw [List.length_map, List.take_length] at alh
          refine ⟨E, _, rfl, .inl ⟨SqL.of hE, fun t1 nt1 => ⟨_, rfl, L, _, rfl, .inl ⟨SqL.of (same_new nt1 _ _ (s4 _ _ hL)), fun t2 nt2 => ⟨(by show 2 ≤ sizeLine; decide), fun t3 nt3 => ?_⟩⟩⟩⟩⟩
          have k : Same H4 (upd (upd (upd H4 t1 (.tup hv)) t2 (.tup bv)) t3 (.tup [V.ref t1, V.ref t2])) := ((same_new nt1).trans (same_new nt2)).trans (same_new nt3)
          rw [eD]
          refine q t3 (ss.map doorH) bs _ ⟨t1, t2, hv, bv, upd_same, same_new nt3 _ _ (same_new nt2 _ _ upd_same), same_new nt3 _ _ upd_same, alh.imp fun _ _ z => z.keep (TK.same k), al.imp fun _ _ z => (z.keep (TK.same s4)).keep (TK.same k)⟩ (db.ok hall ls) (((F3.same s4)).same k) ((((B1.trans (But.of s2)).trans B3).trans (But.of s4)).trans (But.of k))
  refine ⟨_, rfl, f, c, 4, rfl, by decide, by decide +kernel, hF, fun iv H1 i0 i1 F1 B1 => ?_⟩
  refine ⟨_, rfl, f, c, 3, rfl, by decide, by decide +kernel, F1, fun ov H2 o0 o1 F2 B2 => ⟨_, _, rfl, rfl, (by show 2 ≤ sizeLine; decide), fun l nl => ?_⟩⟩
  obtain ⟨o, ho, oz, o2, o3⟩ : ∃ o : Int, atI [V.int 0, V.int (1 + ov)] (if decide (iv > 0) = true then 1 else 0) = some (.int o) ∧ (iv = 0 → o = 0) ∧ 0 ≤ o ∧ o ≤ 3 := by
    by_cases z : iv > 0
    · rw [decide_eq_true z]
      exact ⟨1 + ov, rfl, fun e => by omega, by omega, by omega⟩
    · rw [decide_eq_false z]
      exact ⟨0, rfl, fun _ => rfl, by omega, by omega⟩
  have F3 := F2.new (o := .lst [V.int 0, V.int (1 + ov)]) nl
  refine ⟨_, rfl, _, _, rfl, rfl, .inr ⟨_, rfl, l, _, _, _, rfl, rfl, SqL.of upd_same, ho, ?_⟩⟩
  refine ⟨_, rfl, (by show 1 ≤ sizeLine; decide), fun l1 nl1 => ⟨_, rfl, l1, iv, _, rfl, rfl, upd_same, by omega, by omega, little (by show 1 * iv.toNat ≤ 1000; omega), fun p1 np1 => ?_⟩⟩
  rw [flat_rep]
  have F4 := (F3.new (o := .lst [V.str "in"]) nl1).new (o := .lst (List.replicate iv.toNat (V.str "in"))) np1
  refine ⟨(by show 1 ≤ sizeLine; decide), fun l2 nl2 => ⟨_, rfl, l2, o, _, rfl, rfl, upd_same, by omega, by omega, little (by show 1 * o.toNat ≤ 1000; omega), fun p2 np2 => ?_⟩⟩
  rw [flat_rep]
  have F5 := (F4.new (o := .lst [V.str "out"]) nl2).new (o := .lst (List.replicate o.toNat (V.str "out"))) np2
  refine ⟨p1, p2, _, _, rfl, rfl, same_new np2 _ _ (same_new nl2 _ _ upd_same), upd_same, ?_, fun p3 np3 => ?_⟩
  · rw [List.length_replicate, List.length_replicate]; exact little (by omega)
  have F6 := F5.new (o := .lst (List.replicate iv.toNat (V.str "in") ++ List.replicate o.toNat (V.str "out"))) np3
  refine ⟨f, c, p3, _, rfl, SqL.of upd_same, F5.ne np3, ?_, F6, fun p ys H8 hp np hy F8 B8 => ?_⟩
  · rw [List.length_append, List.length_replicate, List.length_replicate]; omega
  have ez : List.replicate iv.toNat (V.str "in") ++ List.replicate o.toNat (V.str "out") = (List.replicate iv.toNat ("in" : Str) ++ List.replicate o.toNat ("out" : Str)).map V.str := by
    rw [List.map_append, List.map_replicate, List.map_replicate]
  rw [ez] at hp
  obtain ⟨ss, rfl, hss⟩ := perm_strs hp
  refine ⟨rfl, iv, o, p, ss, rfl, hy, F6.ne np, ?_, i0, by omega, ?_, ?_, ?_, F8, But.trans ((((((((B1.trans B2).new nl).new nl1).new np1).new nl2).new np2).new np3)) B8⟩
  · rw [hss.length_eq, List.length_append, List.length_replicate, List.length_replicate]; omega
  · rw [hss.count_eq, List.count_append, List.count_replicate, List.count_replicate, if_pos (beq_self_eq_true _), if_neg (by simpa using in_out.symm), Nat.add_zero]
  · by_cases z : 0 < iv
    · exact .inr z
    · refine .inl (List.eq_nil_of_length_eq_zero ?_)
      rw [hss.length_eq, List.length_append, List.length_replicate, List.length_replicate, oz (by omega)]
      show iv.toNat + 0 = 0
      omega
  · intro s hs
    rcases List.mem_append.mp (hss.mem_iff.mp hs) with hs | hs
    · exact .inl (List.mem_replicate.mp hs).2
    · exact .inr (List.mem_replicate.mp hs).2
def sp_law_any_room (K : PySem.W.Frag) : Sp := fun vs H Q _ => ∃ f c : Addr, vs = [.ref f] ∧ Flow H f c ∧ ∀ (r : Addr) (hs : List HR) (bs : List BR) (H' : Hp), RoomAt H' r hs bs → RoomOk hs bs → 0 < hs.length → Flow H' f c → But f H H' → Q (.ref r) H'
theorem ok_law_any_room {f : Addr} {fd : FuncData} (F : Fun K "_law_any_room" "_law_any_room" s_law_any_room f fd) (T : Top K mg) : FnOk P w K mg base CX0 6 f fd ["_law_flow_here"] (sp_law_any_room K) := by
  obtain ⟨f_law_pick, fd_law_pick, F_law_pick, b_law_pick, m_law_pick⟩ := T.d_law_pick
  have G_law_pick := ok_law_pick (P := P) (w := w) (base := base) F_law_pick T
  obtain ⟨f_law_room, fd_law_room, F_law_room, b_law_room, m_law_room⟩ := T.d_law_room
  have G_law_room := ok_law_room (P := P) (w := w) (base := base) F_law_room T
  obtain ⟨f_law_doors_room, fd_law_doors_room, F_law_doors_room, b_law_doors_room, m_law_doors_room⟩ := T.d_law_doors_room
  have G_law_doors_room := ok_law_doors_room (P := P) (w := w) (base := base) F_law_doors_room T
  refine F.ok sc_law_any_room (fun vs H Q E h => ?_) (fun cdv A outer s H vs Q E hr h => ?_)
  · obtain ⟨f, c, rfl, _⟩ := h
    rfl
  obtain ⟨f, c, rfl, hF, q⟩ := h
  refine ⟨_, (pss_cons (ps_set (i := 1) sc_law_any_room.nd rfl (Or.inl rfl) (pe_call G_law_pick (hr.mono (by decide)) (by rfl) m_law_pick F_law_pick.kp b_law_pick .nil pass0 (pa_cons (pv 0) (pa_cons pe_int pa_nil))))
      (pss_cons (ps_if (pt_cmpR op_eq (pv 1) pe_int (nomark _)) (pss_cons (ps_set (i := 2) sc_law_any_room.nd rfl (Or.inl rfl) (pe_call G_law_doors_room (hr.mono (by decide)) (by rfl) m_law_doors_room F_law_doors_room.kp b_law_doors_room .nil pass0 (pa_cons (pv 0) pa_nil)))
      (pss_one (ps_if (pt_cmpR op_gt (pe_callB (call_len_seqK K rfl) (by rfl) T.m_len (by decide +kernel) (pa_cons (pe_ix (ix_tupK K rfl) (pv 2) pe_int (fun _ _ => rfl)) pa_nil)) pe_int (nomark _)) (pss_one (ps_ret (pv 2))) pss_nil))) pss_nil)
      (pss_one (ps_ret (pe_call G_law_room (hr.mono (by decide)) (by rfl) m_law_room F_law_room.kp b_law_room .nil pass0 (pa_cons (pv 0) (pa_cons (pe_ix (ix_listK K rfl) (pe_lst (pa_cons pe_int (pa_cons pe_int (pa_cons pe_int (pa_cons pe_int (pa_cons pe_int (pa_cons pe_int (pa_cons pe_int (pa_cons pe_int pa_nil))))))))) (pv 1) (fun _ _ => rfl)) pa_nil))))))), ?_⟩
  refine ⟨_, rfl, f, c, 8, rfl, by decide, by decide +kernel, hF, fun v H1 v0 v1 F1 B1 => ?_⟩
  have fin : ∀ (H2 : Hp), Flow H2 f c → But f H H2 → ∀ l, H2 l = none → ∃ (p : Addr) (xs : List V) (i : Int) (u : V), V.ref l = .ref p ∧ V.int v = .int i ∧ SqL K (upd H2 l (.lst [V.int 5, V.int 5, V.int 5, V.int 5, V.int 3, V.int 3, V.int 2, V.int 8])) p xs ∧ atI xs i = some u ∧ sp_law_room K [.ref f, u] (upd H2 l (.lst [V.int 5, V.int 5, V.int 5, V.int 5, V.int 3, V.int 3, V.int 2, V.int 8])) Q E0 := fun H2 F2 B2 l nl => by
    obtain ⟨mm, hmm, m1, m8⟩ : ∃ mm : Int, atI [V.int 5, V.int 5, V.int 5, V.int 5, V.int 3, V.int 3, V.int 2, V.int 8] v = some (.int mm) ∧ 1 ≤ mm ∧ mm ≤ 8 := by
      have : v = 0 ∨ v = 1 ∨ v = 2 ∨ v = 3 ∨ v = 4 ∨ v = 5 ∨ v = 6 ∨ v = 7 := by omega
      rcases this with rfl | rfl | rfl | rfl | rfl | rfl | rfl | rfl
      · exact ⟨5, rfl, by decide, by decide⟩
      · exact ⟨5, rfl, by decide, by decide⟩
      · exact ⟨5, rfl, by decide, by decide⟩
      · exact ⟨5, rfl, by decide, by decide⟩
      · exact ⟨3, rfl, by decide, by decide⟩
      · exact ⟨3, rfl, by decide, by decide⟩
      · exact ⟨2, rfl, by decide, by decide⟩
      · exact ⟨8, rfl, by decide, by decide⟩
    exact ⟨l, _, v, _, rfl, rfl, SqL.of upd_same, hmm, f, c, mm, rfl, m1, m8, F2.new nl, fun r hs bs H3 hR ok h0 F3 B3 => q r hs bs H3 hR ok h0 F3 ((B2.new nl).trans B3)⟩
  refine ⟨_, rfl, rfl, _, rfl, if_bl (fun _ => ?_) (fun _ => ?_)⟩
  · refine ⟨_, rfl, f, c, rfl, F1, fun r hs bs H2 hR ok F2 B2 => ?_⟩
    obtain ⟨ha, ba, hv, bv, er, eh, eb, alh, alb⟩ := hR.ex
    refine ⟨_, rfl, r, _, _, _, rfl, rfl, SqT.of er, atI_nat (j := 0) rfl, ha, _, rfl, .inr (SqT.of eh), _, _, rfl, rfl, _, rfl, if_bl (fun z => ?_) (fun _ => ?_)⟩
    · have z := of_decide_eq_true z
      have lhv := alh.length
      exact ⟨_, rfl, q r hs bs H2 hR ok (by omega) F2 (B1.trans B2)⟩
    · exact ⟨_, rfl, (by show 8 ≤ sizeLine; decide), fun l nl => ⟨_, rfl, fin H2 F2 (B1.trans B2) l nl⟩⟩
  · exact ⟨_, rfl, (by show 8 ≤ sizeLine; decide), fun l nl => ⟨_, rfl, fin H1 F1 B1 l nl⟩⟩
end
/-! ### ways -/
def PairAt (H : Hp) (t : Addr) (k : Nat) (ns : List Nat) : Prop := ∃ g : Addr, H t = some (.tup [nV k, .ref g]) ∧ H g = some (.tup (ns.map nV))
theorem PairAt.keep {H H' : Hp} {t : Addr} {k : Nat} {ns : List Nat} (h : PairAt H t k ns) (s : TK H H') : PairAt H' t k ns := by
  obtain ⟨g, e1, e2⟩ := h
  exact ⟨g, s _ _ e1, s _ _ e2⟩
def momH (hs : List HR) (k : Nat) : Int := match hs[k]? with | some h => h.mom | none => 0
def trB (bs : List BR) (n : Nat) : Int := match bs[n]? with | some b => (b.th.length : Int) | none => 0
def toB (bs : List BR) (n : Nat) : Nat := match bs[n]? with | some b => b.to | none => 0
def wayEnd (bs : List BR) : Nat → List Nat → Option Nat
  | k, [] => some k
  | k, n :: ns => match bs[n]? with | some b => if b.one = k then wayEnd bs b.to ns else none | none => none
theorem wayEnd_cons {bs : List BR} {n k : Nat} {b : BR} {ns : List Nat} (e : bs[n]? = some b) : wayEnd bs k (n :: ns) = if b.one = k then wayEnd bs b.to ns else none := by
  show (match bs[n]? with | some b => if b.one = k then wayEnd bs b.to ns else none | none => none) = _
  rw [e]
theorem drop_at {α : Type} {ns : List α} {i : Nat} {n : α} (e : ns[i]? = some n) : ns.drop i = n :: ns.drop (i + 1) := by
  obtain ⟨h, z⟩ := List.getElem?_eq_some_iff.mp e
  rw [List.drop_eq_getElem_cons h, z]
def onV : Option Nat → V
  | none => .non
  | some k => nV k
theorem nats_at {ns : List Nat} {i : Nat} {x : V} (h : (ns.map nV)[i]? = some x) : ∃ n : Nat, ns[i]? = some n ∧ x = nV n := by
  rw [List.getElem?_map] at h
  cases e : ns[i]? with
  | none => rw [e] at h; cases h
  | some n => rw [e] at h; exact ⟨n, rfl, (Option.some.inj h).symm⟩
section
variable {P : Program} {w : World} {K : PySem.W.Frag} {mg : Str → Option Value} {base : Heap}
def sp_trays_on (K : PySem.W.Frag) : Sp := fun vs H Q _ => ∃ (r t : Addr) (hs : List HR) (bs : List BR) (k : Nat) (ns : List Nat), vs = [.ref r, .ref t] ∧ RoomAt H r hs bs ∧ PairAt H t k ns ∧ (∀ n ∈ ns, n < bs.length) ∧ ns.length ≤ 400 ∧ ∀ H', Same H H' → Q (.int (ns.map (trB bs)).sum) H'
theorem ok_trays_on {f : Addr} {fd : FuncData} (F : Fun K "trays_on" "trays_on" s_trays_on f fd) (T : Top K mg) : FnOk P w K mg base CX0 1 f fd ["room", "way"] (sp_trays_on K) := by
  refine F.ok sc_trays_on (fun vs H Q E h => ?_) (fun cdv A outer s H vs Q E hr h => ?_)
  · obtain ⟨r, t, hs, bs, k, ns, rfl, _⟩ := h
    rfl
  obtain ⟨r, t, hs, bs, k, ns, rfl, hR, ⟨g, et, eg⟩, hn, ln, q⟩ := h
  obtain ⟨ha, ba, hv, bv, er, eh, eb, alh, alb⟩ := hR.ex
  refine ⟨_, (pss_one (ps_ret (pe_callB (cr_sumK K rfl rfl) (by rfl) T.m_sum (by decide +kernel) (pa_cons (pe_lc (own := [("number", 2)]) (g := gName 2) (tt := tYes) (by rfl) sc_trays_on.nd (pi_tupK K rfl (pe_ix (ix_tupK K rfl) (pv 1) pe_int (fun _ _ => rfl))) (blkOk_by (own := [("number", 2)]) (N := N_trays_on) (sc := defScope s_trays_on) (by decide +kernel)) (fun _ _ _ _ _ => (pg_name (i := 2) sc_trays_on.nd rfl (Or.inl rfl))) (fun _ _ _ _ _ => pts_nil) (fun _ _ _ _ _ => (pe_callB (call_len_seqK K rfl) (by rfl) T.m_len (by decide +kernel) (pa_cons (pe_ix (ix_tupK K rfl) (pe_ix (ix_tupK K rfl) (pe_ix (ix_tupK K rfl) (pv 0) pe_int (fun _ _ => rfl)) (pv 2) (fun _ _ => rfl)) pe_int (fun _ _ => rfl)) pa_nil)))) pa_nil)))), ?_⟩
  refine ⟨_, rfl, t, _, _, _, rfl, rfl, SqT.of et, atI_nat (j := 1) rfl, g, rfl, ⟨_, SqT.of eg⟩, fun D nD => lc_tup (K := K) (a := g) (xs := ns.map nV) (fun i H5 => H5 D = some (.lst (((ns.take i).map (trB bs)).map V.int)) ∧ Same H H5) ⟨upd_same, same_new nD⟩ (fun i H5 _ ⟨_, s5⟩ => SqT.of (s5 _ _ eg)) ?_ ?_⟩
  · rintro i x H5 hx ⟨hD, s5⟩
    obtain ⟨n, en, rfl⟩ := nats_at hx
    have il := (List.getElem?_eq_some_iff.mp en).1
    have nb := hn n (List.mem_of_getElem? en)
    have ebn : bs[n]? = some bs[n] := List.getElem?_eq_getElem nb
    obtain ⟨x, ex, ⟨t2, g2, rfl, e1, e2⟩⟩ := alb.get ebn
    refine ⟨rfl, yes_in ⟨_, rfl, r, _, _, _, rfl, rfl, SqT.of (s5 _ _ er), atI_nat (j := 1) rfl, _, rfl, ba, _, _, _, rfl, rfl, SqT.of (s5 _ _ eb), atI_nat ex, t2, _, _, _, rfl, rfl, SqT.of (s5 _ _ e1), atI_nat (j := 2) rfl, g2, _, rfl, .inr (SqT.of (s5 _ _ e2)), _, hD, ?_, ?_, Same.own s5 nD⟩⟩
    · rw [List.length_map, List.length_map, List.length_take]; exact small1000 (by omega)
    · rw [upd_same, List.take_add_one, en, List.map_append, List.map_append, List.length_map]
      show _ = some (HO.lst (_ ++ [V.int (trB bs n)]))
      unfold trB
      rw [ebn]
  · rintro H5 ⟨hD, s5⟩
    rw [List.length_map, List.take_length] at hD
    exact ⟨D, _, rfl, SqL.of hD, q _ s5⟩
def momW (hs : List HR) (bs : List BR) (k : Nat) (ns : List Nat) : Int := momH hs k + (ns.map fun n => momH hs (toB bs n)).sum
def sp_moments_on (K : PySem.W.Frag) : Sp := fun vs H Q _ => ∃ (r t : Addr) (hs : List HR) (bs : List BR) (k : Nat) (ns : List Nat), vs = [.ref r, .ref t] ∧ RoomAt H r hs bs ∧ (∀ b ∈ bs, b.to < hs.length) ∧ PairAt H t k ns ∧ k < hs.length ∧ (∀ n ∈ ns, n < bs.length) ∧ ns.length ≤ 400 ∧ ∀ H', Same H H' → Q (.int (momW hs bs k ns)) H'
theorem ok_moments_on {f : Addr} {fd : FuncData} (F : Fun K "moments_on" "moments_on" s_moments_on f fd) (T : Top K mg) : FnOk P w K mg base CX0 1 f fd ["room", "way"] (sp_moments_on K) := by
  refine F.ok sc_moments_on (fun vs H Q E h => ?_) (fun cdv A outer s H vs Q E hr h => ?_)
  · obtain ⟨r, t, hs, bs, k, ns, rfl, _⟩ := h
    rfl
  obtain ⟨r, t, hs, bs, k, ns, rfl, hR, hto, ⟨g, et, eg⟩, hk, hn, ln, q⟩ := h
  obtain ⟨ha, ba, hv, bv, er, eh, eb, alh, alb⟩ := hR.ex
  refine ⟨_, (pss_cons (ps_asg (pv 0) (pg_tupK K rfl rfl (pgs_cons (pg_name (i := 2) sc_moments_on.nd rfl (Or.inr rfl)) (pgs_cons (pg_name (i := 3) sc_moments_on.nd rfl (Or.inr rfl)) pgs_nil))))
      (pss_cons (ps_asg (pv 1) (pg_tupK K rfl rfl (pgs_cons (pg_name (i := 4) sc_moments_on.nd rfl (Or.inl rfl)) (pgs_cons (pg_name (i := 5) sc_moments_on.nd rfl (Or.inl rfl)) pgs_nil))))
      (pss_one (ps_ret (pe_op op_add (pe_ix (ix_tupK K rfl) (pe_ix (ix_tupK K rfl) (pv 2) (pv 4) (fun _ _ => rfl)) pe_int (fun _ _ => rfl)) (pe_callB (cr_sumK K rfl rfl) (by rfl) T.m_sum (by decide +kernel) (pa_cons (pe_lc (own := [("number", 6)]) (g := gName 6) (tt := tYes) (by rfl) sc_moments_on.nd (pi_tupK K rfl (pv 5)) (blkOk_by (own := [("number", 6)]) (N := N_moments_on) (sc := defScope s_moments_on) (by decide +kernel)) (fun _ _ _ _ _ => (pg_name (i := 6) sc_moments_on.nd rfl (Or.inl rfl))) (fun _ _ _ _ _ => pts_nil) (fun _ _ _ _ _ => (pe_ix (ix_tupK K rfl) (pe_ix (ix_tupK K rfl) (pv 2) (pe_ix (ix_tupK K rfl) (pe_ix (ix_tupK K rfl) (pv 3) (pv 6) (fun _ _ => rfl)) pe_int (fun _ _ => rfl)) (fun _ _ => rfl)) pe_int (fun _ _ => rfl)))) pa_nil))))))), ?_⟩
  refine ⟨_, rfl, r, _, rfl, SqT.of er, rfl, _, _, rfl, _, _, rfl, rfl, ?_⟩
  refine ⟨_, rfl, t, _, rfl, SqT.of et, rfl, _, _, rfl, _, _, rfl, rfl, ?_⟩
  have ehk : hs[k]? = some hs[k] := List.getElem?_eq_getElem hk
  obtain ⟨x0, ex0, ⟨t0, r0, rfl, e01, e02⟩⟩ := alh.get ehk
  refine ⟨_, rfl, _, rfl, ha, _, _, _, rfl, rfl, SqT.of eh, atI_nat ex0, t0, _, _, _, rfl, rfl, SqT.of e01, atI_nat (j := 1) rfl, ?_⟩
  refine ⟨_, rfl, g, rfl, ⟨_, SqT.of eg⟩, fun D nD => lc_tup (K := K) (a := g) (xs := ns.map nV) (fun i H5 => H5 D = some (.lst (((ns.take i).map fun n => momH hs (toB bs n)).map V.int)) ∧ Same H H5) ⟨upd_same, same_new nD⟩ (fun i H5 _ ⟨_, s5⟩ => SqT.of (s5 _ _ eg)) ?_ ?_⟩
  · rintro i x H5 hx ⟨hD, s5⟩
    obtain ⟨n, en, rfl⟩ := nats_at hx
    have il := (List.getElem?_eq_some_iff.mp en).1
    have nb := hn n (List.mem_of_getElem? en)
    have ebn : bs[n]? = some bs[n] := List.getElem?_eq_getElem nb
    obtain ⟨x, ex, ⟨t2, g2, rfl, e1, e2⟩⟩ := alb.get ebn
    have tb := hto _ (List.getElem_mem nb)
    have eht : hs[bs[n].to]? = some hs[bs[n].to] := List.getElem?_eq_getElem tb
    obtain ⟨y, ey, ⟨t3, r3, rfl, e31, e32⟩⟩ := alh.get eht
    refine ⟨rfl, yes_in ⟨_, rfl, _, rfl, _, rfl, ba, _, _, _, rfl, rfl, SqT.of (s5 _ _ eb), atI_nat ex, t2, _, _, _, rfl, rfl, SqT.of (s5 _ _ e1), atI_nat (j := 1) rfl, ha, _, _, _, rfl, rfl, SqT.of (s5 _ _ eh), atI_nat ey, t3, _, _, _, rfl, rfl, SqT.of (s5 _ _ e31), atI_nat (j := 1) rfl, _, hD, ?_, ?_, Same.own s5 nD⟩⟩
    · rw [List.length_map, List.length_map, List.length_take]; exact small1000 (by omega)
    · rw [upd_same, List.take_add_one, en, List.map_append, List.map_append]
      show _ = some (HO.lst (_ ++ [V.int (momH hs (toB bs n))]))
      unfold momH toB
      rw [ebn]
      dsimp only
      rw [eht]
  · rintro H5 ⟨hD, s5⟩
    rw [List.length_map, List.take_length] at hD
    refine ⟨D, _, rfl, SqL.of hD, _, _, rfl, rfl, ?_⟩
    have := q _ s5
    unfold momW at this
    rw [show momH hs k = hs[k].mom by unfold momH; rw [ehk]] at this
    exact this
end
section
variable {P : Program} {w : World} {K : PySem.W.Frag} {mg : Str → Option Value} {base : Heap}
def sp_way_end (K : PySem.W.Frag) : Sp := fun vs H Q _ => ∃ (r t : Addr) (hs : List HR) (bs : List BR) (k : Nat) (ns : List Nat), vs = [.ref r, .ref t] ∧ RoomAt H r hs bs ∧ PairAt H t k ns ∧ k < hs.length ∧ (∀ n ∈ ns, n < bs.length) ∧ ∀ H', Same H H' → Q (onV (wayEnd bs k ns)) H'
theorem ok_way_end {f : Addr} {fd : FuncData} (F : Fun K "way_end" "way_end" s_way_end f fd) (T : Top K mg) : FnOk P w K mg base CX0 1 f fd ["room", "pair"] (sp_way_end K) := by
  refine F.ok sc_way_end (fun vs H Q E h => ?_) (fun cdv A outer s H vs Q E hr h => ?_)
  · obtain ⟨r, t, hs, bs, k, ns, rfl, _⟩ := h
    rfl
  obtain ⟨r, t, hs, bs, k, ns, rfl, hR, ⟨g, et, eg⟩, hk, hn, q⟩ := h
  obtain ⟨ha, ba, hv, bv, er, eh, eb, alh, alb⟩ := hR.ex
  have lhv := alh.length
  have lbv := alb.length
  refine ⟨_, (pss_cons (ps_asg (pv 0) (pg_tupK K rfl rfl (pgs_cons (pg_name (i := 2) sc_way_end.nd rfl (Or.inl rfl)) (pgs_cons (pg_name (i := 3) sc_way_end.nd rfl (Or.inl rfl)) pgs_nil))))
      (pss_cons (ps_asg (pv 1) (pg_tupK K rfl rfl (pgs_cons (pg_name (i := 4) sc_way_end.nd rfl (Or.inl rfl)) (pgs_cons (pg_name (i := 5) sc_way_end.nd rfl (Or.inl rfl)) pgs_nil))))
      (pss_cons (ps_if (pt_not (pt_chain op_le op_lt pe_int (pv 4) (pe_callB (call_len_seqK K rfl) (by rfl) T.m_len (by decide +kernel) (pa_cons (pv 2) pa_nil)))) (pss_one (ps_ret pe_non)) pss_nil)
      (pss_cons (ps_for PassesOwn.never rfl (pi_tupK K rfl (pv 5)) (pg_name (i := 6) sc_way_end.nd rfl (Or.inl rfl))
        (pss_cons (ps_if (PW.pt (pw_or (pt_not (pt_chain op_le op_lt pe_int (pv 6) (pe_callB (call_len_seqK K rfl) (by rfl) T.m_len (by decide +kernel) (pa_cons (pv 3) pa_nil)))) (pw_or1 (pt_cmpR op_ne (pe_ix (ix_tupK K rfl) (pe_ix (ix_tupK K rfl) (pv 3) (pv 6) (fun _ _ => rfl)) pe_int (fun _ _ => rfl)) (pv 4) (nomark _))))) (pss_one (ps_ret pe_non)) pss_nil)
      (pss_one (ps_set (i := 4) sc_way_end.nd rfl (Or.inl rfl) (pe_ix (ix_tupK K rfl) (pe_ix (ix_tupK K rfl) (pv 3) (pv 6) (fun _ _ => rfl)) pe_int (fun _ _ => rfl))))))
      (pss_one (ps_ret (pv 4))))))), ?_⟩
  refine ⟨_, rfl, r, _, rfl, SqT.of er, rfl, _, _, rfl, _, _, rfl, rfl, ?_⟩
  refine ⟨_, rfl, t, _, rfl, SqT.of et, rfl, _, _, rfl, _, _, rfl, rfl, ?_⟩
  refine ⟨_, rfl, _, _, rfl, rfl, _, rfl, if_bl (fun _ => ?_) (fun z => absurd (show (0 : Int) ≤ ((k : Nat) : Int) by omega) (of_decide_eq_false z))⟩
  refine ⟨_, rfl, ha, _, rfl, .inr (SqT.of eh), _, _, rfl, rfl, _, rfl, ?_⟩
  rw [decide_eq_true (show ((k : Nat) : Int) < ((hv.length : Nat) : Int) by omega)]
  refine if_bl (fun z => nomatch z) (fun _ => ?_)
  refine ⟨_, rfl, g, rfl, ⟨_, SqT.of eg⟩, for_tup (K := K) (a := g) (xs := ns.map nV) (fun i σ H2 => ∃ (cur : Nat) (v6 : Option V), σ = [some (.ref r), some (.ref t), some (.ref ha), some (.ref ba), some (nV cur), some (.ref g), v6] ∧ wayEnd bs k ns = wayEnd bs cur (ns.drop i) ∧ Same H H2)
    ⟨k, none, rfl, rfl, Same.refl _⟩ (fun i σ H2 _ ⟨_, _, _, _, s2⟩ => SqT.of (s2 _ _ eg)) ?_ ?_⟩
  · rintro i x σ H2 hx ⟨cur, v6, rfl, hw, s2⟩
    obtain ⟨n, en, rfl⟩ := nats_at hx
    have nb := hn n (List.mem_of_getElem? en)
    have ebn : bs[n]? = some bs[n] := List.getElem?_eq_getElem nb
    obtain ⟨x, ex, ⟨t2, g2, rfl, e1, e2⟩⟩ := alb.get ebn
    rw [drop_at en, wayEnd_cons ebn] at hw
    refine ⟨_, rfl, _, _, rfl, rfl, _, rfl, if_bl (fun _ => ?_) (fun z => absurd (show (0 : Int) ≤ ((n : Nat) : Int) by omega) (of_decide_eq_false z))⟩
    refine ⟨_, rfl, ba, _, rfl, .inr (SqT.of (s2 _ _ eb)), _, _, rfl, rfl, _, rfl, ?_⟩
    rw [decide_eq_true (show ((n : Nat) : Int) < ((bv.length : Nat) : Int) by omega)]
    refine if_bl (fun z => nomatch z) (fun _ => ?_)
    refine ⟨_, rfl, _, rfl, ba, _, _, _, rfl, rfl, SqT.of (s2 _ _ eb), atI_nat ex, t2, _, _, _, rfl, rfl, SqT.of (s2 _ _ e1), atI_nat (j := 0) rfl, _, rfl, rfl, _, rfl, ?_⟩
    by_cases c : bs[n].one = cur
    · rw [decide_eq_true (show nV bs[n].one = nV cur by rw [c])]
      rw [if_pos c] at hw
      refine if_bl (fun z => nomatch z) (fun _ => ?_)
      exact ⟨_, rfl, _, rfl, ba, _, _, _, rfl, rfl, SqT.of (s2 _ _ eb), atI_nat ex, t2, _, _, _, rfl, rfl, SqT.of (s2 _ _ e1), atI_nat (j := 1) rfl, _, _, rfl, hw, s2⟩
    · rw [decide_eq_false (show ¬ nV bs[n].one = nV cur from fun z => c (by have := V.int.inj z; omega))]
      rw [if_neg c] at hw
      refine if_bl (fun _ => ?_) (fun z => nomatch z)
      have := q _ s2
      rw [hw] at this
      exact this
  · rintro σ H2 ⟨cur, v6, rfl, hw, s2⟩
    rw [List.length_map, List.drop_length] at hw
    have := q _ s2
    rw [hw] at this
    exact ⟨_, rfl, this⟩
end
theorem nodup_len : ∀ (n : Nat) (l : List Nat), l.Nodup → (∀ x ∈ l, x < n) → l.length ≤ n
  | 0, l, _, h => by
    cases l with
    | nil => exact Nat.le_refl _
    | cons a l => exact absurd (h a (List.mem_cons_self ..)) (Nat.not_lt_zero _)
  | n + 1, l, nd, h => by
    by_cases m : n ∈ l
    · have ih := nodup_len n (l.erase n) (nd.erase n) fun x hx => by
        have hx := (List.Nodup.mem_erase_iff nd).mp hx
        have := h x hx.2
        have := hx.1
        omega
      rw [List.length_erase_of_mem m] at ih
      omega
    · have ih := nodup_len n l nd fun x hx => by
        have h1 := h x hx
        have : x ≠ n := fun z => m (z ▸ hx)
        omega
      omega
theorem pigeon {n : Nat} {g : Nat → Nat} {m : Nat} (h : ∀ i, i < m → g i < n) (hm : n < m) : ∃ i j, i < j ∧ j < m ∧ g i = g j := by
  refine Classical.byContradiction fun no => ?_
  have nd : ((List.range m).map g).Nodup := by
    unfold List.Nodup
    rw [List.pairwise_map]
    exact List.Pairwise.imp_of_mem (fun ha hb lt e => no ⟨_, _, lt, List.mem_range.mp hb, e⟩) List.pairwise_lt_range
  have := nodup_len n _ nd fun x hx => by
    obtain ⟨i, hi, rfl⟩ := List.mem_map.mp hx
    exact h i (List.mem_range.mp hi)
  rw [List.length_map, List.length_range] at this
  omega
/-! ### levels: mathematics -/
structure St3 where
  u : Nat
  v : Nat
  w : Int
def Feas (st : List St3) : Prop := ∃ lv : Nat → Int, ∀ s ∈ st, lv s.u + s.w ≤ lv s.v
structure Lv (st : List St3) (i j : Nat) (lv : Nat → Int) (la : Nat → Option Nat) (r t : Nat → Nat) (now : Nat) : Prop where
  bk : ∀ p k, la p = some k → ∃ s, st[k]? = some s ∧ s.v = p ∧ lv p ≤ lv s.u + s.w ∧ (t p ≤ t s.u → lv p < lv s.u + s.w) ∧ r p ≤ r s.u + 1
  has : ∀ p, 1 ≤ r p → ∃ k, la p = some k
  tn : ∀ p, t p ≤ now
  rl : ∀ p, r p ≤ i
  sat : ∀ k s, st[k]? = some s → lv s.u + s.w ≤ lv s.v ∨ (if k < j then i else i - 1) ≤ r s.u
def put {α : Type} (f : Nat → α) (p : Nat) (x : α) : Nat → α := fun q => if q = p then x else f q
theorem put_at {α : Type} {f : Nat → α} {p : Nat} {x : α} : put f p x p = x := if_pos rfl
theorem put_ne {α : Type} {f : Nat → α} {p q : Nat} {x : α} (h : q ≠ p) : put f p x q = f q := if_neg h
theorem Lv.start {st : List St3} : Lv st 1 0 (fun _ => 0) (fun _ => none) (fun _ => 0) (fun _ => 0) 0 :=
  ⟨(fun _ _ z => nomatch z), fun p z => absurd z (by decide), fun _ => Nat.le_refl _, fun _ => Nat.zero_le _, fun k s _ => .inr (by rw [if_neg (Nat.not_lt_zero _)]; exact Nat.le_refl _)⟩
theorem Lv.idle {st : List St3} {i j : Nat} {lv : Nat → Int} {la : Nat → Option Nat} {r t : Nat → Nat} {now : Nat} (L : Lv st i j lv la r t now) {s : St3} (es : st[j]? = some s) (h : ¬ lv s.u + s.w > lv s.v) : Lv st i (j + 1) lv la r t now := by
  refine { L with sat := fun k s2 e => ?_ }
  by_cases z : k = j
  · subst z
    rw [es] at e
    cases e
    exact .inl (by omega)
  · rcases L.sat k s2 e with y | y
    · exact .inl y
    · refine .inr ?_
      by_cases x : k < j
      · rw [if_pos x] at y; rw [if_pos (by omega)]; exact y
      · rw [if_neg x] at y; rw [if_neg (by omega)]; exact y
theorem Lv.lift {st : List St3} {i j : Nat} {lv : Nat → Int} {la : Nat → Option Nat} {r t : Nat → Nat} {now : Nat} (L : Lv st i j lv la r t now) {s : St3} (es : st[j]? = some s) (h : lv s.u + s.w > lv s.v) :
    Lv st i (j + 1) (put lv s.v (lv s.u + s.w)) (put la s.v (some j)) (put r s.v i) (put t s.v (now + 1)) (now + 1) := by
  have ru : i ≤ r s.u + 1 := by
    rcases L.sat j s es with y | y
    · omega
    · rw [if_neg (Nat.lt_irrefl _)] at y; omega
  have rge : ∀ p, r p ≤ put r s.v i p := fun p => by
    by_cases z : p = s.v
    · rw [z, put_at]; exact L.rl _
    · rw [put_ne z]; exact Nat.le_refl _
  have lge : ∀ p, lv p ≤ put lv s.v (lv s.u + s.w) p := fun p => by
    by_cases z : p = s.v
    · rw [z, put_at]; omega
    · rw [put_ne z]; exact Int.le_refl _
  refine ⟨fun p k e => ?_, fun p z => ?_, fun p => ?_, fun p => ?_, fun k s2 e => ?_⟩
  · by_cases z : p = s.v
    · subst z
      rw [put_at] at e
      cases e
      refine ⟨s, es, rfl, ?_, fun y => ?_, ?_⟩
      · rw [put_at]
        have := lge s.u
        omega
      · rw [put_at] at y ⊢
        by_cases x : s.u = s.v
        · rw [x, put_at]
          rw [x] at h
          omega
        · rw [put_ne x] at y
          have := L.tn s.u
          omega
      · rw [put_at]
        have := rge s.u
        omega
    · rw [put_ne z] at e
      obtain ⟨s2, e1, e2, e3, e4, e5⟩ := L.bk p k e
      refine ⟨s2, e1, e2, ?_, fun y => ?_, ?_⟩
      · rw [put_ne z]
        have := lge s2.u
        omega
      · rw [put_ne z]
        by_cases x : s2.u = s.v
        · rw [x, put_at]
          rw [x] at e3
          omega
        · rw [put_ne x]
          rw [put_ne x, put_ne z] at y
          exact e4 y
      · rw [put_ne z]
        have := rge s2.u
        omega
  · by_cases y : p = s.v
    · exact ⟨j, by rw [y, put_at]⟩
    · rw [put_ne y] at z ⊢
      exact L.has p z
  · by_cases y : p = s.v
    · rw [y, put_at]; exact Nat.le_refl _
    · rw [put_ne y]; exact Nat.le_succ_of_le (L.tn p)
  · by_cases y : p = s.v
    · rw [y, put_at]; exact Nat.le_refl _
    · rw [put_ne y]; exact L.rl p
  · by_cases x : s2.u = s.v
    · refine .inr ?_
      rw [x, put_at]
      split <;> omega
    · rw [put_ne x, put_ne x]
      by_cases z : k = j
      · subst z
        rw [es] at e
        cases e
        exact .inl (by rw [put_at]; exact Int.le_refl _)
      · rcases L.sat k s2 e with y | y
        · exact .inl (Int.le_trans y (lge _))
        · refine .inr ?_
          by_cases q : k < j
          · rw [if_pos q] at y; rw [if_pos (by omega)]; exact y
          · rw [if_neg q] at y; rw [if_neg (by omega)]; exact y
theorem Lv.next {st : List St3} {i : Nat} {lv : Nat → Int} {la : Nat → Option Nat} {r t : Nat → Nat} {now : Nat} (L : Lv st i st.length lv la r t now) : Lv st (i + 1) 0 lv la r t now := by
  refine { L with rl := fun p => Nat.le_succ_of_le (L.rl p), sat := fun k s e => ?_ }
  rcases L.sat k s e with y | y
  · exact .inl y
  · refine .inr ?_
    rw [if_pos (List.getElem?_eq_some_iff.mp e).1] at y
    rw [if_neg (Nat.not_lt_zero _)]
    exact y
theorem Lv.feas {st : List St3} {i : Nat} {lv : Nat → Int} {la : Nat → Option Nat} {r t : Nat → Nat} {now : Nat} (L : Lv st i st.length lv la r t now) (h : ∀ p, r p < i) : ∀ s ∈ st, lv s.u + s.w ≤ lv s.v := fun s hs => by
  obtain ⟨k, e⟩ := List.getElem?_of_mem hs
  rcases L.sat k s e with y | y
  · exact y
  · rw [if_pos (List.getElem?_eq_some_iff.mp e).1] at y
    have := h s.u
    omega
/-- one step back -/
def back (st : List St3) (la : Nat → Option Nat) (p : Nat) : Nat := match la p with
  | none => p
  | some k => match st[k]? with
    | none => p
    | some s => s.u
def backs (st : List St3) (la : Nat → Option Nat) (p : Nat) : Nat → Nat
  | 0 => p
  | k + 1 => back st la (backs st la p k)
theorem backs_add {st : List St3} {la : Nat → Option Nat} {p : Nat} : ∀ {a b k : Nat}, backs st la p a = backs st la p b → backs st la p (a + k) = backs st la p (b + k)
  | _, _, 0, h => h
  | a, b, k + 1, h => by
    show back st la (backs st la p (a + k)) = back st la (backs st la p (b + k))
    rw [backs_add h]
theorem Lv.back_r {st : List St3} {i j : Nat} {lv : Nat → Int} {la : Nat → Option Nat} {r t : Nat → Nat} {now : Nat} (L : Lv st i j lv la r t now) (p : Nat) : r p ≤ r (back st la p) + 1 := by
  unfold back
  cases e : la p with
  | none => dsimp only; omega
  | some k =>
    obtain ⟨s, e1, _, _, _, e5⟩ := L.bk p k e
    dsimp only
    rw [e1]
    exact e5
theorem Lv.backs_r {st : List St3} {i j : Nat} {lv : Nat → Int} {la : Nat → Option Nat} {r t : Nat → Nat} {now : Nat} (L : Lv st i j lv la r t now) (p : Nat) : ∀ k, r p ≤ r (backs st la p k) + k
  | 0 => Nat.le_refl _
  | k + 1 => by
    have := L.backs_r p k
    have := L.back_r (backs st la p k)
    show r p ≤ r (back st la (backs st la p k)) + (k + 1)
    omega
/-- from a place that was raised in the last of as many rounds as there are places the steps back lead onto a ring -/
theorem Lv.ring {st : List St3} {n : Nat} {lv : Nat → Int} {la : Nat → Option Nat} {r t : Nat → Nat} {now : Nat} (L : Lv st n st.length lv la r t now) (hu : ∀ s ∈ st, s.u < n) {p : Nat} (hp : p < n) (hr : r p = n) :
    ∃ c, 1 ≤ c ∧ c ≤ n ∧ backs st la p (n + c) = backs st la p n ∧ (∀ k, n ≤ k → ∃ m, la (backs st la p k) = some m) ∧ (∀ k, backs st la p k < n) ∧ ∀ k, k < n → ∃ m, la (backs st la p k) = some m := by
  have lt : ∀ k, backs st la p k < n := fun k => by
    induction k with
    | zero => exact hp
    | succ k ih =>
      show back st la (backs st la p k) < n
      unfold back
      cases e : la (backs st la p k) with
      | none => exact ih
      | some m =>
        obtain ⟨s, e1, _⟩ := L.bk _ m e
        dsimp only
        rw [e1]
        exact hu s (List.mem_of_getElem? e1)
  have some_ : ∀ k, k < n → ∃ m, la (backs st la p k) = some m := fun k hk => by
    have := L.backs_r p k
    exact L.has _ (by omega)
  obtain ⟨a, b, ab, bn, e⟩ := pigeon (n := n) (g := backs st la p) (m := n + 1) (fun i _ => lt i) (by omega)
  have per : ∀ k, a ≤ k → backs st la p (k + (b - a)) = backs st la p k := fun k hk => by
    have := backs_add (k := k - a) e
    rw [show a + (k - a) = k by omega, show b + (k - a) = k + (b - a) by omega] at this
    exact this.symm
  refine ⟨b - a, by omega, by omega, per n (by omega), fun k hk => ?_, lt, some_⟩
  have low : ∀ d k, k ≤ d → a ≤ k → ∃ j, j < n ∧ backs st la p k = backs st la p j := fun d => by
    induction d with
    | zero => exact fun k h1 h2 => ⟨k, by omega, rfl⟩
    | succ d ih =>
      intro k h1 h2
      by_cases z : k < n
      · exact ⟨k, z, rfl⟩
      · obtain ⟨j, j1, j2⟩ := ih (k - (b - a)) (by omega) (by omega)
        have := per (k - (b - a)) (by omega)
        rw [show k - (b - a) + (b - a) = k by omega] at this
        exact ⟨j, j1, by rw [this, j2]⟩
  obtain ⟨j, j1, j2⟩ := low k k (Nat.le_refl _) (by omega)
  rw [j2]
  exact some_ j j1
/-- the need of the step back from a place -/
def need (st : List St3) (la : Nat → Option Nat) (p : Nat) : Int := match la p with
  | none => 0
  | some k => match st[k]? with
    | none => 0
    | some s => s.w
def needs3 (st : List St3) (la : Nat → Option Nat) (p : Nat) (a : Nat) : Nat → Int
  | 0 => 0
  | k + 1 => needs3 st la p a k + need st la (backs st la p (a + k))
theorem Lv.sum_pos {st : List St3} {i j : Nat} {lv : Nat → Int} {la : Nat → Option Nat} {r t : Nat → Nat} {now : Nat} (L : Lv st i j lv la r t now) {p a c : Nat} (hc : 1 ≤ c) (e : backs st la p (a + c) = backs st la p a) (hs : ∀ k, a ≤ k → ∃ m, la (backs st la p k) = some m) : 0 < needs3 st la p a c := by
  have go : ∀ k, lv (backs st la p a) ≤ lv (backs st la p (a + k)) + needs3 st la p a k ∧ (lv (backs st la p a) < lv (backs st la p (a + k)) + needs3 st la p a k ∨ t (backs st la p (a + k)) + k ≤ t (backs st la p a)) := fun k => by
    induction k with
    | zero => exact ⟨by show lv (backs st la p a) ≤ lv (backs st la p a) + 0; omega, .inr (Nat.le_refl _)⟩
    | succ k ih =>
      obtain ⟨m, em⟩ := hs (a + k) (by omega)
      obtain ⟨s, e1, e2, e3, e4, e5⟩ := L.bk _ m em
      have eb : backs st la p (a + (k + 1)) = s.u := by
        show back st la (backs st la p (a + k)) = s.u
        unfold back
        rw [em]
        dsimp only
        rw [e1]
      have en : needs3 st la p a (k + 1) = needs3 st la p a k + s.w := by
        show needs3 st la p a k + need st la (backs st la p (a + k)) = _
        unfold need
        rw [em]
        dsimp only
        rw [e1]
      rw [eb, en]
      refine ⟨by omega, ?_⟩
      rcases ih.2 with y | y
      · exact .inl (by omega)
      · by_cases z : t (backs st la p (a + k)) ≤ t s.u
        · exact .inl (by have := e4 z; omega)
        · exact .inr (by omega)
  obtain ⟨g1, g2⟩ := go c
  rw [e] at g1 g2
  rcases g2 with y | y
  · omega
  · omega
theorem needs3_le {st : List St3} {la : Nat → Option Nat} {p a : Nat} {lv : Nat → Int} (f : ∀ s ∈ st, lv s.u + s.w ≤ lv s.v) (bk : ∀ p k, la p = some k → ∃ s, st[k]? = some s ∧ s.v = p) (hs : ∀ k, a ≤ k → ∃ m, la (backs st la p k) = some m) : ∀ k, needs3 st la p a k ≤ lv (backs st la p a) - lv (backs st la p (a + k))
  | 0 => by show (0 : Int) ≤ lv (backs st la p a) - lv (backs st la p a); omega
  | k + 1 => by
    have ih := needs3_le f bk hs k
    obtain ⟨m, em⟩ := hs (a + k) (by omega)
    obtain ⟨s, e1, e2⟩ := bk _ m em
    have eb : backs st la p (a + (k + 1)) = s.u := by
      show back st la (backs st la p (a + k)) = s.u
      unfold back
      rw [em]
      dsimp only
      rw [e1]
    have en : needs3 st la p a (k + 1) = needs3 st la p a k + s.w := by
      show needs3 st la p a k + need st la (backs st la p (a + k)) = _
      unfold need
      rw [em]
      dsimp only
      rw [e1]
    have := f s (List.mem_of_getElem? e1)
    rw [eb, en]
    rw [e2] at this
    omega
theorem Lv.not_feas {st : List St3} {n : Nat} {lv : Nat → Int} {la : Nat → Option Nat} {r t : Nat → Nat} {now : Nat} (L : Lv st n st.length lv la r t now) (hu : ∀ s ∈ st, s.u < n) {p : Nat} (hp : p < n) (hr : r p = n) : ¬ Feas st := fun ⟨lv0, f⟩ => by
  obtain ⟨c, c1, c2, e, hs, _⟩ := L.ring hu hp hr
  have h1 := L.sum_pos c1 e hs
  have h2 := needs3_le f (fun p k z => by obtain ⟨s, e1, e2, _⟩ := L.bk p k z; exact ⟨s, e1, e2⟩) hs c
  rw [e] at h2
  omega
theorem ixN_nat {n k : Nat} (h : k < n) : ixN n ((k : Nat) : Int) = some k := by
  unfold ixN
  rw [if_pos (by omega), if_pos (by omega)]
  simp
/-! ### levels: the program -/
def oV : Option Nat → V
  | none => .non
  | some k => nV k
abbrev levL (n : Nat) (lv : Nat → Int) : List V := (List.range n).map fun p => V.int (lv p)
abbrev lasL (n : Nat) (la : Nat → Option Nat) : List V := (List.range n).map fun p => oV (la p)
theorem rg_at {n p : Nat} {f : Nat → V} (h : p < n) : ((List.range n).map f)[p]? = some (f p) := by
  rw [List.getElem?_map, List.getElem?_range h]; rfl
theorem rg_set {n p : Nat} {α : Type} {f : Nat → α} {g : α → V} {x : α} : ((List.range n).map fun q => g (f q)).set p (g x) = (List.range n).map fun q => g (put f p x q) := by
  refine List.ext_getElem? fun i => ?_
  by_cases e : i = p
  · subst e
    by_cases l : i < n
    · rw [List.getElem?_set_self (by rw [List.length_map, List.length_range]; exact l), rg_at l, put_at]
    · rw [List.getElem?_eq_none (by rw [List.length_set, List.length_map, List.length_range]; omega), List.getElem?_eq_none (by rw [List.length_map, List.length_range]; omega)]
  · rw [List.getElem?_set_ne (fun z => e z.symm)]
    by_cases l : i < n
    · rw [rg_at l, rg_at (f := fun q => g (put f p x q)) l, put_ne e]
    · rw [List.getElem?_eq_none (by rw [List.length_map, List.length_range]; omega), List.getElem?_eq_none (by rw [List.length_map, List.length_range]; omega)]
def StepAt (H : Hp) (v : V) (s : St3) : Prop := ∃ t : Addr, v = .ref t ∧ H t = some (.tup [nV s.u, nV s.v, .int s.w])
theorem StepAt.keep {H H' : Hp} {v : V} {s : St3} (h : StepAt H v s) (k : TK H H') : StepAt H' v s := by
  obtain ⟨t, e, h⟩ := h
  exact ⟨t, e, k _ _ h⟩
def StepsAt (H : Hp) (sl : Addr) (st : List St3) : Prop := ∃ sv : List V, H sl = some (.lst sv) ∧ All2 (StepAt H) sv st
def stepEnd (st : List St3) : Nat → List Nat → Option Nat
  | p, [] => some p
  | p, k :: ks => match st[k]? with | some s => if s.u = p then stepEnd st s.v ks else none | none => none
theorem stepEnd_cons {st : List St3} {k p : Nat} {s : St3} {ks : List Nat} (e : st[k]? = some s) : stepEnd st p (k :: ks) = if s.u = p then stepEnd st s.v ks else none := by
  show (match st[k]? with | some s => if s.u = p then stepEnd st s.v ks else none | none => none) = _
  rw [e]
def wS (st : List St3) (k : Nat) : Int := match st[k]? with | some s => s.w | none => 0
/-- a ring of steps that needs more than nothing -/
structure RingOk (st : List St3) (ks : List Nat) : Prop where
  ne : ks ≠ []
  lt : ∀ k ∈ ks, k < st.length
  cl : ∃ p, stepEnd st p ks = some p
  pos : 0 < (ks.map (wS st)).sum
theorem step_sum {st : List St3} {lv : Nat → Int} (f : ∀ s ∈ st, lv s.u + s.w ≤ lv s.v) : ∀ {ks : List Nat} {p q : Nat}, stepEnd st p ks = some q → lv p + (ks.map (wS st)).sum ≤ lv q
  | [], p, q, h => by cases h; show lv p + 0 ≤ lv p; omega
  | k :: ks, p, q, h => by
    cases e : st[k]? with
    | none =>
      have : stepEnd st p (k :: ks) = none := by
        show (match st[k]? with | some s => if s.u = p then stepEnd st s.v ks else none | none => none) = none
        rw [e]
      rw [this] at h; cases h
    | some s =>
      rw [stepEnd_cons e] at h
      by_cases z : s.u = p
      · rw [if_pos z] at h
        have ih := step_sum f h
        have := f s (List.mem_of_getElem? e)
        rw [List.map_cons, List.sum_cons, show wS st k = s.w by unfold wS; rw [e]]
        rw [z] at this
        omega
      · rw [if_neg z] at h; cases h
theorem RingOk.not_feas {st : List St3} {ks : List Nat} (r : RingOk st ks) : ¬ Feas st := fun ⟨lv, f⟩ => by
  obtain ⟨p, e⟩ := r.cl
  have := step_sum f e
  have := r.pos
  omega
section
variable {P : Program} {w : World} {K : PySem.W.Frag} {mg : Str → Option Value} {base : Heap}
def sp_raise_levels (K : PySem.W.Frag) : Sp := fun vs H Q _ => ∃ (ll lb sl : Addr) (n i : Nat) (st : List St3) (lv : Nat → Int) (la : Nat → Option Nat) (r t : Nat → Nat) (now : Nat), vs = [.ref ll, .ref lb, .ref sl] ∧ H ll = some (.lst (levL n lv)) ∧ H lb = some (.lst (lasL n la)) ∧ StepsAt H sl st ∧ ll ≠ lb ∧ sl ≠ ll ∧ sl ≠ lb ∧ (∀ s ∈ st, s.u < n ∧ s.v < n) ∧ st.length ≤ 400 ∧ Lv st i 0 lv la r t now ∧ (∀ p, r p < i) ∧
  ∀ (lv' : Nat → Int) (la' : Nat → Option Nat) (r' t' : Nat → Nat) (now' : Nat) (v : Option Nat) (H' : Hp), H' ll = some (.lst (levL n lv')) → H' lb = some (.lst (lasL n la')) → Lv st i st.length lv' la' r' t' now' → (v = none → ∀ p, r' p < i) → (∀ x, v = some x → x < n ∧ r' x = i) → (∀ p, lv p ≤ lv' p) → (∀ b o, H b = some o → b ≠ ll → b ≠ lb → H' b = some o) → Q (oV v) H'
theorem ok_raise_levels {f : Addr} {fd : FuncData} (F : Fun K "raise_levels" "raise_levels" s_raise_levels f fd) (T : Top K mg) : FnOk P w K mg base CX0 1 f fd ["levels", "last", "steps"] (sp_raise_levels K) := by
  refine F.ok sc_raise_levels (fun vs H Q E h => ?_) (fun cdv A outer s H vs Q E hr h => ?_)
  · obtain ⟨ll, lb, sl, n, i, st, lv, la, r, t, now, rfl, _⟩ := h
    rfl
  obtain ⟨ll, lb, sl, n, i, st, lv, la, r, t, now, rfl, hll, hlb, ⟨sv, hsl, als⟩, llb, sll, slb, bd, few, L, rlt, q⟩ := h
  have lsv := als.length
  refine ⟨_, (pss_cons (ps_set (i := 3) sc_raise_levels.nd rfl (Or.inl rfl) pe_non)
      (pss_cons (ps_for PassesOwn.never rfl (pi_enum (by rfl) T.m_enumerate (pa_cons (pv 2) pa_nil)) (pg_tupK K rfl rfl (pgs_cons (pg_name (i := 4) sc_raise_levels.nd rfl (Or.inl rfl)) (pgs_cons (pg_tupK K rfl rfl (pgs_cons (pg_name (i := 5) sc_raise_levels.nd rfl (Or.inl rfl)) (pgs_cons (pg_name (i := 6) sc_raise_levels.nd rfl (Or.inl rfl)) (pgs_cons (pg_name (i := 7) sc_raise_levels.nd rfl (Or.inl rfl)) pgs_nil)))) pgs_nil)))
        (pss_one (ps_if (pt_cmpR op_gt (pe_op op_add (pe_ix (ix_listK K rfl) (pv 0) (pv 5) (fun _ _ => rfl)) (pv 7)) (pe_ix (ix_listK K rfl) (pv 0) (pv 6) (fun _ _ => rfl)) (nomark _)) (pss_cons (ps_asg (pe_op op_add (pe_ix (ix_listK K rfl) (pv 0) (pv 5) (fun _ _ => rfl)) (pv 7)) (pg_sub (pv 0) (pv 6) set_list))
      (pss_cons (ps_asg (pv 4) (pg_sub (pv 1) (pv 6) set_list))
      (pss_one (ps_set (i := 3) sc_raise_levels.nd rfl (Or.inl rfl) (pv 6))))) pss_nil)))
      (pss_one (ps_ret (pv 3))))), ?_⟩
  refine ⟨_, rfl, sl, _, rfl, SqL.of hsl, for_it (n := sv.length) (fun j σ H2 => ∃ (lv' : Nat → Int) (la' : Nat → Option Nat) (r' t' : Nat → Nat) (now' : Nat) (v : Option Nat) (v4 v5 v6 v7 : Option V), σ = [some (.ref ll), some (.ref lb), some (.ref sl), some (oV v), v4, v5, v6, v7] ∧ H2 ll = some (.lst (levL n lv')) ∧ H2 lb = some (.lst (lasL n la')) ∧ Lv st i j lv' la' r' t' now' ∧ (v = none → ∀ p, r' p < i) ∧ (∀ x, v = some x → x < n ∧ r' x = i) ∧ (∀ p, lv p ≤ lv' p) ∧ (∀ b o, H b = some o → b ≠ ll → b ≠ lb → H2 b = some o))
    ⟨lv, la, r, t, now, none, none, none, none, none, rfl, hll, hlb, L, (fun _ => rlt), (fun _ z => nomatch z), (fun _ => Int.le_refl _), (fun _ _ e _ _ => e)⟩ ?_ ?_ ?_ ?_⟩
  · rintro j σ H2 hj ⟨lv', la', r', t', now', v, v4, v5, v6, v7, rfl, h1, h2, L, f1, f2, f3, fr⟩
    exact ⟨_, _, SqL.of (fr _ _ hsl sll slb), List.getElem?_eq_getElem hj⟩
  · rintro σ H2 ⟨lv', la', r', t', now', v, v4, v5, v6, v7, rfl, h1, h2, L, f1, f2, f3, fr⟩
    exact ⟨_, SqL.of (fr _ _ hsl sll slb), Nat.le_refl _⟩
  · rintro j x σ H2 H3 hj ⟨lv', la', r', t', now', v, v4, v5, v6, v7, rfl, h1, h2, L, f1, f2, f3, fr⟩ ⟨tt, y, rfl, ntt, rfl, fy⟩
    have ey := fy _ (SqL.of (fr _ _ hsl sll slb))
    obtain ⟨s, es, ⟨t2, rfl, e1⟩⟩ := als.getL ey
    obtain ⟨ul, vl⟩ := bd s (List.mem_of_getElem? es)
    have t2l : t2 ≠ ll := ne_of e1 hll (fun z => nomatch z)
    have t2b : t2 ≠ lb := ne_of e1 hlb (fun z => nomatch z)
    have e13 := same_new (o := .tup [V.int ((j : Nat) : Int), V.ref t2]) ntt _ _ (fr _ _ e1 t2l t2b)
    have h13 := same_new (o := .tup [V.int ((j : Nat) : Int), V.ref t2]) ntt _ _ h1
    have h23 := same_new (o := .tup [V.int ((j : Nat) : Int), V.ref t2]) ntt _ _ h2
    refine ⟨tt, _, rfl, SqT.of upd_same, rfl, _, _, rfl, _, _, rfl, t2, _, rfl, SqT.of e13, rfl, _, _, rfl, _, _, rfl, _, _, rfl, rfl, rfl, ?_⟩
    refine ⟨_, rfl, _, rfl, ll, _, _, _, rfl, rfl, SqL.of h13, atI_nat (rg_at ul), _, rfl, _, _, rfl, rfl, _, rfl, _, rfl, ll, _, _, _, rfl, rfl, SqL.of h13, atI_nat (rg_at vl), _, _, rfl, rfl, _, rfl, if_bl (fun c => ?_) (fun c => ?_)⟩
    · have c : lv' s.v < lv' s.u + s.w := of_decide_eq_true c
      refine ⟨_, rfl, _, rfl, ll, _, _, _, rfl, rfl, SqL.of h13, atI_nat (rg_at ul), _, rfl, _, _, rfl, rfl, _, rfl, _, rfl, ll, _, _, s.v, rfl, rfl, h13, ixN_nat (by rw [List.length_map, List.length_range]; exact vl), ?_⟩
      refine ⟨_, rfl, _, rfl, _, rfl, lb, _, _, s.v, rfl, rfl, (by rw [upd_ne llb.symm]; exact h23), ixN_nat (by rw [List.length_map, List.length_range]; exact vl), ?_⟩
      refine ⟨_, rfl, ?_⟩
      refine ⟨put lv' s.v (lv' s.u + s.w), put la' s.v (some j), put r' s.v i, put t' s.v (now' + 1), now' + 1, some s.v, _, _, _, _, rfl, ?_, ?_, L.lift es c, (fun z => nomatch z), (fun x z => ?_), fun p => ?_, fun b o e n1 n2 => ?_⟩
      · rw [upd_ne llb, upd_same]
        exact congrArg (fun l => some (HO.lst l)) (rg_set (g := V.int))
      · rw [upd_same]
        exact congrArg (fun l => some (HO.lst l)) (rg_set (g := oV) (x := some j))
      · cases z
        exact ⟨vl, put_at⟩
      · have := f3 p
        by_cases z : p = s.v
        · rw [z, put_at]; rw [z] at this; omega
        · rw [put_ne z]; exact this
      · rw [upd_ne n2, upd_ne n1]
        exact same_new ntt _ _ (fr b o e n1 n2)
    · have c : ¬ lv' s.v < lv' s.u + s.w := of_decide_eq_false c
      exact ⟨lv', la', r', t', now', v, _, _, _, _, rfl, h13, h23, L.idle es c, f1, f2, f3, fun b o e n1 n2 => same_new ntt _ _ (fr b o e n1 n2)⟩
  · rintro σ H2 ⟨lv', la', r', t', now', v, v4, v5, v6, v7, rfl, h1, h2, L, f1, f2, f3, fr⟩
    rw [lsv] at L
    exact ⟨_, rfl, q lv' la' r' t' now' v H2 h1 h2 L f1 f2 f3 fr⟩
def sp_ring_behind (K : PySem.W.Frag) : Sp := fun vs H Q _ => ∃ (lb sl : Addr) (n p : Nat) (st : List St3) (lv : Nat → Int) (la : Nat → Option Nat) (r t : Nat → Nat) (now : Nat), vs = [nV p, .ref lb, .ref sl] ∧ H lb = some (.lst (lasL n la)) ∧ StepsAt H sl st ∧ (∀ s ∈ st, s.u < n ∧ s.v < n) ∧ st.length ≤ 400 ∧ n ≤ 100 ∧ Lv st n st.length lv la r t now ∧ p < n ∧ r p = n ∧
  ∀ (pr : Addr) (ks : List Nat) (H' : Hp), H' pr = some (.lst (ks.map nV)) → RingOk st ks → ks.length ≤ n → Same H H' → Q (.ref pr) H'
theorem ok_ring_behind {f : Addr} {fd : FuncData} (F : Fun K "ring_behind" "ring_behind" s_ring_behind f fd) (T : Top K mg) : FnOk P w K mg base CX0 1 f fd ["place", "last", "steps"] (sp_ring_behind K) := by
  refine F.ok sc_ring_behind (fun vs H Q E h => ?_) (fun cdv A outer s H vs Q E hr h => ?_)
  · obtain ⟨lb, sl, n, p, st, lv, la, r, t, now, rfl, _⟩ := h
    rfl
  obtain ⟨lb, sl, n, p, st, lv, la, r, t, now, rfl, hlb, ⟨sv, hsl, als⟩, bd, few, n100, L, hp, hrp, q⟩ := h
  obtain ⟨c, c1, cn, cyc, hs, lt, hs0⟩ := L.ring (fun s z => (bd s z).1) hp hrp
  have lsv := als.length
  -- one step back, in the program
  have step : ∀ (k m : Nat), la (backs st la p k) = some m → ∃ s x t2, st[m]? = some s ∧ s.v = backs st la p k ∧ backs st la p (k + 1) = s.u ∧ sv[m]? = some x ∧ x = V.ref t2 ∧ H t2 = some (.tup [nV s.u, nV s.v, .int s.w]) := fun k m e => by
    obtain ⟨s, e1, e2, _⟩ := L.bk _ m e
    obtain ⟨x, ex, t2, rfl, h2⟩ := als.get e1
    refine ⟨s, _, t2, e1, e2, ?_, ex, rfl, h2⟩
    show back st la (backs st la p k) = s.u
    unfold back
    rw [e]
    dsimp only
    rw [e1]
  refine ⟨_, (pss_cons (ps_for PassesOwn.never rfl (pi_range1 (by rfl) T.m_range (pa_cons (pe_callB (call_len_seqK K rfl) (by rfl) T.m_len (by decide +kernel) (pa_cons (pv 1) pa_nil)) pa_nil)) (pg_name (i := 3) sc_ring_behind.nd rfl (Or.inl rfl))
        (pss_one (ps_set (i := 0) sc_ring_behind.nd rfl (Or.inl rfl) (pe_ix (ix_tupK K rfl) (pe_ix (ix_listK K rfl) (pv 2) (pe_ix (ix_listK K rfl) (pv 1) (pv 0) (fun _ _ => rfl)) (fun _ _ => rfl)) pe_int (fun _ _ => rfl)))))
      (pss_cons (ps_set (i := 4) sc_ring_behind.nd rfl (Or.inl rfl) (pe_lst (pa_cons (pe_ix (ix_listK K rfl) (pv 1) (pv 0) (fun _ _ => rfl)) pa_nil)))
      (pss_cons (ps_set (i := 5) sc_ring_behind.nd rfl (Or.inl rfl) (pe_ix (ix_tupK K rfl) (pe_ix (ix_listK K rfl) (pv 2) (pe_ix (ix_listK K rfl) (pv 1) (pv 0) (fun _ _ => rfl)) (fun _ _ => rfl)) pe_int (fun _ _ => rfl)))
      (pss_cons (ps_while PassesOwn.never (pt_cmpR op_ne (pv 5) (pv 0) (nomark _))
        (pss_cons (ps_expr (pe_bmK K rfl PySem.F.plainAttrs_list PySem.F.slot_list_append PySem.F.type_list_append mt_append (pv 4) (pa_cons (pe_ix (ix_listK K rfl) (pv 1) (pv 5) (fun _ _ => rfl)) pa_nil)))
      (pss_one (ps_set (i := 5) sc_ring_behind.nd rfl (Or.inl rfl) (pe_ix (ix_tupK K rfl) (pe_ix (ix_listK K rfl) (pv 2) (pe_ix (ix_listK K rfl) (pv 1) (pv 5) (fun _ _ => rfl)) (fun _ _ => rfl)) pe_int (fun _ _ => rfl))))))
      (pss_one (ps_ret (pe_revLK K rfl (pv 4)))))))), ?_⟩
  refine ⟨_, rfl, lb, _, rfl, .inl (SqL.of hlb), _, rfl, by rw [List.length_map, List.length_range]; omega, by rw [List.length_map, List.length_range]; omega, for_range (lo := 0) (n := (lasL n la).length) (fun k σ H2 => ∃ v3 v4 v5 : Option V, σ = [some (nV (backs st la p k)), some (.ref lb), some (.ref sl), v3, v4, v5] ∧ Same H H2) ⟨none, none, none, rfl, Same.refl _⟩ ?_ ?_⟩
  · rintro k σ H2 hk ⟨v3, v4, v5, rfl, s2⟩
    rw [List.length_map, List.length_range] at hk
    obtain ⟨m, em⟩ := hs0 k hk
    obtain ⟨s, x, t2, e1, e2, e3, ex, rfl, h2⟩ := step k m em
    have al : (lasL n la)[backs st la p k]? = some (nV m) := by rw [rg_at (lt k), em]; rfl
    refine ⟨_, rfl, _, rfl, _, rfl, lb, _, _, _, rfl, rfl, SqL.of (s2 _ _ hlb), atI_nat al, sl, _, _, _, rfl, rfl, SqL.of (s2 _ _ hsl), atI_nat ex, t2, _, _, _, rfl, rfl, SqT.of (s2 _ _ h2), atI_nat (j := 0) rfl, ?_⟩
    exact ⟨_, _, _, by rw [e3]; rfl, s2⟩
  rintro σ H2 ⟨v3, v4, v5, rfl, s2⟩
  have ln : (lasL n la).length = n := by rw [List.length_map, List.length_range]
  rw [ln]
  obtain ⟨m, em⟩ := hs n (Nat.le_refl _)
  obtain ⟨s, x, t2, e1, e2, e3, ex, rfl, h2⟩ := step n m em
  have al : (lasL n la)[backs st la p n]? = some (nV m) := by rw [rg_at (lt n), em]; rfl
  refine ⟨_, rfl, _, rfl, lb, _, _, _, rfl, rfl, SqL.of (s2 _ _ hlb), atI_nat al, (by show 1 ≤ sizeLine; decide), fun rl nrl => ?_⟩
  have s3 := s2.trans (same_new (o := .lst [nV m]) nrl)
  refine ⟨_, rfl, _, rfl, _, rfl, lb, _, _, _, rfl, rfl, SqL.of (s3 _ _ hlb), atI_nat al, sl, _, _, _, rfl, rfl, SqL.of (s3 _ _ hsl), atI_nat ex, t2, _, _, _, rfl, rfl, SqT.of (s3 _ _ h2), atI_nat (j := 0) rfl, ?_⟩
  refine ⟨fun z σ H4 => ∃ (j : Nat) (ks : List Nat), σ = [some (nV (backs st la p n)), some (.ref lb), some (.ref sl), v3, some (.ref rl), some (nV (backs st la p (n + 1 + j)))] ∧ H4 rl = some (.lst (ks.reverse.map nV)) ∧ ks.length = j + 1 ∧ (∀ k ∈ ks, k < st.length) ∧ stepEnd st (backs st la p (n + 1 + j)) ks = some (backs st la p n) ∧ (ks.map (wS st)).sum = needs3 st la p n (j + 1) ∧ j + 1 ≤ c ∧ z = c - (j + 1) ∧ Same H H4,
    ⟨_, 0, [m], ?_, upd_same, rfl, fun k hk => ?_, ?_, ?_, c1, rfl, s3⟩, ?_⟩
  · rw [show n + 1 + 0 = n + 1 by omega, e3]; rfl
  · obtain rfl : k = m := by simpa using hk
    exact (List.getElem?_eq_some_iff.mp e1).1
  · rw [show n + 1 + 0 = n + 1 by omega, e3, stepEnd_cons e1, if_pos rfl, e2]; rfl
  · show wS st m + 0 = 0 + need st la (backs st la p (n + 0))
    have hw : wS st m = s.w := by unfold wS; rw [e1]
    have hn : need st la (backs st la p n) = s.w := by unfold need; rw [em]; dsimp only; rw [e1]
    rw [show n + 0 = n by omega, hw, hn]
    omega
  rintro z σ H4 ⟨j, ks, rfl, hrl, lk, kl, se, sm, jc, rfl, s4⟩
  refine ⟨_, rfl, _, rfl, rfl, _, rfl, ?_⟩
  by_cases cl : backs st la p (n + 1 + j) = backs st la p n
  · rw [decide_eq_true (show nV (backs st la p (n + 1 + j)) = nV (backs st la p n) by rw [cl])]
    refine if_bl (fun z => nomatch z) (fun _ => ?_)
    refine ⟨_, rfl, rl, _, rfl, SqL.of hrl, fun r2 nr2 => ?_⟩
    refine q r2 ks _ ?_ ⟨fun z => ?_, kl, ⟨backs st la p n, by rw [cl] at se; exact se⟩, ?_⟩ (by omega) (s4.trans (same_new nr2))
    · rw [upd_same, ← List.map_reverse, List.reverse_reverse]
    · rw [z] at lk; cases lk
    · rw [sm]
      exact L.sum_pos (by omega) (by rw [show n + (j + 1) = n + 1 + j by omega]; exact cl) hs
  · rw [decide_eq_false (show ¬ nV (backs st la p (n + 1 + j)) = nV (backs st la p n) from fun y => cl (by have := V.int.inj y; omega))]
    refine if_bl (fun _ => ?_) (fun z => nomatch z)
    have jlt : j + 1 < c := by
      refine Nat.lt_of_le_of_ne jc fun y => cl ?_
      rw [show n + 1 + j = n + (j + 1) by omega, y]
      exact cyc
    refine ⟨_, fun σ' H' h => h, ?_⟩
    obtain ⟨m, em⟩ := hs (n + 1 + j) (by omega)
    obtain ⟨s, x, t2, e1, e2, e3, ex, rfl, h2⟩ := step (n + 1 + j) m em
    have al : (lasL n la)[backs st la p (n + 1 + j)]? = some (nV m) := by rw [rg_at (lt _), em]; rfl
    refine ⟨_, rfl, .inl ⟨rfl, _, SqL.of hrl⟩, _, rfl, _, rfl, lb, _, _, _, rfl, rfl, SqL.of (s4 _ _ hlb), atI_nat al, rl, _, _, rfl, rfl, hrl, by rw [List.length_map, List.length_reverse]; exact small1000 (by omega), ?_⟩
    have rl0 : H rl = none := same_none s2 nrl
    have s5 : Same H (upd H4 rl (.lst (ks.reverse.map nV ++ [nV m]))) := Same.own s4 rl0
    refine ⟨_, rfl, _, rfl, _, rfl, lb, _, _, _, rfl, rfl, SqL.of (s5 _ _ hlb), atI_nat al, sl, _, _, _, rfl, rfl, SqL.of (s5 _ _ hsl), atI_nat ex, t2, _, _, _, rfl, rfl, SqT.of (s5 _ _ h2), atI_nat (j := 0) rfl, ?_⟩
    refine ⟨c - (j + 1 + 1), by omega, j + 1, m :: ks, ?_, ?_, by rw [List.length_cons, lk], fun k hk => ?_, ?_, ?_, by omega, rfl, s5⟩
    · rw [show n + 1 + (j + 1) = n + 1 + j + 1 by omega, e3]; rfl
    · rw [upd_same, List.reverse_cons, List.map_append]; rfl
    · rcases List.mem_cons.mp hk with rfl | hk
      · exact (List.getElem?_eq_some_iff.mp e1).1
      · exact kl k hk
    · rw [show n + 1 + (j + 1) = n + 1 + j + 1 by omega, e3, stepEnd_cons e1, if_pos rfl, e2]; exact se
    · show wS st m + (ks.map (wS st)).sum = needs3 st la p n (j + 1) + need st la (backs st la p (n + (j + 1)))
      have hw : wS st m = s.w := by unfold wS; rw [e1]
      have hn : need st la (backs st la p (n + 1 + j)) = s.w := by unfold need; rw [em]; dsimp only; rw [e1]
      rw [sm, show n + (j + 1) = n + 1 + j by omega, hw, hn]
      omega
def sp_levels_or_ring (K : PySem.W.Frag) : Sp := fun vs H Q _ => ∃ (sl : Addr) (n : Nat) (st : List St3), vs = [nV n, .ref sl] ∧ StepsAt H sl st ∧ (∀ s ∈ st, s.u < n ∧ s.v < n) ∧ st.length ≤ 400 ∧ n ≤ 100 ∧
  (∀ (p ll : Addr) (lv : Nat → Int) (H' : Hp), H' p = some (.tup [.ref ll, .non]) → H' ll = some (.lst (levL n lv)) → (∀ s ∈ st, lv s.u + s.w ≤ lv s.v) → (∀ q, 0 ≤ lv q) → Same H H' → Q (.ref p) H') ∧
  ∀ (p rl : Addr) (ks : List Nat) (H' : Hp), H' p = some (.tup [.non, .ref rl]) → H' rl = some (.lst (ks.map nV)) → RingOk st ks → ks.length ≤ n → Same H H' → Q (.ref p) H'
theorem ok_levels_or_ring {f : Addr} {fd : FuncData} (F : Fun K "levels_or_ring" "levels_or_ring" s_levels_or_ring f fd) (T : Top K mg) : FnOk P w K mg base CX0 2 f fd ["many", "steps"] (sp_levels_or_ring K) := by
  obtain ⟨f_raise_levels, fd_raise_levels, F_raise_levels, b_raise_levels, m_raise_levels⟩ := T.d_raise_levels
  have G_raise_levels := ok_raise_levels (P := P) (w := w) (base := base) F_raise_levels T
  obtain ⟨f_ring_behind, fd_ring_behind, F_ring_behind, b_ring_behind, m_ring_behind⟩ := T.d_ring_behind
  have G_ring_behind := ok_ring_behind (P := P) (w := w) (base := base) F_ring_behind T
  refine F.ok sc_levels_or_ring (fun vs H Q E h => ?_) (fun cdv A outer s H vs Q E hr h => ?_)
  · obtain ⟨sl, n, st, rfl, _⟩ := h
    rfl
  obtain ⟨sl, n, st, rfl, ⟨sv, hsl, als⟩, bd, few, n100, q1, q2⟩ := h
  let R1 : TS := fun D' σ' H' => D'.rt = Q ∧ ∃ (ll lb : Addr) (lv : Nat → Int) (la : Nat → Option Nat) (r t : Nat → Nat) (now : Nat) (v : Option Nat) (v5 : Option V), σ' = [some (nV n), some (.ref sl), some (.ref ll), some (.ref lb), some (oV v), v5] ∧ H' ll = some (.lst (levL n lv)) ∧ H' lb = some (.lst (lasL n la)) ∧ Same H H' ∧ (∀ p, 0 ≤ lv p) ∧ (v = none → ∀ s ∈ st, lv s.u + s.w ≤ lv s.v) ∧ ∀ x, v = some x → x < n ∧ r x = n ∧ Lv st n st.length lv la r t now
  refine ⟨_, (pss_cons (ps_set (i := 2) sc_levels_or_ring.nd rfl (Or.inl rfl) (pe_op op_rep (pe_lst (pa_cons pe_int pa_nil)) (pv 0)))
      (pss_cons (ps_set (i := 3) sc_levels_or_ring.nd rfl (Or.inl rfl) (pe_op op_rep (pe_lst (pa_cons pe_non pa_nil)) (pv 0)))
      (pss_cons (ps_set (i := 4) sc_levels_or_ring.nd rfl (Or.inl rfl) pe_non)
      (pss_cons (ps_for PassesOwn.never rfl (pi_range1 (by rfl) T.m_range (pa_cons (pv 0) pa_nil)) (pg_name (i := 5) sc_levels_or_ring.nd rfl (Or.inl rfl))
        (pss_cons (ps_set (i := 4) sc_levels_or_ring.nd rfl (Or.inl rfl) (pe_call G_raise_levels (hr.mono (by decide)) (by rfl) m_raise_levels F_raise_levels.kp b_raise_levels .nil pass0 (pa_cons (pv 2) (pa_cons (pv 3) (pa_cons (pv 1) pa_nil)))))
      (pss_one (ps_if (pt_cmpR op_isN (pv 4) pe_non (nomark _)) (pss_one ps_break) pss_nil))))
      (PSs.to (pss_cons (ps_if (pt_cmpR op_isN (pv 4) pe_non (nomark _)) (pss_one (ps_ret (pe_tup (pa_cons (pv 2) (pa_cons pe_non pa_nil))))) pss_nil)
      (pss_one (ps_ret (pe_tup (pa_cons pe_non (pa_cons (pe_call G_ring_behind (hr.mono (by decide)) (by rfl) m_ring_behind F_ring_behind.kp b_ring_behind .nil pass0 (pa_cons (pv 4) (pa_cons (pv 3) (pa_cons (pv 1) pa_nil)))) pa_nil)))))) R1 ?tail1))))), ?_⟩
  case tail1 =>
    rintro D' σ' H1 ⟨eD, ll, lb, lv, la, r, t, now, v, v5, rfl, hll, hlb, s1, nn, f1, f2⟩
    cases v with
    | none =>
      refine ⟨_, rfl, rfl, _, rfl, if_bl (fun _ => ?_) (fun z => absurd rfl (of_decide_eq_false z))⟩
      refine ⟨_, rfl, (by show 2 ≤ sizeLine; decide), fun p np => ?_⟩
      rw [eD]
      exact q1 p ll lv _ upd_same (same_new np _ _ hll) (f1 rfl) nn (s1.trans (same_new np))
    | some x =>
      obtain ⟨xl, rx, L⟩ := f2 x rfl
      refine ⟨_, rfl, rfl, _, rfl, if_bl (fun z => absurd (of_decide_eq_true z) (fun y => nomatch y)) (fun _ => ?_)⟩
      refine ⟨_, rfl, _, rfl, _, rfl, lb, sl, n, x, st, lv, la, r, t, now, rfl, hlb, ⟨sv, s1 _ _ hsl, als.imp fun _ _ z => z.keep (TK.same s1)⟩, bd, few, n100, L, xl, rx, fun pr ks H2 hpr ring lk s2 => ⟨(by show 2 ≤ sizeLine; decide), fun p np => ?_⟩⟩
      rw [eD]
      exact q2 p pr ks _ upd_same (same_new np _ _ hpr) ring lk ((s1.trans s2).trans (same_new np))
  refine ⟨(by show 1 ≤ sizeLine; decide), fun z1 nz1 => ⟨_, rfl, z1, ((n : Nat) : Int), _, rfl, rfl, upd_same, by omega, by omega, (by show 1 * ((n : Nat) : Int).toNat ≤ sizeLine; exact little (by omega)), fun ll nll => ?_⟩⟩
  have eL : (List.replicate ((n : Nat) : Int).toNat [V.int 0]).flatten = levL n (fun _ => 0) := by
    rw [flat_rep, Int.toNat_natCast]
    exact (List.map_const' .. ▸ by rw [List.length_range] : List.replicate n (V.int 0) = (List.range n).map fun _ => V.int 0)
  rw [eL]
  refine ⟨(by show 1 ≤ sizeLine; decide), fun z2 nz2 => ⟨_, rfl, z2, ((n : Nat) : Int), _, rfl, rfl, upd_same, by omega, by omega, (by show 1 * ((n : Nat) : Int).toNat ≤ sizeLine; exact little (by omega)), fun lb nlb => ?_⟩⟩
  have eB : (List.replicate ((n : Nat) : Int).toNat [V.non]).flatten = lasL n (fun _ => none) := by
    rw [flat_rep, Int.toNat_natCast]
    exact (List.map_const' .. ▸ by rw [List.length_range] : List.replicate n V.non = (List.range n).map fun _ => V.non)
  rw [eB]
  have sA := ((same_new (o := .lst [V.int 0]) nz1).trans (same_new (o := .lst (levL n (fun _ => 0))) nll))
  have s0 : Same H _ := (sA.trans (same_new (o := .lst [V.non]) nz2)).trans (same_new (o := .lst (lasL n (fun _ => none))) nlb)
  have ll0 : H ll = none := same_none (same_new nz1) nll
  have lb0 : H lb = none := same_none (sA.trans (same_new nz2)) nlb
  have hll0 := same_new (o := .lst (lasL n (fun _ => none))) nlb _ _ (same_new (o := .lst [V.non]) nz2 _ _ (upd_same (H := upd H z1 (.lst [V.int 0])) (a := ll) (o := .lst (levL n (fun _ => 0)))))
  have llb : ll ≠ lb := ne_of_none (same_new (o := .lst [V.non]) nz2 _ _ (upd_same (H := upd H z1 (.lst [V.int 0])) (a := ll) (o := .lst (levL n (fun _ => 0))))) nlb
  have sll : sl ≠ ll := ne_of_none hsl ll0
  have slb : sl ≠ lb := ne_of_none hsl lb0
  refine ⟨_, rfl, _, rfl, by omega, by omega, for_range (lo := 0) (n := ((n : Nat) : Int).toNat) (fun i σ H2 => ∃ (lv : Nat → Int) (la : Nat → Option Nat) (r t : Nat → Nat) (now : Nat) (v : Option Nat) (v5 : Option V), σ = [some (nV n), some (.ref sl), some (.ref ll), some (.ref lb), some (oV v), v5] ∧ H2 ll = some (.lst (levL n lv)) ∧ H2 lb = some (.lst (lasL n la)) ∧ Same H H2 ∧ (∀ p, 0 ≤ lv p) ∧ Lv st (i + 1) 0 lv la r t now ∧ (∀ p, r p < i + 1) ∧ ((i = 0 ∧ v = none) ∨ ∃ x, v = some x ∧ x < n ∧ r x = i ∧ Lv st i st.length lv la r t now))
    ⟨fun _ => 0, fun _ => none, fun _ => 0, fun _ => 0, 0, none, none, rfl, hll0, upd_same, s0, (fun _ => Int.le_refl _), Lv.start, (fun _ => Nat.zero_lt_one), .inl ⟨rfl, rfl⟩⟩ ?_ ?_⟩
  · rintro i σ H2 hi ⟨lv, la, r, t, now, v, v5, rfl, hll, hlb, s, nn, L, rl, _⟩
    have hsl2 := s _ _ hsl
    refine ⟨_, rfl, _, rfl, _, rfl, ll, lb, sl, n, i + 1, st, lv, la, r, t, now, rfl, hll, hlb, ⟨sv, hsl2, als.imp fun _ _ z => z.keep (TK.same s)⟩, llb, sll, slb, bd, few, L, rl, fun lv' la' r' t' now' v' H3 h1 h2 L' f1 f2 f3 fr => ?_⟩
    have s3 : Same H H3 := fun b o e => fr b o (s _ _ e) (ne_of_none e ll0) (ne_of_none e lb0)
    have nn' : ∀ p, 0 ≤ lv' p := fun p => Int.le_trans (nn p) (f3 p)
    cases v' with
    | none =>
      refine ⟨_, rfl, rfl, _, rfl, if_bl (fun _ => ?_) (fun z => absurd rfl (of_decide_eq_false z))⟩
      exact ⟨rfl, ll, lb, lv', la', r', t', now', none, _, rfl, h1, h2, s3, nn', (fun _ => L'.feas (f1 rfl)), (fun _ z => nomatch z)⟩
    | some x =>
      obtain ⟨xl, rx⟩ := f2 x rfl
      refine ⟨_, rfl, rfl, _, rfl, if_bl (fun z => absurd (of_decide_eq_true z) (fun y => nomatch y)) (fun _ => ?_)⟩
      exact ⟨lv', la', r', t', now', some x, _, rfl, h1, h2, s3, nn', L'.next, fun p => Nat.lt_succ_of_le (L'.rl p), .inr ⟨x, rfl, xl, rx, L'⟩⟩
  · rintro σ H2 ⟨lv, la, r, t, now, v, v5, rfl, hll, hlb, s, nn, L, rl, fl⟩
    rw [Int.toNat_natCast] at fl
    rcases fl with ⟨z, rfl⟩ | ⟨x, rfl, xl, rx, L'⟩
    · exact ⟨rfl, ll, lb, lv, la, r, t, now, none, _, rfl, hll, hlb, s, nn, (fun _ s hs => absurd (bd s hs).1 (by omega)), (fun _ z => nomatch z)⟩
    · exact ⟨rfl, ll, lb, lv, la, r, t, now, some x, _, rfl, hll, hlb, s, nn, (fun z => nomatch z), fun y z => by cases z; exact ⟨xl, rx, L'⟩⟩
end
/-! ### max(xs, key=lambda x: ..), the lambda over a name of the def around it -/
/-- one answer of the lambda: in its own frame, the caller's things as they are -/
def KeyBody (X : Cx) (scope : Scope) (body : Expr) (x : Str) (KA : L2.St → Hp → Int → Int → Prop) : Prop :=
  ∀ (pins : List (Addr × Obj)) (σ : L2.St) (H : Hp) (A' : Around) (env' : Env) (E' : Value → Shared → Prop) (z : Shared) (n k : Int) (t : Tok), Inv X pins σ H z → A'.units + 1 < cLine → env'.scope = scope → env'.cells = cloFrom X.env.cells scope.names [] →
    z.heap.Ns env'.locals (fun y => ([(x, Value.int n t)] : List (Str × Value)).lookup y) → KA σ H n k → wpAny (model X.prog X.w) A' (eval body env') (fun y z' => (∃ t', y = .int k t') ∧ ∃ tk, z' = { z with toks := tk }) E' z
/-- a state that keeps all that stood -/
def Grown (s z : Shared) : Prop := ∃ (h' : Heap) (tk : Nat), z = { s with heap := h', toks := tk } ∧ ∀ b o, s.heap.get? b = some o → h'.get? b = some o
theorem Grown.refl (s : Shared) : Grown s s := ⟨s.heap, s.toks, rfl, fun _ _ e => e⟩
theorem Grown.kp {s z : Shared} (g : Grown s z) : ∀ b o, s.heap.get? b = some o → z.heap.get? b = some o := by
  obtain ⟨h', tk, rfl, k⟩ := g
  exact k
structure LamShape (params : Arguments) (body : Expr) (scope : Scope) (x : Str) : Prop where
  bnd : ∀ (q : Str) (cl : List (Str × Addr)) (pm cdv ct v : Value), bindArgs (PySem.W.kla_fn "<lambda>" q params body scope cl pm cdv ct) ⟨[v], []⟩ = pure [(x, v)]
  loc : scope.names.lookup x = some .local
  co : scope.isCoroutine = false
  gen : scope.isGenerator = false
  kind : scope.kind = .function
  cell : ∀ y ∈ scope.names, y.2 ≠ .cell
theorem lam_call {X : Cx} {pins : List (Addr × Obj)} {σ : L2.St} {H : Hp} {s z : Shared} {A' : Around} {E' : Value → Shared → Prop} {params : Arguments} {body : Expr} {scope : Scope} {x : Str} {KA : L2.St → Hp → Int → Int → Prop} {f c' : Addr} {q : Str} {pm ctv : Value} {n k : Int} {t : Tok}
    (L : LamShape params body scope x) (B : KeyBody X scope body x KA) (I : Inv X pins σ H s) (g : Grown s z) (hf : s.heap.get? f = some (PySem.W.kla_obj "<lambda>" q params body scope (cloFrom X.env.cells scope.names []) pm c' ctv)) (hc : s.heap.CodeRec (.ref c') q)
    (dep : A'.depth < recursionLimit) (un : ∀ e : Env, (A'.deeper e).units + 1 < cLine) (ka : KA σ H n k) :
    wpAny (model X.prog X.w) A' (call (.ref f) [.int n t]) (fun y z' => (∃ t', y = .int k t') ∧ Grown z z') E' z := by
  obtain ⟨h', tk, rfl, kp⟩ := g
  have hc2 : Heap.CodeRec h' (.ref c') q := by
    obtain ⟨c0, oc, vs, tq, e0, e1, e2, e3⟩ := hc
    exact ⟨c0, oc, vs, tq, e0, kp _ _ e1, e2, e3⟩
  refine wpAny_call (PySem.W.kla_callFunE dep (kp _ _ hf) rfl L.co L.gen rfl hc2 ?_)
  rw [L.bnd]
  refine wpAny_pure (wpAny_newFunctionEnv L.cell (fun y hy => ?_) (fun h1 hns hsb => ?_) L.kind)
  · rw [List.mem_singleton.mp hy]
    exact L.loc
  have grew : ∀ b o, h'.get? b = some o → h1.get? b = some o := fun b o e => hsb.extBut b o (Nat.ne_of_lt (Heap.lt_size e)) (Heap.get?_push_of_some _ e)
  have J : Inv X pins σ H { s with heap := h1, toks := tk + 1 } := I.kept fun b o e => grew b o (kp b o e)
  refine ⟨J.nolimit, PySem.W.kla_codeExpr ?_⟩
  refine wpAny_mono (B pins σ H _ _ _ { s with heap := h1, toks := tk + 1 } n k t J (un _) rfl rfl hns ka) (fun y z' r => ?_) fun _ _ e => e
  obtain ⟨e1, tk2, rfl⟩ := r
  exact ⟨e1, h1, tk2, rfl, grew⟩
def tMaxKey (K : PySem.W.Frag) (T : List (Addr × Str)) (KA : L2.St → Hp → Int → Int → Prop) (te : TE) : TE := fun σ H Q => te σ H fun v H1 => ∃ (a : Addr) (ns : List Int) (kf : Int → Int), v = .ref a ∧ SqL K H1 a (ns.map V.int) ∧ 0 < ns.length ∧ LamX.Tabs T H1 ∧
  ∀ H2, LamX.ExtN H1 H2 → LamX.Tabs T H2 → SqL K H2 a (ns.map V.int) ∧ (∀ n ∈ ns, KA σ H2 n (kf n)) ∧ ∀ m, m ∈ ns → (∀ y ∈ ns, kf y ≤ kf m) → Q (.int m) H2
theorem ints_val2 {ns : List Int} {its : List Value} (rv : Vals (ns.map V.int) its) : ∀ i v, its.toArray[i]? = some v → i < ns.length ∧ ∃ t, v = Value.int (ns.getD i 0) t := fun i v e => by
  rw [List.getElem?_toArray] at e
  have il : i < ns.length := by
    have h1 := (List.getElem?_eq_some_iff.mp e).1
    have h2 := rv.length
    rw [List.length_map] at h2
    omega
  obtain ⟨u, eu, t, ru⟩ := rv.get (i := i) (x := .int ns[i]) (by rw [List.getElem?_map, List.getElem?_eq_getElem il]; rfl)
  rw [e] at eu
  cases eu
  exact ⟨il, t, by rw [ru, List.getD_eq_getElem?_getD, List.getElem?_eq_getElem il]; rfl⟩
theorem pe_maxLam {X : Cx} (K : PySem.W.Frag) (hK : X.K = K) {T : List (Addr × Str)} {c P : Addr} {e : Expr} {te : TE} {params : Arguments} {body : Expr} {scope : Scope} {lpos kpos p pos : Pos} {x : Str} {KA : L2.St → Hp → Int → Int → Prop} {k : Nat}
    (hc : X.calm = true) (hr : Room k X.A) (hk : 2 ≤ k) (hg : Gl X "max") (hm : X.mg "max" = none) (TB : LamX.TabB X.base X.mg c P) (hcode : X.env.code = .ref c) (hT1 : (P, X.env.qual ++ "<lambda>") ∈ T) (hT2 : ∀ q ∈ T, q.1 = P → q.2 = X.env.qual ++ "<lambda>")
    (hdef : defaultsOf params X.env = ([], [])) (hfree : ∀ y ∈ scope.names, y.2 = .free → ∃ d, X.env.cells.lookup y.1 = some d) (L : LamShape params body scope x) (B : KeyBody X scope body x KA) (he : PE X e te)
    (hbt : backTo pos (starEach [e] X.env) = (false, eval e X.env) :: backTo pos (starEach [] X.env) := by rfl) (hpl : (backTo pos (starEach [e] X.env)).any (·.1) = false := by rfl) :
    PE X (.Call (.Name "max" p) [e] [⟨some "key", .Lambda params body scope lpos, kpos⟩] pos) (tMaxKey K T KA te) := by
  subst hK
  refine ⟨fun pins s σ H Q I h => ?_⟩
  have hbm : bootBuiltins ("max" : Str) = some (.builtin "max") := by decide +kernel
  refine wpAny_Call_Name_kw (ld_blt I hg hm hbm ?_)
  refine PyProof.Rows.callWith_kw ?_ hbt hpl rfl rfl
  rw [hbt]
  refine Calls.spliced_cons (thn (he.run pins s σ H _ I h) fun u s1 ⟨v, H1, I1, rv, now⟩ => Calls.spliced_nil ?_)
  obtain ⟨a, ns, kf, ev, hq, pos0, tabs, fin⟩ := now
  subst ev
  obtain rfl : u = Value.ref a := rv
  show wpAny _ _ (evalAll [(do let v ← eval (.Lambda params body scope lpos) X.env; standAt pos; pure v)]) _ _ s1
  refine wpAny_evalAll_cons (wpAny_bind (LamX.lam_make2 I1 TB hcode hT1 hT2 tabs hdef hfree fun f c' pm ctv H2 s2 I2 ext tabs2 hf nf nst hco => wpAny_bind (wpAny_standAt (wpAny_pure (wpAny_evalAll_nil ?_)))))
  obtain ⟨hq2, keys, fin⟩ := fin H2 ext tabs2
  obtain ⟨its, rvs, hl, _⟩ := I2.list hq2
  have ln : its.length = ns.length := by rw [← rvs.length, List.length_map]
  have hh := I2.ok.hd hc
  have codeR : s2.heap.CodeRec (.ref c') (X.env.qual ++ "<lambda>") := by
    obtain ⟨⟨oc, vs, tq, g1, g2, g3⟩, _⟩ := I2.hok c' _ hco
    exact ⟨c', oc, vs, tq, rfl, g1, g2, g3⟩
  have dep := hr.dp
  show wpAny _ _ (call (.builtin "max") [.ref a] [(Str.ofString "key", .ref f)]) _ _ s2
  refine PySem.call_max_walkK (PySem.W.iter_listW (A := X.A.in1) hh hl.isList fun s₂ es W st hfp hw hkp => ?_)
  refine ⟨_, _, _, _, _, _, _, Grown s2, (fun i kv _ => ∃ t, kv = Value.int (kf (ns.getD i 0)) t), (fun i j => decide (kf (ns.getD i 0) > kf (ns.getD j 0))), rfl, W, st, hfp, ?_, ⟨fun z z' g m => ?_, fun i kv z z' r _ => r, fun i vi z o Qt Et hi hP g hst hS now => ?_, fun i j ki kj z Qc Ec g ri rj now => ?_⟩, ?_, fun v z hP g => ?_⟩
  · rw [List.size_toArray, ln]; exact pos0
  · obtain ⟨h', tk, rfl, kp⟩ := g
    refine ⟨z'.heap, z'.toks, ?_, fun b o eb => m.heap b o (fun hb => ?_) (kp b o eb)⟩
    · obtain ⟨hp, gs, dr, tk2, os⟩ := z'
      obtain rfl : gs = s2.gens := m.gens
      obtain rfl : dr = s2.drawn := m.drawn
      obtain rfl : os = s2.os := m.os
      rfl
    · have lt := Heap.lt_size eb
      have sz : s₂.heap.objs.size = s2.heap.objs.size + 1 := by rw [es]; exact Heap.size_push ..
      have either : b = s₂.heap.objs.size ∨ b = s2.heap.objs.size := by simpa using hb
      rcases either with w | w
      · rw [w, sz] at lt
        exact Nat.lt_irrefl _ (Nat.lt_trans (Nat.lt_succ_self _) lt)
      · rw [w] at lt
        exact Nat.lt_irrefl _ lt
  · obtain ⟨il, t, rfl⟩ := ints_val2 rvs i vi hP
    have mem : ns.getD i 0 ∈ ns := by
      rw [List.getD_eq_getElem?_getD, List.getElem?_eq_getElem il]
      exact List.getElem_mem _
    refine wpAny_mono (lam_call L B I2 g hf codeR (show X.A.in1.depth < recursionLimit from by show X.A.depth < _; omega) (fun e => by have := hr.un; show X.A.units + 1 + 3 + 1 < cLine; omega) (keys _ mem)) (fun y z' r => ?_) fun _ _ e => e
    obtain ⟨e1, gr⟩ := r
    have kp := gr.kp
    obtain ⟨h', tk, ez, kp0⟩ := g
    obtain ⟨h2, tk2, ez2, _⟩ := gr
    have gz : Grown s2 z' := by
      subst ez
      subst ez2
      exact ⟨h2, tk2, rfl, fun b o q => kp b o (kp0 b o q)⟩
    refine now y z' gz ⟨?_, ?_⟩ (kp _ _ hS) e1 fun j k' q => q
    · obtain ⟨o1, ho1, r1⟩ := hst.1
      exact ⟨o1, kp _ _ ho1, r1⟩
    · obtain ⟨o1, ho1, r1⟩ := hst.2
      exact ⟨o1, kp _ _ ho1, r1⟩
  · exact (CmpOf.ints_gt (P := fun i kv => ∃ t, kv = Value.int (kf (ns.getD i 0)) t) (fun i => kf (ns.getD i 0)) (fun _ _ q => q)) i j ki kj z Qc Ec ri rj now
  · exact ⟨s₂.heap, s2.toks, by rw [es], hkp⟩
  · obtain ⟨h', tk, rfl, kp⟩ := g
    obtain ⟨il, t, rfl⟩ := ints_val2 rvs _ v hP
    obtain ⟨b1, b2⟩ := argBest_gt (fun i => kf (ns.getD i 0)) (its.toArray.size - 1)
    have hsz : its.toArray.size = its.length := List.size_toArray
    refine ⟨.int _, H2, I2.kept kp, ⟨_, rfl⟩, fin _ ?_ fun y hy => ?_⟩
    · rw [List.getD_eq_getElem?_getD, List.getElem?_eq_getElem il]
      exact List.getElem_mem _
    · obtain ⟨j, hj⟩ := List.getElem?_of_mem hy
      have jl := (List.getElem?_eq_some_iff.mp hj).1
      have := b2 j (by omega)
      rw [show ns.getD j 0 = y by rw [List.getD_eq_getElem?_getD, hj]; rfl] at this
      exact this
/-! ### what such lambdas say -/
/-- a name of the def around, as the lambda sees it -/
structure Sees (X : Cx) (scope : Scope) (x y : Str) (i : Nat) : Prop where
  at_ : X.N[i]? = some y
  vis : Vis X.env.scope y
  out : X.env.kindOf y ≠ some .local
  kind : scope.kind = .function
  kx : scope.names.lookup x = some .local
  ky : scope.names.lookup y = some .free
  clo : ∀ cells : List (Str × Addr), (cloFrom cells scope.names []).lookup y = some ((cells.lookup y).getD 0)
  dx : (x == ("__debug__" : Str)) = false
  dy : (y == ("__debug__" : Str)) = false
  cy : (y == ("__classdict__" : Str)) = false
theorem Sees.load {X : Cx} {scope : Scope} {x y : Str} {i : Nat} (S : Sees X scope x y i) {pins : List (Addr × Obj)} {σ : L2.St} {H : Hp} {A' : Around} {env' : Env} {E' : Value → Shared → Prop} {z : Shared} {v : V} {p : Pos} {Q : Value → Shared → Prop} (I : Inv X pins σ H z) (es : env'.scope = scope) (ec : env'.cells = cloFrom X.env.cells scope.names []) (hv : σ[i]? = some (some v))
    (h : ∀ u, RelV v u → Q u z) : wpAny (model X.prog X.w) A' (eval (.Name y p) env') Q E' z := by
  obtain ⟨m, _, look⟩ := I.loc
  obtain ⟨u, ru, l⟩ := look i y v S.at_ hv S.vis
  rcases l with ⟨l, _⟩ | ⟨_, d, hd, hc⟩
  · exact absurd l S.out
  · refine wpAny_Name (wpAny_loadName_free (c := d) (by rw [es]; exact S.kind) (show env'.scope.names.lookup y = _ by rw [es]; exact S.ky) ?_ hc (h u ru) S.cy) S.dy
    rw [ec, S.clo, hd]
    rfl
theorem Sees.arg {X : Cx} {scope : Scope} {x y : Str} {i : Nat} (S : Sees X scope x y i) {A' : Around} {env' : Env} {E' : Value → Shared → Prop} {z : Shared} {n : Int} {t : Tok} {p : Pos} {Q : Value → Shared → Prop} (es : env'.scope = scope) (ns : z.heap.Ns env'.locals (fun y => ([(x, Value.int n t)] : List (Str × Value)).lookup y))
    (h : Q (.int n t) z) : wpAny (model X.prog X.w) A' (eval (.Name x p) env') Q E' z := by
  refine wpAny_Name (wpAny_loadName_local (by rw [es]; exact S.kind) (show env'.scope.names.lookup x = _ by rw [es]; exact S.kx) ns ?_ h) S.dx
  show (match x == x with | true => some (Value.int n t) | false => none) = some (Value.int n t)
  rw [beq_self_eq_true]
/-- lambda x: y[x], y a dict -/
def kaDict (i : Nat) : L2.St → Hp → Int → Int → Prop := fun σ H n k => ∃ (d : Addr) (kvs : List (Key × V)), σ[i]? = some (some (.ref d)) ∧ H d = some (.dK kvs) ∧ valV kvs (.inl n) = some (.int k)
theorem body_dict {X : Cx} {scope : Scope} {x y : Str} {i : Nat} {p1 p2 p3 : Pos} (S : Sees X scope x y i) (ns : NoSl (.Name x p2)) : KeyBody X scope (.Subscript (.Name y p1) (.Name x p2) p3) x (kaDict i) := by
  intro pins σ H A' env' E' z n k t I un es ec nz ka
  obtain ⟨d, kvs, hd, hH, hv⟩ := ka
  refine subD_of PySem.F.slot_dict_getitem.lookup ns (S.load I es ec hd fun u ru => S.arg es nz ?_)
  obtain rfl : u = Value.ref d := ru
  obtain ⟨_, _, vals, kv, dict⟩ := dk_of I.hok hH
  obtain ⟨w', hw, rw'⟩ := RelO.some_of (v := .int k) (o := valueAt vals (.inl n)) (by rw [← hv]; exact kv.val _)
  refine ⟨dict.typeIs, wpAny_getItem_of (kV_is (k := .inl n) ⟨t, rfl⟩) dict.mapOf hw ⟨rw', _, rfl⟩⟩
/-- lambda x: y[x][1], y a tuple of tuples -/
def kaTup (K : PySem.W.Frag) (i : Nat) : L2.St → Hp → Int → Int → Prop := fun σ H n k => ∃ (a b : Addr) (xs ys : List V), σ[i]? = some (some (.ref a)) ∧ SqT K H a xs ∧ atI xs n = some (.ref b) ∧ SqT K H b ys ∧ atI ys 1 = some (.int k)
theorem tup_item {X : Cx} {pins : List (Addr × Obj)} {σ : L2.St} {H : Hp} {A' : Around} {E' : Value → Shared → Prop} {z : Shared} {a : Addr} {xs : List V} {n : Int} {t : Tok} {v : V} {Q : Value → Shared → Prop} (I : Inv X pins σ H z) (hs : SqT X.K H a xs) (hv : atI xs n = some v)
    (h : ∀ u, RelV v u → Q u z) : z.TypeIs (.ref a) "tuple" ∧ wpAny (model X.prog X.w) A' (getItem (.ref a) (.int n t)) Q E' z := by
  obtain ⟨items, rel, tup, small⟩ := I.tuple hs
  obtain ⟨j, i1, i2, i3, i4, i5⟩ := atI_get hv
  obtain ⟨u, hu, ru⟩ := rel.get i2
  have len := rel.length
  have big := line63
  exact ⟨tup.typeIs, PyProof.Rows.getItem_tuple (j := j) tup (by omega) (by omega) (by rw [List.size_toArray, ← len]; exact i1) (by simpa using hu) (h u ru)⟩
theorem body_tup {X : Cx} {scope : Scope} {x y : Str} {i j : Nat} {p1 p2 p3 p4 p5 : Pos} (S : Sees X scope x y i) (n1 : NoSl (.Name x p2)) (n2 : NoSl (.Constant (.int 1) j p4)) : KeyBody X scope (.Subscript (.Subscript (.Name y p1) (.Name x p2) p3) (.Constant (.int 1) j p4) p5) x (kaTup X.K i) := by
  intro pins σ H A' env' E' z n k t I un es ec nz ka
  obtain ⟨a, b, xs, ys, ha, hx, hb, hy, hk⟩ := ka
  refine subD_of slot_tuple_getitem.lookup n2 (subD_of slot_tuple_getitem.lookup n1 (S.load I es ec ha fun u ru => S.arg es nz ?_))
  obtain rfl : u = Value.ref a := ru
  refine tup_item I hx hb fun u2 ru2 => wpAny_Constant_int ?_
  obtain rfl : u2 = Value.ref b := ru2
  exact tup_item (I.tok _) hy hk fun u3 ru3 => ⟨ru3, _, rfl⟩
theorem free_one {names : List (Str × NameKind)} {cells : List (Str × Addr)} {y : Str} {d : Addr} (h : (names.filter fun p => p.2 == NameKind.free) = [(y, NameKind.free)]) (hd : cells.lookup y = some d) : ∀ p ∈ names, p.2 = .free → ∃ d, cells.lookup p.1 = some d := fun p hp e => by
  have : p ∈ names.filter fun p => p.2 == NameKind.free := List.mem_filter.mpr ⟨hp, by rw [e]; rfl⟩
  rw [h] at this
  rw [List.mem_singleton.mp this]
  exact ⟨d, hd⟩
theorem ExtN.tk {H H' : Hp} (e : LamX.ExtN H H') : TK H H' := fun b xs h => e b _ h (fun _ z => nomatch z)
theorem ExtN.lst {H H' : Hp} {a : Addr} {xs : List V} (e : LamX.ExtN H H') (h : H a = some (.lst xs)) : H' a = some (.lst xs) := e a _ h (fun _ z => nomatch z)
theorem ExtN.dic {H H' : Hp} {a : Addr} {kvs : List (Key × V)} (e : LamX.ExtN H H') (h : H a = some (.dK kvs)) : H' a = some (.dK kvs) := e a _ h (fun _ z => nomatch z)
theorem ExtN.flow {H H' : Hp} {f c : Addr} (e : LamX.ExtN H H') (h : Flow H f c) : Flow H' f c := by
  obtain ⟨ns, i, p, q, r, e1, e2, rest⟩ := h
  exact ⟨ns, i, p, q, r, ExtN.lst e e1, ExtN.lst e e2, rest⟩
theorem ExtN.same {H H' : Hp} (s : Same H H') : LamX.ExtN H H' := LamX.ExtN.of s
theorem tabs_same {T : List (Addr × Str)} {H H' : Hp} (t : LamX.Tabs T H) (s : Same H H') : LamX.Tabs T H' := t.ext s
theorem tabs_lst {T : List (Addr × Str)} {H : Hp} {l : Addr} {xs ys : List V} (t : LamX.Tabs T H) (h : H l = some (.lst xs)) : LamX.Tabs T (upd H l (.lst ys)) := fun p hp => by
  obtain ⟨ps, h1, h2, h3⟩ := t p hp
  have ne : ∀ b o, H b = some o → (∀ zs, o ≠ .lst zs) → upd H l (.lst ys) b = some o := fun b o e n => by
    rw [upd_ne (fun z => by rw [z, h] at e; cases e; exact n _ rfl)]
    exact e
  refine ⟨ps, ne _ _ h1 (fun _ z => nomatch z), h2, fun pos cv hc => ?_⟩
  obtain ⟨c, e1, e2⟩ := h3 pos cv hc
  exact ⟨c, e1, ne _ _ e2 (fun zs z => by unfold LamX.CodeO at z; cases z)⟩
theorem tabs_but {T : List (Addr × Str)} {H H' : Hp} {f c : Addr} (t : LamX.Tabs T H) (F : Flow H f c) (b : But f H H') : LamX.Tabs T H' := fun p hp => by
  obtain ⟨ps, h1, h2, h3⟩ := t p hp
  obtain ⟨ns, i, a, q, r, e1, _⟩ := F
  have ne : ∀ d o, H d = some o → (∀ zs, o ≠ .lst zs) → H' d = some o := fun d o e n => b d o e (fun z => by rw [z, e1] at e; cases e; exact n _ rfl)
  refine ⟨ps, ne _ _ h1 (fun _ z => nomatch z), h2, fun pos cv hc => ?_⟩
  obtain ⟨c, g1, g2⟩ := h3 pos cv hc
  exact ⟨c, g1, ne _ _ g2 (fun zs z => by unfold LamX.CodeO at z; cases z)⟩
/-- a def of which the code object is known -/
theorem ok_code {P : Program} {w : World} {K : PySem.W.Frag} {mg : Str → Option Value} {base : Heap} {x qual : Str} {st : Stmt} {f c : Addr} {fd : FuncData} {N ps : List Str} {k : Nat} {sp : Sp} (F : Fun K x qual st f fd) (hc : fd.code = .ref c) (S : FnScope N ps (defScope st)) (len : ∀ vs H Q E, sp vs H Q E → vs.length = ps.length)
    (hbody : ∀ (A : Around) (outer : List Env) (s : Shared) (H : Hp) (vs : List V) (Q : VK) (E : XK), Room k (A.deeper (envOfC qual (defScope st) s.heap.objs.size f (.ref c))) → sp vs H Q E →
      ∃ t, PSs (cxOf CX0 P w K mg base N qual (defScope st) f (.ref c) A outer s H E).nox (defBody st) t ∧ t { nx := fun _ H' => Q .non H', rt := Q } (start N vs) H) : FnOk P w K mg base CX0 (k + 1) f fd ps sp := by
  obtain ⟨kl, kd, kV, dc, pm, an, cv, ct, ks, rfl, look, cin⟩ := F.ex
  obtain rfl : cv = .ref c := hc
  refine fn_of look cin S len fun A outer s H vs Q E hr now => ?_
  obtain ⟨t, h, q⟩ := hbody A outer s H vs Q E hr now
  exact ⟨t, h.nox, q⟩
/-! ### beats: mathematics -/
def oneB (bs : List BR) (n : Nat) : Nat := match bs[n]? with | some b => b.one | none => 0
/-- the steps that belts ask for, where a by b is to be held down -/
def bstep (hs : List HR) (a b : Int) (x : BR) : St3 := ⟨x.one, x.to, b * momH hs x.one - a * (x.th.length : Int)⟩
def rmom (hs : List HR) (bs : List BR) (ns : List Nat) : Int := (ns.map fun n => momH hs (toB bs n)).sum
def rtr (bs : List BR) (ns : List Nat) : Int := (ns.map (trB bs)).sum
theorem bstep_end {hs : List HR} {bs : List BR} {a b : Int} : ∀ {ks : List Nat} {p : Nat}, stepEnd (bs.map (bstep hs a b)) p ks = wayEnd bs p ks
  | [], p => rfl
  | k :: ks, p => by
    cases e : bs[k]? with
    | none =>
      show (match (bs.map (bstep hs a b))[k]? with | some s => if s.u = p then stepEnd (bs.map (bstep hs a b)) s.v ks else none | none => none) = (match bs[k]? with | some b => if b.one = p then wayEnd bs b.to ks else none | none => none)
      rw [List.getElem?_map, e]
      rfl
    | some x =>
      rw [wayEnd_cons e, stepEnd_cons (s := bstep hs a b x) (by rw [List.getElem?_map, e]; rfl)]
      show (if x.one = p then stepEnd (bs.map (bstep hs a b)) x.to ks else none) = _
      rw [bstep_end]
theorem bstep_w {hs : List HR} {bs : List BR} {a b : Int} {k : Nat} (h : k < bs.length) : wS (bs.map (bstep hs a b)) k = b * momH hs (oneB bs k) - a * trB bs k := by
  unfold wS oneB trB
  rw [List.getElem?_map, List.getElem?_eq_getElem h]
  rfl
theorem ones_tos {hs : List HR} {bs : List BR} : ∀ {ns : List Nat} {k e : Nat}, wayEnd bs k ns = some e → (ns.map fun n => momH hs (oneB bs n)).sum + momH hs e = momH hs k + rmom hs bs ns
  | [], k, e, h => by cases h; show 0 + _ = _ + 0; omega
  | n :: ns, k, e, h => by
    cases eb : bs[n]? with
    | none =>
      have : wayEnd bs k (n :: ns) = none := by
        show (match bs[n]? with | some b => if b.one = k then wayEnd bs b.to ns else none | none => none) = none
        rw [eb]
      rw [this] at h; cases h
    | some b =>
      rw [wayEnd_cons eb] at h
      by_cases z : b.one = k
      · rw [if_pos z] at h
        have ih := ones_tos (hs := hs) h
        have e1 : oneB bs n = k := by unfold oneB; rw [eb]; exact z
        have e2 : toB bs n = b.to := by unfold toB; rw [eb]
        unfold rmom at ih ⊢
        rw [List.map_cons, List.sum_cons, List.map_cons, List.sum_cons, e1, e2]
        omega
      · rw [if_neg z] at h; cases h
theorem ring_w {hs : List HR} {bs : List BR} {a b : Int} {ks : List Nat} (lt : ∀ k ∈ ks, k < bs.length) : (ks.map (wS (bs.map (bstep hs a b)))).sum = b * (ks.map fun n => momH hs (oneB bs n)).sum - a * rtr bs ks := by
  induction ks with
  | nil => show (0 : Int) = b * 0 - a * 0; omega
  | cons k ks ih =>
    have ih := ih fun x hx => lt x (List.mem_cons_of_mem _ hx)
    unfold rtr at ih ⊢
    rw [List.map_cons, List.sum_cons, List.map_cons, List.sum_cons, List.map_cons, List.sum_cons, bstep_w (lt k (List.mem_cons_self ..)), ih, Int.mul_add, Int.mul_add]
    omega
theorem trB_nn {bs : List BR} {n : Nat} : 0 ≤ trB bs n := by
  unfold trB
  cases bs[n]? with
  | none => exact Int.le_refl _
  | some b => exact Int.natCast_nonneg _
theorem rtr_nn {bs : List BR} : ∀ {ns : List Nat}, 0 ≤ rtr bs ns
  | [] => Int.le_refl _
  | n :: ns => by
    have ih := rtr_nn (bs := bs) (ns := ns)
    have := trB_nn (bs := bs) (n := n)
    unfold rtr at ih ⊢
    rw [List.map_cons, List.sum_cons]
    omega
theorem bway_rank {bs : List BR} {rk : Nat → Int} (hr : ∀ b ∈ bs, b.th = [] → rk b.one < rk b.to) : ∀ {ns : List Nat} {k e : Nat}, wayEnd bs k ns = some e → rtr bs ns = 0 → rk k + (ns.length : Int) ≤ rk e
  | [], k, e, h, _ => by cases h; show rk k + 0 ≤ rk k; omega
  | n :: ns, k, e, h, t => by
    cases eb : bs[n]? with
    | none =>
      have : wayEnd bs k (n :: ns) = none := by
        show (match bs[n]? with | some b => if b.one = k then wayEnd bs b.to ns else none | none => none) = none
        rw [eb]
      rw [this] at h; cases h
    | some b =>
      rw [wayEnd_cons eb] at h
      by_cases z : b.one = k
      · rw [if_pos z] at h
        have t1 := trB_nn (bs := bs) (n := n)
        have t2 := rtr_nn (bs := bs) (ns := ns)
        have t3 : trB bs n + rtr bs ns = 0 := by unfold rtr at t ⊢; rw [List.map_cons, List.sum_cons] at t; exact t
        have ih := bway_rank hr h (by omega)
        have t4 : trB bs n = (b.th.length : Int) := by unfold trB; rw [eb]
        have e0 : b.th = [] := List.eq_nil_of_length_eq_zero (by omega)
        have := hr b (List.mem_of_getElem? eb) e0
        rw [z] at this
        rw [List.length_cons]
        omega
      · rw [if_neg z] at h; cases h
theorem ring_trays {bs : List BR} {rk : Nat → Int} (hr : ∀ b ∈ bs, b.th = [] → rk b.one < rk b.to) {ns : List Nat} {k : Nat} (h : wayEnd bs k ns = some k) (ne : ns ≠ []) : 0 < rtr bs ns := by
  have t := rtr_nn (bs := bs) (ns := ns)
  rcases Int.lt_or_le 0 (rtr bs ns) with z | z
  · exact z
  · have := bway_rank hr h (by omega)
    cases ns with
    | nil => exact absurd rfl ne
    | cons n ns => rw [List.length_cons] at this; omega
theorem sum_le {f : Nat → Int} {c : Int} (c0 : 0 ≤ c) (h : ∀ n, 0 ≤ f n ∧ f n ≤ c) : ∀ ns : List Nat, 0 ≤ (ns.map f).sum ∧ (ns.map f).sum ≤ c * (ns.length : Int)
  | [] => ⟨Int.le_refl _, by show (0 : Int) ≤ c * 0; omega⟩
  | n :: ns => by
    have ih := sum_le c0 h ns
    have := h n
    rw [List.map_cons, List.sum_cons, List.length_cons]
    have e : c * ((ns.length + 1 : Nat) : Int) = c * (ns.length : Int) + c := by
      rw [show ((ns.length + 1 : Nat) : Int) = (ns.length : Int) + 1 by omega, Int.mul_add, Int.mul_one]
    omega
/-- rooms whose beat is asked -/
structure BOk (hs : List HR) (bs : List BR) : Prop where
  hands : hs.length ≤ 12
  many : bs.length ≤ 20
  ends : ∀ b ∈ bs, b.one < hs.length ∧ b.to < hs.length
  mom : ∀ h ∈ hs, 0 ≤ h.mom ∧ h.mom ≤ 30
  th : ∀ b ∈ bs, b.th.length ≤ 30
  rank : ∃ rk : Nat → Int, ∀ b ∈ bs, b.th = [] → rk b.one < rk b.to
theorem BOk.momH {hs : List HR} {bs : List BR} (ok : BOk hs bs) (k : Nat) : 0 ≤ momH hs k ∧ momH hs k ≤ 30 := by
  unfold Mine.momH
  cases e : hs[k]? with
  | none => exact ⟨Int.le_refl _, by decide⟩
  | some h => exact ok.mom h (List.mem_of_getElem? e)
theorem BOk.trB {hs : List HR} {bs : List BR} (ok : BOk hs bs) (n : Nat) : 0 ≤ trB bs n ∧ trB bs n ≤ 30 := by
  unfold Mine.trB
  cases e : bs[n]? with
  | none => exact ⟨Int.le_refl _, by decide⟩
  | some b =>
    have := ok.th b (List.mem_of_getElem? e)
    exact ⟨Int.natCast_nonneg _, by show (b.th.length : Int) ≤ 30; omega⟩
theorem BOk.rmom {hs : List HR} {bs : List BR} (ok : BOk hs bs) {ns : List Nat} (l : ns.length ≤ 12) : 0 ≤ rmom hs bs ns ∧ rmom hs bs ns ≤ 360 := by
  have := sum_le (f := fun n => Mine.momH hs (toB bs n)) (by decide : (0 : Int) ≤ 30) (fun n => ok.momH _) ns
  unfold Mine.rmom
  omega
theorem BOk.rtr {hs : List HR} {bs : List BR} (ok : BOk hs bs) {ns : List Nat} (l : ns.length ≤ 12) : 0 ≤ rtr bs ns ∧ rtr bs ns ≤ 360 := by
  have := sum_le (f := Mine.trB bs) (by decide : (0 : Int) ≤ 30) (fun n => ok.trB _) ns
  unfold Mine.rtr
  omega
/-- what holds a beat up -/
def Up (hs : List HR) (bs : List BR) (a b : Int) (k : Nat) (ns : List Nat) : Prop := (ns = [] ∧ b * momH hs k = a) ∨ (ns ≠ [] ∧ wayEnd bs k ns = some k ∧ b * rmom hs bs ns = a * rtr bs ns)
/-- what holds a beat down -/
def Down (hs : List HR) (bs : List BR) (a b : Int) (lv : Nat → Int) : Prop := (∀ k, 0 ≤ lv k) ∧ (∀ h ∈ hs, b * h.mom ≤ a) ∧ ∀ x ∈ bs, lv x.one + (b * momH hs x.one - a * (x.th.length : Int)) ≤ lv x.to
structure Beat (hs : List HR) (bs : List BR) (a b : Int) (k : Nat) (ns : List Nat) : Prop where
  a0 : 0 ≤ a
  a9 : a ≤ 360
  b1 : 1 ≤ b
  b9 : b ≤ 360
  low : Nat.gcd a.toNat b.toNat = 1
  kl : k < hs.length
  nl : ∀ n ∈ ns, n < bs.length
  ln : ns.length ≤ 12
  up : Up hs bs a b k ns
  mom : ∀ h ∈ hs, b * h.mom ≤ a
theorem down_ring {hs : List HR} {bs : List BR} {a b : Int} {lv : Nat → Int} (d : Down hs bs a b lv) {ns : List Nat} {k : Nat} (lt : ∀ n ∈ ns, n < bs.length) (h : wayEnd bs k ns = some k) : b * rmom hs bs ns ≤ a * rtr bs ns := by
  have f : ∀ s ∈ bs.map (bstep hs a b), lv s.u + s.w ≤ lv s.v := fun s hs2 => by
    obtain ⟨x, hx, rfl⟩ := List.mem_map.mp hs2
    exact d.2.2 x hx
  have s := step_sum f (ks := ns) (p := k) (q := k) (by rw [bstep_end]; exact h)
  rw [ring_w lt] at s
  have o := ones_tos (hs := hs) h
  rw [show (ns.map fun n => momH hs (oneB bs n)).sum = rmom hs bs ns by omega] at s
  omega
/-- the measure: the fraction, in parts of 360 * 360 -/
def bms (a b : Int) : Int := a * 129600 / b
theorem bms_lt {a b c d : Int} (b1 : 1 ≤ b) (b9 : b ≤ 360) (d1 : 1 ≤ d) (d9 : d ≤ 360) (h : a * d < c * b) : bms a b < bms c d := by
  unfold bms
  have q := Int.mul_ediv_self_le (x := a * 129600) (k := b) (by omega)
  refine Int.lt_of_add_one_le ((Int.le_ediv_iff_mul_le (by omega)).mpr ?_)
  generalize a * 129600 / b = q0 at q
  have bd : b * d ≤ 129600 := Int.le_trans (Int.mul_le_mul b9 d9 (by omega) (by decide)) (by decide)
  have h1 : (a * d + 1) * 129600 ≤ c * b * 129600 := Int.mul_le_mul_of_nonneg_right h (by decide)
  have h2 : b * q0 * d ≤ a * 129600 * d := Int.mul_le_mul_of_nonneg_right q (by omega)
  refine Int.le_of_mul_le_mul_left (a := b) ?_ (by omega)
  have e1 : b * ((q0 + 1) * d) = b * q0 * d + b * d := by rw [Int.add_mul, Int.one_mul, Int.mul_add, Int.mul_assoc]
  have e2 : a * 129600 * d = a * d * 129600 := by rw [Int.mul_assoc, Int.mul_comm 129600 d, Int.mul_assoc]
  have e3 : c * b * 129600 = b * (c * 129600) := by rw [Int.mul_comm c b, Int.mul_assoc]
  have e4 : (a * d + 1) * 129600 = a * d * 129600 + 129600 := by rw [Int.add_mul, Int.one_mul]
  omega
theorem bms_nn {a b : Int} (a0 : 0 ≤ a) (b1 : 1 ≤ b) : 0 ≤ bms a b := Int.ediv_nonneg (by omega) (by omega)
theorem bms_le {a b : Int} (a0 : 0 ≤ a) (a9 : a ≤ 360) (b1 : 1 ≤ b) : bms a b ≤ 360 * 129600 := by
  unfold bms
  refine Int.ediv_le_of_le_mul (by omega) ?_
  have h1 : a * 129600 ≤ 360 * 129600 := Int.mul_le_mul_of_nonneg_right a9 (by decide)
  have h2 : 360 * 129600 * 1 ≤ 360 * 129600 * b := Int.mul_le_mul_of_nonneg_left b1 (by decide)
  omega
/-- a fraction without a common divisor -/
theorem low_terms {A B : Nat} (hB : 0 < B) : 0 < Nat.gcd A B ∧ 1 ≤ B / Nat.gcd A B ∧ Nat.gcd (A / Nat.gcd A B) (B / Nat.gcd A B) = 1 ∧ A / Nat.gcd A B * B = B / Nat.gcd A B * A ∧ A / Nat.gcd A B ≤ A ∧ B / Nat.gcd A B ≤ B := by
  have g := Nat.gcd_pos_of_pos_right A hB
  refine ⟨g, Nat.div_pos (Nat.le_of_dvd hB (Nat.gcd_dvd_right A B)) g, Nat.gcd_div_gcd_div_gcd_of_pos_right hB, ?_, Nat.div_le_self .., Nat.div_le_self ..⟩
  obtain ⟨x, hx⟩ := Nat.gcd_dvd_left A B
  obtain ⟨y, hy⟩ := Nat.gcd_dvd_right A B
  generalize Nat.gcd A B = d at g hx hy
  subst hx hy
  rw [Nat.mul_div_cancel_left _ g, Nat.mul_div_cancel_left _ g, Nat.mul_left_comm, Nat.mul_left_comm y d x, Nat.mul_comm x y]
/-- a ring that needs more than nothing is above the fraction -/
theorem ring_above {hs : List HR} {bs : List BR} {a b : Int} {ks : List Nat} (r : RingOk (bs.map (bstep hs a b)) ks) : ∃ k, wayEnd bs k ks = some k ∧ (∀ n ∈ ks, n < bs.length) ∧ a * rtr bs ks < b * rmom hs bs ks := by
  obtain ⟨ne, lt, ⟨p, cl⟩, pos⟩ := r
  have lt2 : ∀ n ∈ ks, n < bs.length := fun n hn => by have := lt n hn; rwa [List.length_map] at this
  rw [bstep_end] at cl
  rw [ring_w lt2] at pos
  have o := ones_tos (hs := hs) cl
  rw [show (ks.map fun n => momH hs (oneB bs n)).sum = rmom hs bs ks by omega] at pos
  exact ⟨p, cl, lt2, by omega⟩
theorem beat_next {hs : List HR} {bs : List BR} {a b : Int} {ks : List Nat} {k : Nat} {k0 : Nat} {ns0 : List Nat} (ok : BOk hs bs) (B : Beat hs bs a b k0 ns0) (cl : wayEnd bs k ks = some k) (kl : k < hs.length) (lt : ∀ n ∈ ks, n < bs.length) (ln : ks.length ≤ 12) (ne : ks ≠ []) (ab : a * rtr bs ks < b * rmom hs bs ks) :
    0 < rtr bs ks ∧ 0 ≤ rmom hs bs ks ∧ Beat hs bs (((rmom hs bs ks).toNat / Nat.gcd (rmom hs bs ks).toNat (rtr bs ks).toNat : Nat) : Int) (((rtr bs ks).toNat / Nat.gcd (rmom hs bs ks).toNat (rtr bs ks).toNat : Nat) : Int) k ks ∧
      bms a b < bms (((rmom hs bs ks).toNat / Nat.gcd (rmom hs bs ks).toNat (rtr bs ks).toNat : Nat) : Int) (((rtr bs ks).toNat / Nat.gcd (rmom hs bs ks).toNat (rtr bs ks).toNat : Nat) : Int) := by
  obtain ⟨rk, hr⟩ := ok.rank
  have t0 := ring_trays hr cl ne
  have m := ok.rmom (ns := ks) ln
  have t := ok.rtr (ns := ks) ln
  obtain ⟨A, hA⟩ : ∃ A : Nat, rmom hs bs ks = (A : Int) := ⟨(rmom hs bs ks).toNat, by omega⟩
  obtain ⟨B', hB⟩ : ∃ B : Nat, rtr bs ks = (B : Int) := ⟨(rtr bs ks).toNat, by omega⟩
  obtain ⟨g, l1, l2, l3, l4, l5⟩ := low_terms (A := A) (B := B') (by omega)
  have up : (((B' / Nat.gcd A B' : Nat) : Int)) * rmom hs bs ks = ((A / Nat.gcd A B' : Nat) : Int) * rtr bs ks := by
    rw [hA, hB, ← Int.natCast_mul, ← Int.natCast_mul, l3]
  rw [hA, hB] at ab
  rw [show (rmom hs bs ks).toNat = A by omega, show (rtr bs ks).toNat = B' by omega]
  generalize Nat.gcd A B' = d at g l1 l2 l3 l4 l5 up
  have up0 := up
  rw [hA, hB] at up0
  generalize A / d = x at l2 l3 l4 up up0
  generalize B' / d = y at l1 l2 l3 l5 up up0
  have cross : a * (y : Int) < (x : Int) * b := by
    have c1 : (B' : Int) * (a * (y : Int)) < (B' : Int) * ((x : Int) * b) := by
      have h1 : a * (B' : Int) * (y : Int) < b * (A : Int) * (y : Int) := Int.mul_lt_mul_of_pos_right ab (by omega)
      have e1 : (B' : Int) * (a * (y : Int)) = a * (B' : Int) * (y : Int) := by rw [Int.mul_left_comm, Int.mul_assoc]
      have e2 : b * (A : Int) * (y : Int) = b * ((y : Int) * (A : Int)) := by rw [Int.mul_assoc, Int.mul_comm (A : Int)]
      have e3 : (B' : Int) * ((x : Int) * b) = b * ((x : Int) * (B' : Int)) := by rw [Int.mul_comm, Int.mul_comm (x : Int) b, Int.mul_assoc]
      rw [e1, e3, ← up0, ← e2]
      exact h1
    exact Int.lt_of_mul_lt_mul_left c1 (by omega)
  refine ⟨by omega, by omega, ⟨by omega, by omega, by omega, by omega, by simpa using l2, kl, lt, ln, .inr ⟨ne, cl, up⟩, fun h hh => ?_⟩, bms_lt B.b1 B.b9 (by omega) (by omega) cross⟩
  have h1 := B.mom h hh
  have h2 : b * h.mom * (y : Int) ≤ a * (y : Int) := Int.mul_le_mul_of_nonneg_right h1 (by omega)
  refine Int.le_of_mul_le_mul_left (a := b) ?_ (by have := B.b1; omega)
  have e1 : b * ((y : Int) * h.mom) = b * h.mom * (y : Int) := by rw [Int.mul_assoc, Int.mul_comm (y : Int)]
  have e2 : b * (x : Int) = (x : Int) * b := Int.mul_comm ..
  omega
/-- a beat is no greater than another one -/
theorem beat_le {hs : List HR} {bs : List BR} {a b c d : Int} {k : Nat} {ns : List Nat} {lv : Nat → Int} (ok : BOk hs bs) (B : Beat hs bs a b k ns) (D : Down hs bs c d lv) (c0 : 0 ≤ c) : a * d ≤ c * b := by
  rcases B.up with ⟨rfl, e⟩ | ⟨ne, cl, e⟩
  · have kl := B.kl
    have : momH hs k = hs[k].mom := by unfold momH; rw [List.getElem?_eq_getElem kl]
    have h := D.2.1 hs[k] (List.getElem_mem kl)
    rw [← this] at h
    rw [← e]
    have h2 : d * momH hs k * b ≤ c * b := Int.mul_le_mul_of_nonneg_right h (by have := B.b1; omega)
    rw [Int.mul_comm (b * momH hs k) d, Int.mul_left_comm, ← Int.mul_assoc, Int.mul_comm b d, Int.mul_assoc, Int.mul_comm b, ← Int.mul_assoc]
    exact h2
  · obtain ⟨rk, hr⟩ := ok.rank
    have t0 := ring_trays hr cl ne
    have h := down_ring D B.nl cl
    refine Int.le_of_mul_le_mul_left (a := rtr bs ns) ?_ t0
    have h2 : d * rmom hs bs ns * b ≤ c * rtr bs ns * b := Int.mul_le_mul_of_nonneg_right h (by have := B.b1; omega)
    have e1 : rtr bs ns * (a * d) = d * (b * rmom hs bs ns) := by rw [e, Int.mul_comm, Int.mul_comm a d, Int.mul_assoc]
    have e2 : d * (b * rmom hs bs ns) = d * rmom hs bs ns * b := by rw [Int.mul_assoc, Int.mul_comm b]
    have e3 : rtr bs ns * (c * b) = c * rtr bs ns * b := by rw [Int.mul_left_comm, Int.mul_assoc]
    omega
theorem low_one {a b c d : Nat} (hb : 0 < b) (hd : 0 < d) (h : a * d = c * b) (l1 : Nat.gcd a b = 1) (l2 : Nat.gcd c d = 1) : a = c ∧ b = d := by
  have bd : b ∣ d := Nat.Coprime.dvd_of_dvd_mul_left (Nat.Coprime.symm l1 : Nat.Coprime b a) ⟨c, by rw [h, Nat.mul_comm]⟩
  have db : d ∣ b := Nat.Coprime.dvd_of_dvd_mul_left (Nat.Coprime.symm l2 : Nat.Coprime d c) ⟨a, by rw [← h, Nat.mul_comm]⟩
  have e := Nat.dvd_antisymm bd db
  subst e
  exact ⟨Nat.eq_of_mul_eq_mul_right hb h, rfl⟩
/-- there is one beat -/
theorem beat_one {hs : List HR} {bs : List BR} {a b c d : Int} {k k2 : Nat} {ns ns2 : List Nat} {lv lv2 : Nat → Int} (ok : BOk hs bs) (B : Beat hs bs a b k ns) (D : Down hs bs a b lv) (B2 : Beat hs bs c d k2 ns2) (D2 : Down hs bs c d lv2) : a = c ∧ b = d := by
  have h1 := beat_le ok B D2 B2.a0
  have h2 := beat_le ok B2 D B.a0
  have := B.a0
  have := B2.a0
  have := B.b1
  have := B2.b1
  obtain ⟨a', rfl⟩ : ∃ n : Nat, a = (n : Int) := ⟨a.toNat, by omega⟩
  obtain ⟨b', rfl⟩ : ∃ n : Nat, b = (n : Int) := ⟨b.toNat, by omega⟩
  obtain ⟨c', rfl⟩ : ∃ n : Nat, c = (n : Int) := ⟨c.toNat, by omega⟩
  obtain ⟨d', rfl⟩ : ∃ n : Nat, d = (n : Int) := ⟨d.toNat, by omega⟩
  have l1 := B.low
  have l2 := B2.low
  rw [Int.toNat_natCast, Int.toNat_natCast] at l1 l2
  have e : a' * d' = c' * b' := by
    have : ((a' * d' : Nat) : Int) = ((c' * b' : Nat) : Int) := by rw [Int.natCast_mul, Int.natCast_mul]; omega
    omega
  obtain ⟨x, y⟩ := low_one (by omega) (by omega) e l1 l2
  exact ⟨by rw [x], by rw [y]⟩
/-! ### beats: the program -/
/-- the table of beat_papers' code object -/
abbrev TL (PT : Addr) : List (Addr × Str) := [(PT, (("beat_papers" : Str) ++ ".<locals>.") ++ "<lambda>")]
class TabL (K : PySem.W.Frag) (mg : Str → Option Value) (base : Heap) (cT PT : outParam Addr) : Prop where
  tb : LamX.TabB base mg cT PT
  cd : ∀ (f : Addr) (fd : FuncData), Fun K "beat_papers" "beat_papers" s_beat_papers f fd → mg "beat_papers" = some (.ref f) → fd.code = .ref cT
section
variable {P : Program} {w : World} {K : PySem.W.Frag} {mg : Str → Option Value} {base : Heap}
def sp_beat_steps (K : PySem.W.Frag) : Sp := fun vs H Q _ => ∃ (r fp : Addr) (hs : List HR) (bs : List BR) (a b : Int), vs = [.ref r, .ref fp] ∧ RoomAt H r hs bs ∧ H fp = some (.tup [.int a, .int b]) ∧ BOk hs bs ∧
  ∀ (sl : Addr) (H' : Hp), StepsAt H' sl (bs.map (bstep hs a b)) → Same H H' → Q (.ref sl) H'
theorem ok_beat_steps {f : Addr} {fd : FuncData} (F : Fun K "beat_steps" "beat_steps" s_beat_steps f fd) (T : Top K mg) : FnOk P w K mg base CX0 1 f fd ["room", "fraction"] (sp_beat_steps K) := by
  refine F.ok sc_beat_steps (fun vs H Q E h => ?_) (fun cdv A outer s H vs Q E hr h => ?_)
  · obtain ⟨r, fp, hs, bs, a, b, rfl, _⟩ := h
    rfl
  obtain ⟨r, fp, hs, bs, a, b, rfl, hR, hfp, ok, q⟩ := h
  obtain ⟨ha, ba, hv, bv, er, eh, eb, alh, alb⟩ := hR.ex
  have lbv := alb.length
  have lb := ok.many
  let R1 : TS := fun D' σ' H' => D'.rt = Q ∧ H = H' ∧ σ' = [some (.ref r), some (.ref fp), some (.int a), some (.int b), some (.ref ha), some (.ref ba), none, none, none]
  refine ⟨_, (pss_cons (ps_asg (pv 1) (pg_tupK K rfl rfl (pgs_cons (pg_name (i := 2) sc_beat_steps.nd rfl (Or.inr rfl)) (pgs_cons (pg_name (i := 3) sc_beat_steps.nd rfl (Or.inr rfl)) pgs_nil))))
      (pss_cons (ps_asg (pv 0) (pg_tupK K rfl rfl (pgs_cons (pg_name (i := 4) sc_beat_steps.nd rfl (Or.inr rfl)) (pgs_cons (pg_name (i := 5) sc_beat_steps.nd rfl (Or.inl rfl)) pgs_nil))))
      (PSs.to (pss_one (ps_ret (pe_lc (own := [("giver", 6), ("taker", 7), ("things", 8)]) (g := gTup K 3 (gCons (gName 6) (gCons (gName 7) (gCons (gName 8) gNil)))) (tt := tYes) (by rfl) sc_beat_steps.nd (pi_tupK K rfl (pv 5)) (blkOk_by (own := [("giver", 6), ("taker", 7), ("things", 8)]) (N := N_beat_steps) (sc := defScope s_beat_steps) (by decide +kernel)) (fun _ _ _ _ _ => (pg_tupK K rfl rfl (pgs_cons (pg_name (i := 6) sc_beat_steps.nd rfl (Or.inl rfl)) (pgs_cons (pg_name (i := 7) sc_beat_steps.nd rfl (Or.inl rfl)) (pgs_cons (pg_name (i := 8) sc_beat_steps.nd rfl (Or.inl rfl)) pgs_nil))))) (fun _ _ _ _ _ => pts_nil) (fun _ _ _ _ _ => (pe_tup (pa_cons (pv 6) (pa_cons (pv 7) (pa_cons (pe_op op_sub (pe_op op_mul (pv 3) (pe_ix (ix_tupK K rfl) (pe_ix (ix_tupK K rfl) (pv 4) (pv 6) (fun _ _ => rfl)) pe_int (fun _ _ => rfl))) (pe_op op_mul (pv 2) (pe_callB (call_len_seqK K rfl) (by rfl) T.m_len (by decide +kernel) (pa_cons (pv 8) pa_nil)))) pa_nil)))))))) R1 ?tail1))), ?_⟩
  case' tail1 => rintro D' σ' H' ⟨eD, rfl, rfl⟩; rw [tRet, eD]
  rotate_left
  refine ⟨_, rfl, fp, _, rfl, SqT.of hfp, rfl, _, _, rfl, _, _, rfl, rfl, ?_⟩
  exact ⟨_, rfl, r, _, rfl, SqT.of er, rfl, _, _, rfl, _, _, rfl, rfl, rfl, rfl, rfl⟩
  refine ⟨_, rfl, ba, rfl, ⟨_, SqT.of eb⟩, fun D nD => lc_tup (K := K) (a := ba) (xs := bv) (fun i H5 => ∃ sv, H5 D = some (.lst sv) ∧ All2 (StepAt H5) sv ((bs.take i).map (bstep hs a b)) ∧ Same H H5) ⟨[], upd_same, .nil, same_new nD⟩ (fun i H5 _ ⟨_, _, _, s5⟩ => SqT.of (s5 _ _ eb)) ?_ ?_⟩
  · rintro i x H5 hx ⟨sv, hD, al, s5⟩
    obtain ⟨x, ebi, ⟨t, g, rfl, e1, e2⟩⟩ := alb.getL hx
    have il := (List.getElem?_eq_some_iff.mp ebi).1
    have hb := List.mem_of_getElem? ebi
    obtain ⟨l1, l2⟩ := ok.ends x hb
    have ehn : hs[x.one]? = some hs[x.one] := List.getElem?_eq_getElem l1
    obtain ⟨y, ey, ⟨t3, r3, rfl, e31, e32⟩⟩ := alh.get ehn
    have m30 := ok.mom _ (List.getElem_mem l1)
    have t30 := ok.th x hb
    have lsv := al.length
    rw [List.length_map, List.length_take] at lsv
    refine ⟨t, _, rfl, SqT.of (s5 _ _ e1), rfl, _, _, rfl, _, _, rfl, _, _, rfl, rfl, rfl, yes_in ?_⟩
    refine ⟨_, rfl, _, rfl, _, rfl, _, rfl, _, rfl, ha, _, _, _, rfl, rfl, SqT.of (s5 _ _ eh), atI_nat ey, t3, _, _, _, rfl, rfl, SqT.of (s5 _ _ e31), atI_nat (j := 1) rfl, _, _, rfl, rfl, .inr ⟨by omega, by omega⟩, ?_⟩
    refine ⟨_, rfl, _, rfl, g, _, rfl, .inr (SqT.of (s5 _ _ e2)), _, _, rfl, rfl, .inr ⟨by rw [List.length_map]; omega, by rw [List.length_map]; omega⟩, _, _, rfl, rfl, (by show 3 ≤ sizeLine; decide), fun tp ntp => ?_⟩
    have hD6 := same_new (o := .tup [nV x.one, nV x.to, V.int (b * hs[x.one].mom - a * (((x.th.map V.int).length : Nat) : Int))]) ntp _ _ hD
    have s6 := s5.trans (same_new (o := .tup [nV x.one, nV x.to, V.int (b * hs[x.one].mom - a * (((x.th.map V.int).length : Nat) : Int))]) ntp)
    refine ⟨sv, hD6, by rw [lsv]; exact small1000 (by omega), sv ++ [.ref tp], upd_same, ?_, Same.own s6 nD⟩
    rw [List.take_add_one, ebi, List.map_append]
    refine All2.snoc ⟨tp, rfl, ?_⟩ (al.imp fun _ _ z => z.keep ((TK.new ntp).trans (TK.lst hD6)))
    rw [TK.lst hD6 _ _ upd_same]
    show _ = some (HO.tup [nV x.one, nV x.to, V.int (b * momH hs x.one - a * (x.th.length : Int))])
    have : momH hs x.one = hs[x.one].mom := by unfold momH; rw [ehn]
    rw [this, List.length_map]
  · rintro H5 ⟨sv, hD, al, s5⟩
    rw [lbv, List.take_length] at al
    exact q D H5 ⟨sv, hD, al⟩ s5
def sp_ring_moments (K : PySem.W.Frag) : Sp := fun vs H Q _ => ∃ (r t : Addr) (hs : List HR) (bs : List BR) (k : Nat) (ns : List Nat), vs = [.ref r, .ref t] ∧ RoomAt H r hs bs ∧ (∀ b ∈ bs, b.to < hs.length) ∧ PairAt H t k ns ∧ k < hs.length ∧ (∀ n ∈ ns, n < bs.length) ∧ ns.length ≤ 400 ∧ ∀ H', Same H H' → Q (.int (rmom hs bs ns)) H'
theorem ok_ring_moments {f : Addr} {fd : FuncData} (F : Fun K "ring_moments" "ring_moments" s_ring_moments f fd) (T : Top K mg) : FnOk P w K mg base CX0 2 f fd ["room", "way"] (sp_ring_moments K) := by
  obtain ⟨f_moments_on, fd_moments_on, F_moments_on, b_moments_on, m_moments_on⟩ := T.d_moments_on
  have G_moments_on := ok_moments_on (P := P) (w := w) (base := base) F_moments_on T
  refine F.ok sc_ring_moments (fun vs H Q E h => ?_) (fun cdv A outer s H vs Q E hr h => ?_)
  · obtain ⟨r, t, hs, bs, k, ns, rfl, _⟩ := h
    rfl
  obtain ⟨r, t, hs, bs, k, ns, rfl, hR, hto, hp, hk, hn, ln, q⟩ := h
  refine ⟨_, (pss_one (ps_ret (pe_op op_sub (pe_call G_moments_on (hr.mono (by decide)) (by rfl) m_moments_on F_moments_on.kp b_moments_on .nil pass0 (pa_cons (pv 0) (pa_cons (pv 1) pa_nil))) (pe_ix (ix_tupK K rfl) (pe_ix (ix_tupK K rfl) (pe_ix (ix_tupK K rfl) (pv 0) pe_int (fun _ _ => rfl)) (pe_ix (ix_tupK K rfl) (pv 1) pe_int (fun _ _ => rfl)) (fun _ _ => rfl)) pe_int (fun _ _ => rfl))))), ?_⟩
  refine ⟨_, rfl, _, rfl, r, t, hs, bs, k, ns, rfl, hR, hto, hp, hk, hn, ln, fun H1 s1 => ?_⟩
  obtain ⟨ha, ba, hv, bv, er, eh, eb, alh, alb⟩ := hR.ex
  obtain ⟨g, et, eg⟩ := hp
  have ehk : hs[k]? = some hs[k] := List.getElem?_eq_getElem hk
  obtain ⟨x0, ex0, ⟨t0, r0, rfl, e01, e02⟩⟩ := alh.get ehk
  refine ⟨_, rfl, r, _, _, _, rfl, rfl, SqT.of (s1 _ _ er), atI_nat (j := 0) rfl, _, rfl, t, _, _, _, rfl, rfl, SqT.of (s1 _ _ et), atI_nat (j := 0) rfl, ha, _, _, _, rfl, rfl, SqT.of (s1 _ _ eh), atI_nat ex0, t0, _, _, _, rfl, rfl, SqT.of (s1 _ _ e01), atI_nat (j := 1) rfl, _, _, rfl, rfl, ?_⟩
  have := q _ s1
  rw [show rmom hs bs ns = momW hs bs k ns - hs[k].mom by unfold momW rmom momH; rw [ehk]; dsimp only; omega] at this
  exact this
def sp_in_least_terms (K : PySem.W.Frag) : Sp := fun vs H Q _ => ∃ (A B : Nat), vs = [.int (A : Int), .int (B : Int)] ∧ 0 < B ∧ A ≤ 360 ∧ B ≤ 360 ∧ ∀ (p : Addr) (H' : Hp), H' p = some (.tup [.int ((A / Nat.gcd A B : Nat) : Int), .int ((B / Nat.gcd A B : Nat) : Int)]) → Same H H' → Q (.ref p) H'
theorem ok_in_least_terms {f : Addr} {fd : FuncData} (F : Fun K "in_least_terms" "in_least_terms" s_in_least_terms f fd) (T : Top K mg) : FnOk P w K mg base CX0 1 f fd ["a", "b"] (sp_in_least_terms K) := by
  refine F.ok sc_in_least_terms (fun vs H Q E h => ?_) (fun cdv A outer s H vs Q E hr h => ?_)
  · obtain ⟨A, B, rfl, _⟩ := h
    rfl
  obtain ⟨A, B, rfl, hB, a9, b9, q⟩ := h
  refine ⟨_, (pss_cons (ps_par (i := 2) (j := 3) rfl sc_in_least_terms.nd rfl rfl (by decide) rfl rfl (pa_cons (pv 0) (pa_cons (pv 1) pa_nil)) (by rfl))
      (pss_cons (ps_while PassesOwn.never (pt_cmpR op_ne (pv 3) pe_int (nomark _))
        (pss_one (ps_par (i := 2) (j := 3) rfl sc_in_least_terms.nd rfl rfl (by decide) rfl rfl (pa_cons (pv 3) (pa_cons (pe_op op_mod (pv 2) (pv 3)) pa_nil)) (by rfl))))
      (pss_one (ps_ret (pe_tup (pa_cons (pe_op op_fdivW (pv 0) (pv 2)) (pa_cons (pe_op op_fdivW (pv 1) (pv 2)) pa_nil))))))), ?_⟩
  refine ⟨_, rfl, _, rfl, _, _, rfl, ?_⟩
  refine ⟨fun m σ H2 => ∃ d l : Nat, σ = [some (.int (A : Int)), some (.int (B : Int)), some (nV d), some (nV l)] ∧ Nat.gcd d l = Nat.gcd A B ∧ d ≤ 360 ∧ l ≤ 360 ∧ m = l ∧ H = H2, ⟨B, A, B, rfl, rfl, a9, b9, rfl, rfl⟩, ?_⟩
  rintro m σ H2 ⟨d, l, rfl, g, d9, l9, rfl, eH⟩
  subst eH
  refine ⟨_, rfl, rfl, _, rfl, ?_⟩
  cases m with
  | zero =>
    refine if_bl (fun z => nomatch z) (fun _ => ?_)
    rw [Nat.gcd_zero_right] at g
    have gp : 0 < Nat.gcd A B := Nat.gcd_pos_of_pos_right A hB
    have cd : CDivW ((A : Nat) : Int) ((d : Nat) : Int) := wide_div (b := 64) (by omega) (Nat.lt_of_le_of_lt (show _ ≤ 360 by omega) (by decide)) (by decide) (by decide)
    have cd2 : CDivW ((B : Nat) : Int) ((d : Nat) : Int) := cd
    refine ⟨_, rfl, _, rfl, _, _, rfl, rfl, cd, _, rfl, _, rfl, _, _, rfl, rfl, cd2, (by show 2 ≤ sizeLine; decide), fun p np => ?_⟩
    refine q p _ ?_ (same_new np)
    rw [upd_same, ← g]
    rfl
  | succ l =>
    refine if_bl (fun _ => ?_) (fun z => ?_)
    · refine ⟨_, fun σ' H' h => h, ?_⟩
      have ml : d % (l + 1) < l + 1 := Nat.mod_lt _ (Nat.succ_pos _)
      refine ⟨_, rfl, _, rfl, _, rfl, _, _, rfl, rfl, (by omega), _, _, rfl, ?_⟩
      refine ⟨d % (l + 1), ml, l + 1, d % (l + 1), rfl, ?_, l9, by omega, rfl, rfl⟩
      rw [← g, Nat.gcd_comm d, Nat.gcd_rec (l + 1) d, Nat.gcd_comm]
    · have z2 : nV (l + 1) = V.int 0 := by simpa using z
      have := V.int.inj z2
      omega
/-- what beat_papers tells -/
def Papers (hs : List HR) (bs : List BR) (H : Hp) (p : Addr) : Prop := ∃ (fp wp np : Addr) (a b : Int) (k : Nat) (ns : List Nat) (lv : Nat → Int), H p = some (.tup [.ref fp, .ref wp, .ref np]) ∧ H fp = some (.tup [.int a, .int b]) ∧ PairAt H wp k ns ∧ H np = some (.tup (levL hs.length lv)) ∧ Beat hs bs a b k ns ∧ Down hs bs a b lv
def Papers0 (H : Hp) (p : Addr) : Prop := ∃ fp np : Addr, H p = some (.tup [.ref fp, .non, .ref np]) ∧ H fp = some (.tup [.int 0, .int 1]) ∧ H np = some (.tup [])
def sp_beat_papers (K : PySem.W.Frag) (PT : Addr) : Sp := fun vs H Q _ => ∃ (r : Addr) (hs : List HR) (bs : List BR), vs = [.ref r] ∧ RoomAt H r hs bs ∧ BOk hs bs ∧ LamX.Tabs (TL PT) H ∧
  (hs = [] → ∀ (p : Addr) (H' : Hp), Papers0 H' p → LamX.ExtN H H' → LamX.Tabs (TL PT) H' → Q (.ref p) H') ∧
  (0 < hs.length → ∀ (p : Addr) (H' : Hp), Papers hs bs H' p → LamX.ExtN H H' → LamX.Tabs (TL PT) H' → Q (.ref p) H')
/-- what stands ahead of the loop of beat_papers, and behind each turn -/
def PB (hs : List HR) (bs : List BR) (r ha ba PT : Addr) (H : Hp) (a b : Int) (σ' : L2.St) (H' : Hp) : Prop := ∃ (m k : Nat) (ns : List Nat) (fp wp : Addr) (v6 v7 : V), σ' = [some (.ref r), some (.ref ha), some (.ref ba), some (nV m), some (.ref wp), some (.ref fp), some v6, some v7] ∧ H' fp = some (.tup [.int a, .int b]) ∧ PairAt H' wp k ns ∧ Beat hs bs a b k ns ∧ LamX.ExtN H H' ∧ LamX.Tabs (TL PT) H' ∧
  ((v7 = .non ∧ ∃ (ll : Addr) (lv : Nat → Int), v6 = .ref ll ∧ H' ll = some (.lst (levL hs.length lv)) ∧ Down hs bs a b lv) ∨
   ∃ (rl : Addr) (ks : List Nat), v6 = .non ∧ v7 = .ref rl ∧ H' rl = some (.lst (ks.map nV)) ∧ RingOk (bs.map (bstep hs a b)) ks ∧ ks.length ≤ hs.length)
theorem down_of {hs : List HR} {bs : List BR} {a b : Int} {k : Nat} {ns : List Nat} {lv : Nat → Int} (B : Beat hs bs a b k ns) (f : ∀ s ∈ bs.map (bstep hs a b), lv s.u + s.w ≤ lv s.v) (nn : ∀ q, 0 ≤ lv q) : Down hs bs a b lv :=
  ⟨nn, B.mom, fun x hx => f _ (List.mem_map.mpr ⟨x, hx, rfl⟩)⟩
theorem steps_bd {hs : List HR} {bs : List BR} {a b : Int} (ok : BOk hs bs) : ∀ s ∈ bs.map (bstep hs a b), s.u < hs.length ∧ s.v < hs.length := fun s hs2 => by
  obtain ⟨x, hx, rfl⟩ := List.mem_map.mp hs2
  exact ok.ends x hx
variable {cT PT : Addr} [TLI : TabL K mg base cT PT]
include TLI
theorem ok_beat_papers {f : Addr} {fd : FuncData} (F : Fun K "beat_papers" "beat_papers" s_beat_papers f fd) (hcd : fd.code = .ref cT) (T : Top K mg) : FnOk P w K mg base CX0 3 f fd ["room"] (sp_beat_papers K PT) := by
  obtain ⟨f_levels_or_ring, fd_levels_or_ring, F_levels_or_ring, b_levels_or_ring, m_levels_or_ring⟩ := T.d_levels_or_ring
  have G_levels_or_ring := ok_levels_or_ring (P := P) (w := w) (base := base) F_levels_or_ring T
  obtain ⟨f_beat_steps, fd_beat_steps, F_beat_steps, b_beat_steps, m_beat_steps⟩ := T.d_beat_steps
  have G_beat_steps := ok_beat_steps (P := P) (w := w) (base := base) F_beat_steps T
  obtain ⟨f_in_least_terms, fd_in_least_terms, F_in_least_terms, b_in_least_terms, m_in_least_terms⟩ := T.d_in_least_terms
  have G_in_least_terms := ok_in_least_terms (P := P) (w := w) (base := base) F_in_least_terms T
  obtain ⟨f_ring_moments, fd_ring_moments, F_ring_moments, b_ring_moments, m_ring_moments⟩ := T.d_ring_moments
  have G_ring_moments := ok_ring_moments (P := P) (w := w) (base := base) F_ring_moments T
  obtain ⟨f_trays_on, fd_trays_on, F_trays_on, b_trays_on, m_trays_on⟩ := T.d_trays_on
  have G_trays_on := ok_trays_on (P := P) (w := w) (base := base) F_trays_on T
  refine ok_code F hcd sc_beat_papers (fun vs H Q E h => ?_) (fun A outer s H vs Q E hr h => ?_)
  · obtain ⟨r, hs, bs, rfl, _⟩ := h
    rfl
  obtain ⟨r, hs, bs, rfl, hR, ok, tabs, q0, q1⟩ := h
  obtain ⟨ha, ba, hv, bv, er, eh, eb, alh, alb⟩ := hR.ex
  have lhv := alh.length
  have lbv := alb.length
  have lh := ok.hands
  have lb := ok.many
  have hto : ∀ b ∈ bs, b.to < hs.length := fun b hb => (ok.ends b hb).2
  let R1 : TS := fun D' σ' H' => D'.rt = Q ∧ 0 < hs.length ∧ ∃ a b : Int, PB hs bs r ha ba PT H a b σ' H'
  refine ⟨_, (pss_cons (ps_asg (pv 0) (pg_tupK K rfl rfl (pgs_cons (pg_name (i := 1) sc_beat_papers.nd rfl (Or.inr rfl)) (pgs_cons (pg_name (i := 2) sc_beat_papers.nd rfl (Or.inl rfl)) pgs_nil))))
      (pss_cons (ps_if (pt_not (pt_truthK K rfl (pv 1) (by intro _; rfl))) (pss_one (ps_ret (pe_tup (pa_cons (pe_tup (pa_cons pe_int (pa_cons pe_int pa_nil))) (pa_cons pe_non (pa_cons (pe_tup pa_nil) pa_nil)))))) pss_nil)
      (pss_cons (ps_set (i := 3) sc_beat_papers.nd rfl (Or.inl rfl) (pe_maxLam (T := TL PT) K rfl rfl hr (by decide) (by rfl) T.m_max TLI.tb rfl (List.mem_singleton.mpr rfl) (fun q hq _ => by rw [List.mem_singleton.mp hq]; rfl) rfl (free_one rfl rfl) ⟨fun _ _ _ _ _ _ => rfl, rfl, rfl, rfl, rfl, by decide⟩ (body_tup (i := 1) ⟨rfl, .inr (.inl rfl), (fun z => nomatch (show (some NameKind.cell : Option NameKind) = some NameKind.local from z)), rfl, rfl, rfl, fun _ => rfl, by decide, by decide, by decide⟩ (fun _ _ => rfl) (fun _ _ => rfl)) (pe_listRg rfl (by rfl) T.m_list (prg_1 (by rfl) T.m_range (pe_callB (call_len_seqK K rfl) (by rfl) T.m_len (by decide +kernel) (pa_cons (pv 1) pa_nil))))))
      (pss_cons (ps_set (i := 4) sc_beat_papers.nd rfl (Or.inl rfl) (pe_tup (pa_cons (pv 3) (pa_cons (pe_tup pa_nil) pa_nil))))
      (pss_cons (ps_set (i := 5) sc_beat_papers.nd rfl (Or.inl rfl) (pe_tup (pa_cons (pe_ix (ix_tupK K rfl) (pe_ix (ix_tupK K rfl) (pv 1) (pv 3) (fun _ _ => rfl)) pe_int (fun _ _ => rfl)) (pa_cons pe_int pa_nil))))
      (pss_cons (ps_asg (pe_call G_levels_or_ring (hr.mono (by decide)) (by rfl) m_levels_or_ring F_levels_or_ring.kp b_levels_or_ring .nil pass0 (pa_cons (pe_callB (call_len_seqK K rfl) (by rfl) T.m_len (by decide +kernel) (pa_cons (pv 1) pa_nil)) (pa_cons (pe_call G_beat_steps (hr.mono (by decide)) (by rfl) m_beat_steps F_beat_steps.kp b_beat_steps .nil pass0 (pa_cons (pv 0) (pa_cons (pv 5) pa_nil))) pa_nil))) (pg_tupK K rfl rfl (pgs_cons (pg_name (i := 6) sc_beat_papers.nd rfl (Or.inl rfl)) (pgs_cons (pg_name (i := 7) sc_beat_papers.nd rfl (Or.inl rfl)) pgs_nil))))
      (PSs.to (pss_cons (ps_while PassesOwn.never (pt_cmpR op_notN (pv 7) pe_non (nomark _))
        (pss_cons (ps_set (i := 4) sc_beat_papers.nd rfl (Or.inl rfl) (pe_tup (pa_cons (pe_ix (ix_tupK K rfl) (pe_ix (ix_tupK K rfl) (pv 2) (pe_ix (ix_listK K rfl) (pv 7) pe_int (fun _ _ => rfl)) (fun _ _ => rfl)) pe_int (fun _ _ => rfl)) (pa_cons (pe_callTy (call_tuple_ofK K rfl) (by rfl) T.m_tuple (by decide +kernel) (pa_cons (pv 7) pa_nil)) pa_nil))))
      (pss_cons (ps_set (i := 5) sc_beat_papers.nd rfl (Or.inl rfl) (pe_call G_in_least_terms (hr.mono (by decide)) (by rfl) m_in_least_terms F_in_least_terms.kp b_in_least_terms .nil pass0 (pa_cons (pe_call G_ring_moments (hr.mono (by decide)) (by rfl) m_ring_moments F_ring_moments.kp b_ring_moments .nil pass0 (pa_cons (pv 0) (pa_cons (pv 4) pa_nil))) (pa_cons (pe_call G_trays_on (hr.mono (by decide)) (by rfl) m_trays_on F_trays_on.kp b_trays_on .nil pass0 (pa_cons (pv 0) (pa_cons (pv 4) pa_nil))) pa_nil))))
      (pss_one (ps_asg (pe_call G_levels_or_ring (hr.mono (by decide)) (by rfl) m_levels_or_ring F_levels_or_ring.kp b_levels_or_ring .nil pass0 (pa_cons (pe_callB (call_len_seqK K rfl) (by rfl) T.m_len (by decide +kernel) (pa_cons (pv 1) pa_nil)) (pa_cons (pe_call G_beat_steps (hr.mono (by decide)) (by rfl) m_beat_steps F_beat_steps.kp b_beat_steps .nil pass0 (pa_cons (pv 0) (pa_cons (pv 5) pa_nil))) pa_nil))) (pg_tupK K rfl rfl (pgs_cons (pg_name (i := 6) sc_beat_papers.nd rfl (Or.inl rfl)) (pgs_cons (pg_name (i := 7) sc_beat_papers.nd rfl (Or.inl rfl)) pgs_nil))))))))
      (pss_one (ps_ret (pe_tup (pa_cons (pv 5) (pa_cons (pv 4) (pa_cons (pe_callTy (call_tuple_ofK K rfl) (by rfl) T.m_tuple (by decide +kernel) (pa_cons (pv 6) pa_nil)) pa_nil))))))) R1 ?tail1))))))), ?_⟩
  case tail1 =>
    rintro D' σ' H1 ⟨eD, h0, a0, b0, pb⟩
    refine ⟨fun m σ H2 => ∃ a b : Int, PB hs bs r ha ba PT H a b σ H2 ∧ m = (360 * 129600 - bms a b).toNat, ⟨_, a0, b0, pb, rfl⟩, ?_⟩
    rintro m σ H2 ⟨a, b, ⟨m1, k, ns, fp, wp, v6, v7, rfl, hfp, hwp, B, ext, tabs2, kind⟩, rfl⟩
    rcases kind with ⟨rfl, ll, lv, rfl, hll, D⟩ | ⟨rl, ks, rfl, rfl, hrl, ring, lks⟩
    · refine ⟨_, rfl, rfl, _, rfl, if_bl (fun z => nomatch z) (fun _ => ?_)⟩
      refine ⟨_, rfl, _, rfl, _, rfl, ll, _, rfl, .inl ⟨SqL.of hll, fun np nnp => ⟨(by show 3 ≤ sizeLine; decide), fun p np2 => ?_⟩⟩⟩
      have s3 := (same_new (H := H2) (o := .tup (levL hs.length lv)) nnp).trans (same_new (o := .tup [.ref fp, .ref wp, .ref np]) np2)
      rw [eD]
      exact q1 h0 p _ ⟨fp, wp, np, a, b, k, ns, lv, upd_same, s3 _ _ hfp, hwp.keep (TK.same s3), same_new np2 _ _ upd_same, B, D⟩ (ext.trans (ExtN.same s3)) (tabs_same tabs2 s3)
    · refine ⟨_, rfl, rfl, _, rfl, if_bl (fun _ => ?_) (fun z => nomatch z)⟩
      refine ⟨_, fun σ' H' h => h, ?_⟩
      obtain ⟨k2, cl, lt, ab⟩ := ring_above ring
      have ne := ring.ne
      cases ks with
      | nil => exact absurd rfl ne
      | cons n0 ks =>
      have nb := lt n0 (List.mem_cons_self ..)
      have ebn : bs[n0]? = some bs[n0] := List.getElem?_eq_getElem nb
      obtain ⟨x, ex, ⟨t2, g2, rfl, e1, e2⟩⟩ := alb.get ebn
      have eone : bs[n0].one = k2 := by
        rw [wayEnd_cons ebn] at cl
        by_cases z : bs[n0].one = k2
        · exact z
        · rw [if_neg z] at cl; cases cl
      have kl2 : k2 < hs.length := eone ▸ (ok.ends _ (List.getElem_mem nb)).1
      have T2 := ExtN.tk ext
      refine ⟨_, rfl, _, rfl, rl, _, _, _, rfl, rfl, SqL.of hrl, atI_nat (j := 0) rfl, ba, _, _, _, rfl, rfl, SqT.of (T2 _ _ eb), atI_nat ex, t2, _, _, _, rfl, rfl, SqT.of (T2 _ _ e1), atI_nat (j := 0) rfl, _, rfl, rl, _, rfl, .inl ⟨SqL.of hrl, fun tp ntp => ⟨(by show 2 ≤ sizeLine; decide), fun wp2 nwp2 => ?_⟩⟩⟩
      rw [eone]
      have s3 := (same_new (H := H2) (o := .tup ((n0 :: ks).map nV)) ntp).trans (same_new (o := .tup [nV k2, .ref tp]) nwp2)
      have ln12 : (n0 :: ks).length ≤ 12 := by omega
      obtain ⟨t0, m0, B2, lt2⟩ := beat_next ok B cl kl2 lt ln12 ne ab
      have mB := ok.rmom (ns := n0 :: ks) ln12
      have tB := ok.rtr (ns := n0 :: ks) ln12
      have pw : PairAt (upd (upd H2 tp (.tup ((n0 :: ks).map nV))) wp2 (.tup [nV k2, .ref tp])) wp2 k2 (n0 :: ks) := ⟨tp, upd_same, same_new nwp2 _ _ upd_same⟩
      have hR3 := (hR.keep T2).keep (TK.same s3)
      refine ⟨_, rfl, _, rfl, r, wp2, hs, bs, k2, n0 :: ks, rfl, hR3, hto, pw, kl2, lt, by omega, fun H4 s4 => ?_⟩
      refine ⟨_, rfl, _, rfl, r, wp2, hs, bs, k2, n0 :: ks, rfl, hR3.keep (TK.same s4), pw.keep (TK.same s4), lt, by omega, fun H5 s5 => ?_⟩
      refine ⟨(rmom hs bs (n0 :: ks)).toNat, (rtr bs (n0 :: ks)).toNat, ?_, by omega, by omega, by omega, fun p H6 hp s6 => ?_⟩
      · rw [Int.toNat_of_nonneg mB.1, Int.toNat_of_nonneg tB.1]; rfl
      have s36 := s3.trans ((s4.trans s5).trans s6)
      have hR6 := hR3.keep (TK.same ((s4.trans s5).trans s6))
      have pw6 := pw.keep (TK.same ((s4.trans s5).trans s6))
      refine ⟨_, rfl, ha, _, rfl, .inr (SqT.of (s36 _ _ (T2 _ _ eh))), _, rfl, _, rfl, r, p, hs, bs, _, _, rfl, hR6, hp, ok, fun sl H7 hst s7 => ⟨sl, hs.length, _, by rw [lhv]; rfl, hst, steps_bd ok, by rw [List.length_map]; omega, by omega, fun q2 ll lv H8 hq hll f nn s8 => ?_, fun q2 rl ks2 H8 hq hrl ring lk s8 => ?_⟩⟩
      all_goals have s68 := s7.trans s8
      all_goals have bb := B2
      all_goals have x1 := bms_le B2.a0 B2.a9 B2.b1
      · exact ⟨q2, _, rfl, SqT.of hq, rfl, _, _, rfl, _, _, rfl, rfl, _, (by omega), _, _, ⟨m1, k2, n0 :: ks, p, wp2, _, _, rfl, s68 _ _ hp, pw6.keep (TK.same s68), B2, ext.trans (ExtN.same (s36.trans s68)), tabs_same tabs2 (s36.trans s68), .inl ⟨rfl, ll, lv, rfl, hll, down_of B2 f nn⟩⟩, rfl⟩
      · exact ⟨q2, _, rfl, SqT.of hq, rfl, _, _, rfl, _, _, rfl, rfl, _, (by omega), _, _, ⟨m1, k2, n0 :: ks, p, wp2, _, _, rfl, s68 _ _ hp, pw6.keep (TK.same s68), B2, ext.trans (ExtN.same (s36.trans s68)), tabs_same tabs2 (s36.trans s68), .inr ⟨rl, ks2, rfl, rfl, hrl, ring, lk⟩⟩, rfl⟩
  refine ⟨_, rfl, r, _, rfl, SqT.of er, rfl, _, _, rfl, _, _, rfl, rfl, ?_⟩
  refine ⟨_, rfl, _, .inr (.inl ⟨_, SqT.of eh, rfl⟩), if_bl (fun z => ?_) (fun z => ?_)⟩
  · have e0 : hs = [] := by
      cases hv with
      | nil => exact List.eq_nil_of_length_eq_zero lhv.symm
      | cons x l => exact nomatch z
    refine ⟨(by show 2 ≤ sizeLine; decide), fun p1 np1 => ⟨(by show 0 ≤ sizeLine; decide), fun p2 np2 => ⟨(by show 3 ≤ sizeLine; decide), fun p np => ?_⟩⟩⟩
    have s3 := ((same_new (H := H) (o := .tup [.int 0, .int 1]) np1).trans (same_new (o := .tup []) np2)).trans (same_new (o := .tup [.ref p1, .non, .ref p2]) np)
    exact q0 e0 p _ ⟨p1, p2, upd_same, same_new np _ _ (same_new np2 _ _ upd_same), same_new np _ _ upd_same⟩ (ExtN.same s3) (tabs_same tabs s3)
  have h0 : 0 < hs.length := by
    cases hv with
    | nil => exact nomatch z
    | cons x l => rw [← lhv]; exact Nat.succ_pos _
  refine ⟨_, rfl, ha, _, rfl, .inr (SqT.of eh), _, rfl, ⟨by omega, by omega, by omega, by omega, by omega⟩, fun rg nrg => ?_⟩
  have erg : rgV 0 ((hv.length : Nat) : Int) = ((List.range hs.length).map fun i => ((i : Nat) : Int)).map V.int := by
    unfold rgV
    rw [List.map_map, show (((hv.length : Nat) : Int) - 0).toNat = hs.length by omega]
    refine List.map_congr_left fun i _ => ?_
    show V.int (0 + ((i : Nat) : Int)) = V.int ((i : Nat) : Int)
    rw [Int.zero_add]
  have hrg : upd H rg (.lst (rgV 0 ((hv.length : Nat) : Int))) rg = some (.lst (((List.range hs.length).map fun i => ((i : Nat) : Int)).map V.int)) := by rw [upd_same, erg]
  have s1 := same_new (H := H) (o := .lst (rgV 0 ((hv.length : Nat) : Int))) nrg
  refine ⟨rg, (List.range hs.length).map fun i => ((i : Nat) : Int), fun z => momH hs z.toNat, rfl, SqL.of hrg, by rw [List.length_map, List.length_range]; exact h0, tabs_same tabs s1, fun H3 ext tabs3 => ⟨SqL.of (ExtN.lst ext hrg), fun n hn => ?_, fun m hm hg => ?_⟩⟩
  · obtain ⟨j, hj, rfl⟩ := List.mem_map.mp hn
    have jl := List.mem_range.mp hj
    have ehj : hs[j]? = some hs[j] := List.getElem?_eq_getElem jl
    obtain ⟨x0, ex0, ⟨t0, r0, rfl, e01, e02⟩⟩ := alh.get ehj
    refine ⟨ha, t0, hv, _, rfl, SqT.of (ExtN.tk ext _ _ (s1 _ _ eh)), atI_nat ex0, SqT.of (ExtN.tk ext _ _ (s1 _ _ e01)), ?_⟩
    show atI [V.ref r0, V.int hs[j].mom] 1 = some (V.int (momH hs ((j : Nat) : Int).toNat))
    rw [Int.toNat_natCast, show momH hs j = hs[j].mom by unfold momH; rw [ehj]]
    exact atI_nat (j := 1) rfl
  · obtain ⟨e, he, rfl⟩ := List.mem_map.mp hm
    have el := List.mem_range.mp he
    have ehj : hs[e]? = some hs[e] := List.getElem?_eq_getElem el
    obtain ⟨x0, ex0, ⟨t0, r0, rfl, e01, e02⟩⟩ := alh.get ehj
    have ex2 : LamX.ExtN H H3 := (ExtN.same s1).trans ext
    have T3 := ExtN.tk ex2
    have emo : momH hs e = hs[e].mom := by unfold momH; rw [ehj]
    have mo := ok.mom _ (List.getElem_mem el)
    have B : Beat hs bs hs[e].mom 1 e [] := ⟨mo.1, by omega, by omega, by omega, Nat.gcd_one_right _, el, (fun _ z => nomatch z), by show 0 ≤ 12; decide, .inl ⟨rfl, by rw [emo]; omega⟩, fun h hh => by
      obtain ⟨j, hj⟩ := List.getElem?_of_mem hh
      have jl := (List.getElem?_eq_some_iff.mp hj).1
      have : momH hs ((j : Nat) : Int).toNat ≤ momH hs ((e : Nat) : Int).toNat := hg ((j : Nat) : Int) (List.mem_map.mpr ⟨j, List.mem_range.mpr jl, rfl⟩)
      rw [Int.toNat_natCast, Int.toNat_natCast, emo] at this
      have : momH hs j = h.mom := by unfold momH; rw [hj]
      omega⟩
    refine ⟨_, rfl, (by show 0 ≤ sizeLine; decide), fun tp ntp => ⟨(by show 2 ≤ sizeLine; decide), fun wp nwp => ?_⟩⟩
    have s4 := (same_new (H := H3) (o := .tup []) ntp).trans (same_new (o := .tup [nV e, .ref tp]) nwp)
    have pw : PairAt (upd (upd H3 tp (.tup [])) wp (.tup [nV e, .ref tp])) wp e [] := ⟨tp, upd_same, same_new nwp _ _ upd_same⟩
    refine ⟨_, rfl, _, rfl, ha, _, _, _, rfl, rfl, SqT.of (s4 _ _ (T3 _ _ eh)), atI_nat ex0, t0, _, _, _, rfl, rfl, SqT.of (s4 _ _ (T3 _ _ e01)), atI_nat (j := 1) rfl, (by show 2 ≤ sizeLine; decide), fun fp nfp => ?_⟩
    have s5 := same_new (o := .tup [.int hs[e].mom, .int 1]) nfp
    have s45 := s4.trans s5
    refine ⟨_, rfl, ha, _, rfl, .inr (SqT.of (s45 _ _ (T3 _ _ eh))), _, rfl, _, rfl, r, fp, hs, bs, _, _, rfl, (hR.keep T3).keep (TK.same s45), upd_same, ok, fun sl H7 hst s7 => ⟨sl, hs.length, _, by rw [lhv]; rfl, hst, steps_bd ok, by rw [List.length_map]; omega, by omega, fun q2 ll lv H8 hq hll f nn s8 => ?_, fun q2 rl ks2 H8 hq hrl ring lk s8 => ?_⟩⟩
    all_goals have s68 := s7.trans s8
    all_goals have s48 := s45.trans s68
    · exact ⟨q2, _, rfl, SqT.of hq, rfl, _, _, rfl, _, _, rfl, rfl, rfl, h0, _, _, e, e, [], fp, wp, _, _, rfl, s68 _ _ upd_same, (pw.keep (TK.same s5)).keep (TK.same s68), B, ex2.trans (ExtN.same s48), tabs_same tabs3 s48, .inl ⟨rfl, ll, lv, rfl, hll, down_of B f nn⟩⟩
    · exact ⟨q2, _, rfl, SqT.of hq, rfl, _, _, rfl, _, _, rfl, rfl, rfl, h0, _, _, e, e, [], fp, wp, _, _, rfl, s68 _ _ upd_same, (pw.keep (TK.same s5)).keep (TK.same s68), B, ex2.trans (ExtN.same s48), tabs_same tabs3 s48, .inr ⟨rl, ks2, rfl, rfl, hrl, ring, lk⟩⟩
def sp_beat (K : PySem.W.Frag) (PT : Addr) : Sp := fun vs H Q _ => ∃ (r : Addr) (hs : List HR) (bs : List BR), vs = [.ref r] ∧ RoomAt H r hs bs ∧ BOk hs bs ∧ LamX.Tabs (TL PT) H ∧
  (hs = [] → ∀ (p : Addr) (H' : Hp), H' p = some (.tup [.int 0, .int 1]) → LamX.ExtN H H' → LamX.Tabs (TL PT) H' → Q (.ref p) H') ∧
  (0 < hs.length → ∀ (p : Addr) (a b : Int) (k : Nat) (ns : List Nat) (lv : Nat → Int) (H' : Hp), H' p = some (.tup [.int a, .int b]) → Beat hs bs a b k ns → Down hs bs a b lv → LamX.ExtN H H' → LamX.Tabs (TL PT) H' → Q (.ref p) H')
theorem ok_beat {f : Addr} {fd : FuncData} (F : Fun K "beat" "beat" s_beat f fd) (T : Top K mg) : FnOk P w K mg base CX0 4 f fd ["room"] (sp_beat K PT) := by
  obtain ⟨f_beat_papers, fd_beat_papers, F_beat_papers, b_beat_papers, m_beat_papers⟩ := T.d_beat_papers
  have G_beat_papers := ok_beat_papers (P := P) (w := w) (base := base) F_beat_papers (TLI.cd _ _ F_beat_papers m_beat_papers) T
  refine F.ok sc_beat (fun vs H Q E h => ?_) (fun cdv A outer s H vs Q E hr h => ?_)
  · obtain ⟨r, hs, bs, rfl, _⟩ := h
    rfl
  obtain ⟨r, hs, bs, rfl, hR, ok, tabs, q0, q1⟩ := h
  refine ⟨_, (pss_cons (ps_asg (pe_call G_beat_papers (hr.mono (by decide)) (by rfl) m_beat_papers F_beat_papers.kp b_beat_papers .nil pass0 (pa_cons (pv 0) pa_nil)) (pg_tupK K rfl rfl (pgs_cons (pg_name (i := 1) sc_beat.nd rfl (Or.inl rfl)) (pgs_cons (pg_name (i := 2) sc_beat.nd rfl (Or.inl rfl)) (pgs_cons (pg_name (i := 3) sc_beat.nd rfl (Or.inl rfl)) pgs_nil)))))
      (pss_one (ps_ret (pv 1)))), ?_⟩
  refine ⟨_, rfl, r, hs, bs, rfl, hR, ok, tabs, fun h0 p H1 pp ext tb => ?_, fun h0 p H1 pp ext tb => ?_⟩
  · obtain ⟨fp, np, hp, hfp, hnp⟩ := pp
    exact ⟨p, _, rfl, SqT.of hp, rfl, _, _, rfl, _, _, rfl, _, _, rfl, rfl, _, rfl, q0 h0 fp H1 hfp ext tb⟩
  · obtain ⟨fp, wp, np, a, b, k, ns, lv, hp, hfp, hwp, hnp, B, D⟩ := pp
    exact ⟨p, _, rfl, SqT.of hp, rfl, _, _, rfl, _, _, rfl, _, _, rfl, rfl, _, rfl, q1 h0 fp a b k ns lv H1 hfp B D ext tb⟩
end
section
variable {P : Program} {w : World} {K : PySem.W.Frag} {mg : Str → Option Value} {base : Heap}
def sp_holder (K : PySem.W.Frag) (PT : Addr) : Sp := fun vs H Q _ => ∃ (r : Addr) (hs : List HR) (bs : List BR), vs = [.ref r] ∧ RoomAt H r hs bs ∧ BOk hs bs ∧ LamX.Tabs (TL PT) H ∧
  (hs = [] → ∀ (H' : Hp), LamX.ExtN H H' → LamX.Tabs (TL PT) H' → Q .non H') ∧
  (0 < hs.length → ∀ (p : Addr) (a b : Int) (k : Nat) (ns : List Nat) (lv : Nat → Int) (H' : Hp), PairAt H' p k ns → Beat hs bs a b k ns → Down hs bs a b lv → LamX.ExtN H H' → LamX.Tabs (TL PT) H' → Q (.ref p) H')
variable {cT PT : Addr} [TLI : TabL K mg base cT PT]
include TLI
theorem ok_holder {f : Addr} {fd : FuncData} (F : Fun K "holder" "holder" s_holder f fd) (T : Top K mg) : FnOk P w K mg base CX0 4 f fd ["room"] (sp_holder K PT) := by
  obtain ⟨f_beat_papers, fd_beat_papers, F_beat_papers, b_beat_papers, m_beat_papers⟩ := T.d_beat_papers
  have G_beat_papers := ok_beat_papers (P := P) (w := w) (base := base) F_beat_papers (TLI.cd _ _ F_beat_papers m_beat_papers) T
  refine F.ok sc_holder (fun vs H Q E h => ?_) (fun cdv A outer s H vs Q E hr h => ?_)
  · obtain ⟨r, hs, bs, rfl, _⟩ := h
    rfl
  obtain ⟨r, hs, bs, rfl, hR, ok, tabs, q0, q1⟩ := h
  refine ⟨_, (pss_cons (ps_asg (pe_call G_beat_papers (hr.mono (by decide)) (by rfl) m_beat_papers F_beat_papers.kp b_beat_papers .nil pass0 (pa_cons (pv 0) pa_nil)) (pg_tupK K rfl rfl (pgs_cons (pg_name (i := 1) sc_holder.nd rfl (Or.inl rfl)) (pgs_cons (pg_name (i := 2) sc_holder.nd rfl (Or.inl rfl)) (pgs_cons (pg_name (i := 3) sc_holder.nd rfl (Or.inl rfl)) pgs_nil)))))
      (pss_one (ps_ret (pv 2)))), ?_⟩
  refine ⟨_, rfl, r, hs, bs, rfl, hR, ok, tabs, fun h0 p H1 pp ext tb => ?_, fun h0 p H1 pp ext tb => ?_⟩
  · obtain ⟨fp, np, hp, hfp, hnp⟩ := pp
    exact ⟨p, _, rfl, SqT.of hp, rfl, _, _, rfl, _, _, rfl, _, _, rfl, rfl, _, rfl, q0 h0 H1 ext tb⟩
  · obtain ⟨fp, wp, np, a, b, k, ns, lv, hp, hfp, hwp, hnp, B, D⟩ := pp
    exact ⟨p, _, rfl, SqT.of hp, rfl, _, _, rfl, _, _, rfl, _, _, rfl, rfl, _, rfl, q1 h0 wp a b k ns lv H1 hwp B D ext tb⟩
end
/-! ### slices and sums of tuples, whatever they are -/
theorem slA_of {K : PySem.W.Frag} {H : Hp} {a : Addr} {xs : List V} {lo hi : Option Int} {Q : VK} (h : H a = some (.tup xs)) (k : ∀ (p : Addr) (H' : Hp), H' p = some (.tup (cutV xs lo hi)) → Same H H' → Q (.ref p) H') : rSlA K (.ref a) lo hi H Q := by
  refine ⟨a, xs, rfl, SqT.of h, fun z => k a H ?_ (Same.refl _), fun _ p np => k p _ upd_same (same_new np)⟩
  unfold cutV
  rw [z.1, z.2, List.drop_zero, Nat.sub_zero, List.take_length]
  exact h
theorem catA_of {K : PySem.W.Frag} {H : Hp} {a b : Addr} {xs ys : List V} {Q : VK} (h : H a = some (.tup xs)) (g : H b = some (.tup ys)) (l : xs.length + ys.length ≤ 1000) (k : ∀ (p : Addr) (H' : Hp), H' p = some (.tup (xs ++ ys)) → Same H H' → Q (.ref p) H') : rCatA K (.ref a) (.ref b) H Q := by
  refine ⟨a, b, xs, ys, rfl, rfl, SqT.of h, SqT.of g, little l, fun e => k b H ?_ (Same.refl _), fun _ e => k a H ?_ (Same.refl _), fun _ _ p np => k p _ upd_same (same_new np)⟩
  · rw [e]; exact g
  · rw [e, List.append_nil]; exact h
theorem cut_take (xs : List V) (k : Nat) : cutV xs none (some ((k : Nat) : Int)) = xs.take k := by
  unfold cutV
  rw [HT.sIx_nat, HT.sIx_none, List.drop_zero, Nat.sub_zero]
  by_cases h : k ≤ xs.length
  · rw [Nat.min_eq_left h]
  · rw [Nat.min_eq_right (by omega), List.take_length, List.take_of_length_le (by omega)]
theorem cut_part {xs : List V} {lo hi : Option Int} : ∀ x ∈ cutV xs lo hi, x ∈ xs := fun x hx => List.mem_of_mem_drop (List.mem_of_mem_take hx)
theorem cut_nats {ns : List Nat} {lo hi : Option Int} : ∃ ms : List Nat, cutV (ns.map nV) lo hi = ms.map nV ∧ ms.length ≤ ns.length ∧ ∀ x ∈ ms, x ∈ ns := by
  refine ⟨(ns.drop (HT.sIx (ns.map nV).length 0 lo)).take (HT.sIx (ns.map nV).length (ns.map nV).length hi - HT.sIx (ns.map nV).length 0 lo), ?_, ?_, fun x hx => List.mem_of_mem_drop (List.mem_of_mem_take hx)⟩
  · unfold cutV
    rw [List.map_take, List.map_drop]
  · rw [List.length_take, List.length_drop]
    omega
theorem op_notB {X : Cx} : OpR X (compareOp .IsNot) (fun x y H Q => ∃ a b : Bool, x = .bl a ∧ y = .bl b ∧ Q (.bl (!decide (a = b))) H) := by
  intro pins s σ H x y v u Q I rx ry h
  obtain ⟨a, b, rfl, rfl, q⟩ := h
  obtain rfl : v = Value.bool a := rx
  obtain rfl : u = Value.bool b := ry
  exact wpAny_isNot_plain rfl (fin_bl I q (by cases a <;> cases b <;> rfl))
theorem op_isB {X : Cx} : OpR X (compareOp .Is) (fun x y H Q => ∃ a b : Bool, x = .bl a ∧ y = .bl b ∧ Q (.bl (decide (a = b))) H) := by
  intro pins s σ H x y v u Q I rx ry h
  obtain ⟨a, b, rfl, rfl, q⟩ := h
  obtain rfl : v = Value.bool a := rx
  obtain rfl : u = Value.bool b := ry
  exact wpAny_is_plain rfl (fin_bl I q (by cases a <;> cases b <;> rfl))
/-! ### a tuple times 0 or 1: nothing, or itself -/
/-- an object of the tuple type, with these items -/
abbrev TupO (its : List Value) (n : Nat) (dd : Option Addr) (sl : Array (Option Value)) : Obj := { cls := .type "tuple", dict := dd, data := .seq its.toArray n, slots := sl }
theorem once_tup (l : Addr) (its : List Value) (n : Nat) (dd : Option Addr) (sl : Array (Option Value)) (u : Tok) :
    PySem.Meets (Builtin.«tuple.__mul__» ⟨[.ref l, .int 1 u], []⟩) (fun _ R z => z.heap.get? l = some (TupO its n dd sl) ∧ R (.ok (.ret (Value.ref l))) z) := by
  refine .of_wp fun prog w A R z hz => ?_
  obtain ⟨zh, zg, zd, zt, zo⟩ := z
  have at_l := hz.1
  have read := AutoSeq1.idx_int
  wp_walk using wpAny_loadPart' at_l
  exact ⟨_, rfl, hz.2⟩
theorem none_tup (l : Addr) (x : Value) (its : List Value) (n : Nat) (dd : Option Addr) (sl : Array (Option Value)) (u : Tok) :
    PySem.Meets (Builtin.«tuple.__mul__» ⟨[.ref l, .int 0 u], []⟩) (fun _ R z => z.heap.get? l = some (TupO (x :: its) n dd sl) ∧ R (.ok (.ret (Value.ref z.heap.objs.size))) { z with heap := z.heap.push { cls := Value.type "tuple", data := Data.seq #[] }, toks := z.toks }) := by
  refine .of_wp fun prog w A R z hz => ?_
  obtain ⟨zh, zg, zd, zt, zo⟩ := z
  have at_l := hz.1
  have read := AutoSeq1.idx_int
  wp_walk using wpAny_loadPart' at_l
  exact ⟨_, rfl, hz.2⟩
def rRep01 (K : PySem.W.Frag) : R2 := fun x y H Q => ∃ l k xs, x = .ref l ∧ y = .int k ∧ SqT K H l xs ∧ xs ≠ [] ∧ (k = 0 ∨ k = 1) ∧ (k = 1 → Q (.ref l) H) ∧ (k = 0 → ∀ p, H p = none → Q (.ref p) (upd H p (.tup [])))
section
variable {X : Cx}
/-- the operator comes to the tuple's own method -/
theorem mul_to_own {z : Shared} {l : Addr} {k : Int} {t : Tok} {its : List Value} {n : Nat} {dd : Option Addr} {sl : Array (Option Value)} {pins : List (Addr × Obj)} {σ : L2.St} {Q : VK} (o : z.heap.get? l = some (TupO its n dd sl))
    (go : wpAny (model X.prog X.w) X.A (PySem.call (.builtin "tuple.__mul__") [.ref l, .int k t]) (EP X pins σ Q) X.xe z) : wpAny (model X.prog X.w) X.A (binaryOp .Mult (.ref l) (.int k t)) (EP X pins σ Q) X.xe z :=
  PySem.wpAny_binaryOp_repeat_ref (T := "tuple") (U := "int") (by decide) ⟨_, o, rfl⟩ (PySem.typeIs_int · k t) noFill_tuple_mul PySem.F.fills_int_mul PySem.F.slot_int_rmul repeat_tuple PySem.F.slot_int_index.lookup
    (PySem.call_meets PySem.F.slot_int_rmul (PySem.typeIs_int z k t) PySem.F.entry_int_rmul (PySem.F.args_int_rmul_2 _ _) (int_rmul_tuple k t l its.toArray n dd sl) ⟨o, rfl, ⟨_, o, rfl⟩, go⟩)
theorem op_rep01 (K : PySem.W.Frag) (hk : X.K = K) : OpR X (binaryOp .Mult) (rRep01 K) := by
  rintro pins z σ H x y v u Q I rx ry ⟨l, k, xs, rfl, rfl, hT, some_, two, one_, none_⟩
  rw [← hk] at hT
  obtain rfl : v = .ref l := by cases rx; rfl
  obtain ⟨t, rfl⟩ := ry
  obtain ⟨its, same, ⟨⟨cls, dd, data, sl⟩, o, ec, n, ed⟩, _⟩ := I.tuple hT
  dsimp only at ec ed
  subst ec ed
  cases its with
  | nil => exact absurd (List.eq_nil_of_length_eq_zero same.length) some_
  | cons i its =>
    refine mul_to_own o ?_
    rcases two with rfl | rfl
    · refine PySem.call_meets PySem.F.slot_tuple_mul ⟨_, o, rfl⟩ PySem.F.entry_tuple_mul (PySem.F.args_tuple_mul_2 _ _) (none_tup l i its n dd sl t) ⟨o, ?_⟩
      exact ⟨.ref z.heap.objs.size, _, I.laid (t' := z.toks) (o := .tup []) (fun b ob e => PySem.Heap.get?_push_of_some _ e) (Nat.le_refl _) ⟨Nat.zero_le _, [], .nil, IsTup.new _ _⟩, rfl, none_ rfl _ (I.hok.fresh (Nat.le_refl _))⟩
    · exact PySem.call_meets PySem.F.slot_tuple_mul ⟨_, o, rfl⟩ PySem.F.entry_tuple_mul (PySem.F.args_tuple_mul_2 _ _) (once_tup l (i :: its) n dd sl t) ⟨o, .ref l, H, I, rfl, one_ rfl⟩
end
/-! ### a tuple times 1 or 2 -/
def rRep12 (K : PySem.W.Frag) : R2 := fun x y H Q => rRep01 K x y H Q ∨ rRepT K x y H Q
theorem op_rep12 {X : Cx} (K : PySem.W.Frag) (hk : X.K = K) : OpR X (binaryOp .Mult) (rRep12 K) := by
  intro pins z σ H x y v u Q I rx ry h
  rcases h with h | h
  · exact op_rep01 K hk pins z σ H x y v u Q I rx ry h
  · rw [← hk] at h
    exact op_repT pins z σ H x y v u Q I rx ry h
section
variable {P : Program} {w : World} {K : PySem.W.Frag} {mg : Str → Option Value} {base : Heap}
def sp_law_trays (K : PySem.W.Frag) : Sp := sp_trays_on K
theorem ok_law_trays {f : Addr} {fd : FuncData} (F : Fun K "_law_trays" "_law_trays" s_law_trays f fd) (T : Top K mg) : FnOk P w K mg base CX0 1 f fd ["_law_room_here", "_law_way"] (sp_law_trays K) := by
  refine F.ok sc_law_trays (fun vs H Q E h => ?_) (fun cdv A outer s H vs Q E hr h => ?_)
  · obtain ⟨r, t, hs, bs, k, ns, rfl, _⟩ := h
    rfl
  obtain ⟨r, t, hs, bs, k, ns, rfl, hR, ⟨g, et, eg⟩, hn, ln, q⟩ := h
  obtain ⟨ha, ba, hv, bv, er, eh, eb, alh, alb⟩ := hR.ex
  refine ⟨_, (pss_one (ps_ret (pe_callB (cr_sumK K rfl rfl) (by rfl) T.m_sum (by decide +kernel) (pa_cons (pe_lc (own := [("_law_b", 2)]) (g := gName 2) (tt := tYes) (by rfl) sc_law_trays.nd (pi_tupK K rfl (pe_ix (ix_tupK K rfl) (pv 1) pe_int (fun _ _ => rfl))) (blkOk_by (own := [("_law_b", 2)]) (N := N_law_trays) (sc := defScope s_law_trays) (by decide +kernel)) (fun _ _ _ _ _ => (pg_name (i := 2) sc_law_trays.nd rfl (Or.inl rfl))) (fun _ _ _ _ _ => pts_nil) (fun _ _ _ _ _ => (pe_callB (call_len_seqK K rfl) (by rfl) T.m_len (by decide +kernel) (pa_cons (pe_ix (ix_tupK K rfl) (pe_ix (ix_tupK K rfl) (pe_ix (ix_tupK K rfl) (pv 0) pe_int (fun _ _ => rfl)) (pv 2) (fun _ _ => rfl)) pe_int (fun _ _ => rfl)) pa_nil)))) pa_nil)))), ?_⟩
  refine ⟨_, rfl, t, _, _, _, rfl, rfl, SqT.of et, atI_nat (j := 1) rfl, g, rfl, ⟨_, SqT.of eg⟩, fun D nD => lc_tup (K := K) (a := g) (xs := ns.map nV) (fun i H5 => H5 D = some (.lst (((ns.take i).map (trB bs)).map V.int)) ∧ Same H H5) ⟨upd_same, same_new nD⟩ (fun i H5 _ ⟨_, s5⟩ => SqT.of (s5 _ _ eg)) ?_ ?_⟩
  · rintro i x H5 hx ⟨hD, s5⟩
    obtain ⟨n, en, rfl⟩ := nats_at hx
    have il := (List.getElem?_eq_some_iff.mp en).1
    have nb := hn n (List.mem_of_getElem? en)
    have ebn : bs[n]? = some bs[n] := List.getElem?_eq_getElem nb
    obtain ⟨x, ex, ⟨t2, g2, rfl, e1, e2⟩⟩ := alb.get ebn
    refine ⟨rfl, yes_in ⟨_, rfl, r, _, _, _, rfl, rfl, SqT.of (s5 _ _ er), atI_nat (j := 1) rfl, _, rfl, ba, _, _, _, rfl, rfl, SqT.of (s5 _ _ eb), atI_nat ex, t2, _, _, _, rfl, rfl, SqT.of (s5 _ _ e1), atI_nat (j := 2) rfl, g2, _, rfl, .inr (SqT.of (s5 _ _ e2)), _, hD, ?_, ?_, Same.own s5 nD⟩⟩
    · rw [List.length_map, List.length_map, List.length_take]; exact small1000 (by omega)
    · rw [upd_same, List.take_add_one, en, List.map_append, List.map_append, List.length_map]
      show _ = some (HO.lst (_ ++ [V.int (trB bs n)]))
      unfold trB
      rw [ebn]
  · rintro H5 ⟨hD, s5⟩
    rw [List.length_map, List.take_length] at hD
    exact ⟨D, _, rfl, SqL.of hD, q _ s5⟩
def sp_law_moments (K : PySem.W.Frag) : Sp := sp_moments_on K
theorem ok_law_moments {f : Addr} {fd : FuncData} (F : Fun K "_law_moments" "_law_moments" s_law_moments f fd) (T : Top K mg) : FnOk P w K mg base CX0 1 f fd ["_law_room_here", "_law_way"] (sp_law_moments K) := by
  refine F.ok sc_law_moments (fun vs H Q E h => ?_) (fun cdv A outer s H vs Q E hr h => ?_)
  · obtain ⟨r, t, hs, bs, k, ns, rfl, _⟩ := h
    rfl
  obtain ⟨r, t, hs, bs, k, ns, rfl, hR, hto, ⟨g, et, eg⟩, hk, hn, ln, q⟩ := h
  obtain ⟨ha, ba, hv, bv, er, eh, eb, alh, alb⟩ := hR.ex
  refine ⟨_, (pss_one (ps_ret (pe_op op_add (pe_ix (ix_tupK K rfl) (pe_ix (ix_tupK K rfl) (pe_ix (ix_tupK K rfl) (pv 0) pe_int (fun _ _ => rfl)) (pe_ix (ix_tupK K rfl) (pv 1) pe_int (fun _ _ => rfl)) (fun _ _ => rfl)) pe_int (fun _ _ => rfl)) (pe_callB (cr_sumK K rfl rfl) (by rfl) T.m_sum (by decide +kernel) (pa_cons (pe_lc (own := [("_law_b", 2)]) (g := gName 2) (tt := tYes) (by rfl) sc_law_moments.nd (pi_tupK K rfl (pe_ix (ix_tupK K rfl) (pv 1) pe_int (fun _ _ => rfl))) (blkOk_by (own := [("_law_b", 2)]) (N := N_law_moments) (sc := defScope s_law_moments) (by decide +kernel)) (fun _ _ _ _ _ => (pg_name (i := 2) sc_law_moments.nd rfl (Or.inl rfl))) (fun _ _ _ _ _ => pts_nil) (fun _ _ _ _ _ => (pe_ix (ix_tupK K rfl) (pe_ix (ix_tupK K rfl) (pe_ix (ix_tupK K rfl) (pv 0) pe_int (fun _ _ => rfl)) (pe_ix (ix_tupK K rfl) (pe_ix (ix_tupK K rfl) (pe_ix (ix_tupK K rfl) (pv 0) pe_int (fun _ _ => rfl)) (pv 2) (fun _ _ => rfl)) pe_int (fun _ _ => rfl)) (fun _ _ => rfl)) pe_int (fun _ _ => rfl)))) pa_nil))))), ?_⟩
  have ehk : hs[k]? = some hs[k] := List.getElem?_eq_getElem hk
  obtain ⟨x0, ex0, ⟨t0, r0, rfl, e01, e02⟩⟩ := alh.get ehk
  refine ⟨_, rfl, r, _, _, _, rfl, rfl, SqT.of er, atI_nat (j := 0) rfl, _, rfl, t, _, _, _, rfl, rfl, SqT.of et, atI_nat (j := 0) rfl, ha, _, _, _, rfl, rfl, SqT.of eh, atI_nat ex0, t0, _, _, _, rfl, rfl, SqT.of e01, atI_nat (j := 1) rfl, ?_⟩
  refine ⟨_, rfl, t, _, _, _, rfl, rfl, SqT.of et, atI_nat (j := 1) rfl, g, rfl, ⟨_, SqT.of eg⟩, fun D nD => lc_tup (K := K) (a := g) (xs := ns.map nV) (fun i H5 => H5 D = some (.lst (((ns.take i).map fun n => momH hs (toB bs n)).map V.int)) ∧ Same H H5) ⟨upd_same, same_new nD⟩ (fun i H5 _ ⟨_, s5⟩ => SqT.of (s5 _ _ eg)) ?_ ?_⟩
  · rintro i x H5 hx ⟨hD, s5⟩
    obtain ⟨n, en, rfl⟩ := nats_at hx
    have il := (List.getElem?_eq_some_iff.mp en).1
    have nb := hn n (List.mem_of_getElem? en)
    have ebn : bs[n]? = some bs[n] := List.getElem?_eq_getElem nb
    obtain ⟨x, ex, ⟨t2, g2, rfl, e1, e2⟩⟩ := alb.get ebn
    have tb := hto _ (List.getElem_mem nb)
    have eht : hs[bs[n].to]? = some hs[bs[n].to] := List.getElem?_eq_getElem tb
    obtain ⟨y, ey, ⟨t3, r3, rfl, e31, e32⟩⟩ := alh.get eht
    refine ⟨rfl, yes_in ⟨_, rfl, r, _, _, _, rfl, rfl, SqT.of (s5 _ _ er), atI_nat (j := 0) rfl, _, rfl, r, _, _, _, rfl, rfl, SqT.of (s5 _ _ er), atI_nat (j := 1) rfl, _, rfl, ba, _, _, _, rfl, rfl, SqT.of (s5 _ _ eb), atI_nat ex, t2, _, _, _, rfl, rfl, SqT.of (s5 _ _ e1), atI_nat (j := 1) rfl, ha, _, _, _, rfl, rfl, SqT.of (s5 _ _ eh), atI_nat ey, t3, _, _, _, rfl, rfl, SqT.of (s5 _ _ e31), atI_nat (j := 1) rfl, _, hD, ?_, ?_, Same.own s5 nD⟩⟩
    · rw [List.length_map, List.length_map, List.length_take]; exact small1000 (by omega)
    · rw [upd_same, List.take_add_one, en, List.map_append, List.map_append]
      show _ = some (HO.lst (_ ++ [V.int (momH hs (toB bs n))]))
      unfold momH toB
      rw [ebn]
      dsimp only
      rw [eht]
  · rintro H5 ⟨hD, s5⟩
    rw [List.length_map, List.take_length] at hD
    refine ⟨D, _, rfl, SqL.of hD, _, _, rfl, rfl, ?_⟩
    have := q _ s5
    unfold momW at this
    rw [show momH hs k = hs[k].mom by unfold momH; rw [ehk]] at this
    exact this
def sp_law_ring_moments (K : PySem.W.Frag) : Sp := sp_ring_moments K
theorem ok_law_ring_moments {f : Addr} {fd : FuncData} (F : Fun K "_law_ring_moments" "_law_ring_moments" s_law_ring_moments f fd) (T : Top K mg) : FnOk P w K mg base CX0 2 f fd ["_law_room_here", "_law_way"] (sp_law_ring_moments K) := by
  obtain ⟨f_law_moments, fd_law_moments, F_law_moments, b_law_moments, m_law_moments⟩ := T.d_law_moments
  have G_law_moments := ok_law_moments (P := P) (w := w) (base := base) F_law_moments T
  refine F.ok sc_law_ring_moments (fun vs H Q E h => ?_) (fun cdv A outer s H vs Q E hr h => ?_)
  · obtain ⟨r, t, hs, bs, k, ns, rfl, _⟩ := h
    rfl
  obtain ⟨r, t, hs, bs, k, ns, rfl, hR, hto, hp, hk, hn, ln, q⟩ := h
  refine ⟨_, (pss_one (ps_ret (pe_op op_sub (pe_call G_law_moments (hr.mono (by decide)) (by rfl) m_law_moments F_law_moments.kp b_law_moments .nil pass0 (pa_cons (pv 0) (pa_cons (pv 1) pa_nil))) (pe_ix (ix_tupK K rfl) (pe_ix (ix_tupK K rfl) (pe_ix (ix_tupK K rfl) (pv 0) pe_int (fun _ _ => rfl)) (pe_ix (ix_tupK K rfl) (pv 1) pe_int (fun _ _ => rfl)) (fun _ _ => rfl)) pe_int (fun _ _ => rfl))))), ?_⟩
  refine ⟨_, rfl, _, rfl, r, t, hs, bs, k, ns, rfl, hR, hto, hp, hk, hn, ln, fun H1 s1 => ?_⟩
  obtain ⟨ha, ba, hv, bv, er, eh, eb, alh, alb⟩ := hR.ex
  obtain ⟨g, et, eg⟩ := hp
  have ehk : hs[k]? = some hs[k] := List.getElem?_eq_getElem hk
  obtain ⟨x0, ex0, ⟨t0, r0, rfl, e01, e02⟩⟩ := alh.get ehk
  refine ⟨_, rfl, r, _, _, _, rfl, rfl, SqT.of (s1 _ _ er), atI_nat (j := 0) rfl, _, rfl, t, _, _, _, rfl, rfl, SqT.of (s1 _ _ et), atI_nat (j := 0) rfl, ha, _, _, _, rfl, rfl, SqT.of (s1 _ _ eh), atI_nat ex0, t0, _, _, _, rfl, rfl, SqT.of (s1 _ _ e01), atI_nat (j := 1) rfl, _, _, rfl, rfl, ?_⟩
  have := q _ s1
  rw [show rmom hs bs ns = momW hs bs k ns - hs[k].mom by unfold momW rmom momH; rw [ehk]; dsimp only; omega] at this
  exact this
end
/-! ### all rings of a room: the list of them, and how long it is -/
structure Rw where
  h : Nat
  ns : List Nat
  met : List Nat
def extB (bs : List BR) (m : Nat) (x : Rw) (b : Nat) : Option Rw := match bs[b]? with
  | some y => if y.one = x.h ∧ m < y.to ∧ y.to ∉ x.met then some ⟨y.to, x.ns ++ [b], x.met ++ [y.to]⟩ else none
  | none => none
def cloB (bs : List BR) (m : Nat) (x : Rw) (b : Nat) : Option (Nat × List Nat) := match bs[b]? with
  | some y => if y.one = x.h ∧ y.to = m then some (m, x.ns ++ [b]) else none
  | none => none
def nextX (bs : List BR) (m : Nat) (X : List Rw) : List Rw := X.flatMap fun x => (List.range bs.length).filterMap (extB bs m x)
def cloX (bs : List BR) (m : Nat) (X : List Rw) : List (Nat × List Nat) := X.flatMap fun x => (List.range bs.length).filterMap (cloB bs m x)
def Xs (bs : List BR) (m : Nat) : Nat → List Rw
  | 0 => [⟨m, [], [m]⟩]
  | j + 1 => nextX bs m (Xs bs m j)
def cntW (X : List Rw) (h : Nat) : Nat := (X.filter fun x => decide (x.h = h)).length
def sumN (l : List Nat) : Nat := l.foldr (· + ·) 0
theorem sumN_cons {a : Nat} {l : List Nat} : sumN (a :: l) = a + sumN l := rfl
theorem sumN_le {α : Type} {f g : α → Nat} (h : ∀ x, f x ≤ g x) : ∀ l : List α, sumN (l.map f) ≤ sumN (l.map g)
  | [] => Nat.le_refl _
  | a :: l => by
    rw [List.map_cons, List.map_cons, sumN_cons, sumN_cons]
    exact Nat.add_le_add (h a) (sumN_le h l)
theorem sumN_add {α : Type} {f g : α → Nat} : ∀ l : List α, sumN (l.map fun x => f x + g x) = sumN (l.map f) + sumN (l.map g)
  | [] => rfl
  | a :: l => by
    rw [List.map_cons, List.map_cons, List.map_cons, sumN_cons, sumN_cons, sumN_cons, sumN_add l]
    omega
def toIs (bs : List BR) (t b : Nat) : Bool := match bs[b]? with | some y => decide (y.to = t) | none => false
def oneOf (bs : List BR) (b : Nat) : Nat := match bs[b]? with | some y => y.one | none => 0
/-- whatever is made of an item and a belt that leaves where it ends, to one hand -/
theorem pairs_len {β : Type} {bs : List BR} {t : Nat} {f : Rw → Nat → Option β} (hf : ∀ x b, (f x b).isSome = true → toIs bs t b = true ∧ oneOf bs b = x.h) (l : List Nat) : ∀ X : List Rw, (X.flatMap fun x => l.filterMap (f x)).length ≤ sumN (l.map fun b => if toIs bs t b = true then cntW X (oneOf bs b) else 0)
  | [] => Nat.zero_le _
  | x :: X => by
    rw [List.flatMap_cons, List.length_append]
    have ih := pairs_len hf l X
    have one : ∀ l : List Nat, (l.filterMap (f x)).length ≤ sumN (l.map fun b => if toIs bs t b = true then (if x.h = oneOf bs b then 1 else 0) else 0) := fun l => by
      induction l with
      | nil => exact Nat.le_refl _
      | cons b l ih =>
        rw [List.map_cons, sumN_cons]
        cases e : f x b with
        | none => rw [List.filterMap_cons_none e]; omega
        | some y =>
          obtain ⟨h1, h2⟩ := hf x b (by rw [e]; rfl)
          rw [List.filterMap_cons_some e, List.length_cons, if_pos h1, if_pos h2.symm]
          omega
    have o := one l
    have e : sumN (l.map fun b => if toIs bs t b = true then cntW (x :: X) (oneOf bs b) else 0) = sumN (l.map fun b => if toIs bs t b = true then (if x.h = oneOf bs b then 1 else 0) else 0) + sumN (l.map fun b => if toIs bs t b = true then cntW X (oneOf bs b) else 0) := by
      rw [← sumN_add]
      refine congrArg sumN (List.map_congr_left fun b _ => ?_)
      by_cases z : toIs bs t b = true
      · rw [if_pos z, if_pos z, if_pos z]
        unfold cntW
        by_cases y : x.h = oneOf bs b
        · rw [if_pos y, List.filter_cons_of_pos (by simpa using y), List.length_cons]
          omega
        · rw [if_neg y, List.filter_cons_of_neg (by simpa using y)]
          omega
      · rw [if_neg z, if_neg z, if_neg z]
    omega
theorem tos_range {bs : List BR} {t : Nat} {c : Nat} : ∀ n : Nat, n ≤ bs.length → sumN (((List.range n).map fun b => if toIs bs t b = true then c else 0)) = c * ((bs.take n).map BR.to).count t
  | 0, _ => by simp [sumN]
  | n + 1, h => by
    have ih := tos_range (bs := bs) (t := t) (c := c) n (by omega)
    have sn : ∀ (l : List Nat) (a : Nat), sumN (l ++ [a]) = sumN l + a := fun l a => by
      induction l with
      | nil => show a + 0 = 0 + a; omega
      | cons b l ih => rw [List.cons_append, sumN_cons, sumN_cons, ih]; omega
    rw [List.range_succ, List.map_append, List.map_cons, List.map_nil, sn, ih, List.take_add_one, List.getElem?_eq_getElem (by omega), List.map_append, List.count_append]
    show c * _ + (if toIs bs t n = true then c else 0) = c * (_ + List.count t [bs[n].to])
    have e : toIs bs t n = decide (bs[n].to = t) := by unfold toIs; rw [List.getElem?_eq_getElem (by omega)]
    rw [e, Nat.mul_add]
    by_cases z : bs[n].to = t
    · rw [decide_eq_true z, if_pos rfl, z, List.count_singleton_self]
      omega
    · rw [decide_eq_false z, if_neg Bool.false_ne_true, List.count_singleton, if_neg (by simpa using z)]
      omega
/-- with at most three belts to each hand -/
theorem pairs_three {β : Type} {bs : List BR} {t c : Nat} {f : Rw → Nat → Option β} (hf : ∀ x b, (f x b).isSome = true → toIs bs t b = true ∧ oneOf bs b = x.h) {X : List Rw} (hc : ∀ h, cntW X h ≤ c) (h3 : (bs.map BR.to).count t ≤ 3) : (X.flatMap fun x => (List.range bs.length).filterMap (f x)).length ≤ 3 * c := by
  refine Nat.le_trans (pairs_len hf _ X) ?_
  have h1 : sumN ((List.range bs.length).map fun b => if toIs bs t b = true then cntW X (oneOf bs b) else 0) ≤ sumN ((List.range bs.length).map fun b => if toIs bs t b = true then c else 0) := sumN_le (fun b => by
    by_cases z : toIs bs t b = true
    · rw [if_pos z, if_pos z]; exact hc _
    · rw [if_neg z, if_neg z]; exact Nat.le_refl _) _
  have h2 := tos_range (bs := bs) (t := t) (c := c) bs.length (Nat.le_refl _)
  rw [List.take_length] at h2
  have : c * (bs.map BR.to).count t ≤ c * 3 := Nat.mul_le_mul_left _ h3
  omega
theorem filter_flat {α β : Type} {p : β → Bool} {g : α → List β} : ∀ l : List α, (l.flatMap g).filter p = l.flatMap fun x => (g x).filter p
  | [] => rfl
  | a :: l => by rw [List.flatMap_cons, List.flatMap_cons, List.filter_append, filter_flat l]
theorem filter_fm {α β : Type} {p : β → Bool} {g : α → Option β} : ∀ l : List α, (l.filterMap g).filter p = l.filterMap fun x => (g x).filter p
  | [] => rfl
  | a :: l => by
    have ih := filter_fm (p := p) (g := g) l
    cases e : g a with
    | none => rw [List.filterMap_cons_none e, List.filterMap_cons_none (by rw [e]; rfl)]; exact ih
    | some y =>
      rw [List.filterMap_cons_some e]
      by_cases z : p y = true
      · rw [List.filter_cons_of_pos z, List.filterMap_cons_some (b := y) (by rw [e]; simp [z]), ih]
      · rw [List.filter_cons_of_neg z, List.filterMap_cons_none (by rw [e]; simp [z]), ih]
theorem cnt_next {bs : List BR} {m c : Nat} {X : List Rw} (h3 : ∀ t, (bs.map BR.to).count t ≤ 3) (hc : ∀ h, cntW X h ≤ c) : ∀ h, cntW (nextX bs m X) h ≤ 3 * c := fun h => by
  unfold cntW nextX
  rw [filter_flat]
  have e : (fun x => ((List.range bs.length).filterMap (extB bs m x)).filter fun x => decide (x.h = h)) = fun x => (List.range bs.length).filterMap fun b => (extB bs m x b).filter fun x => decide (x.h = h) := funext fun x => filter_fm _
  rw [e]
  refine pairs_three (t := h) (c := c) (fun x b z => ?_) hc (h3 h)
  unfold extB at z
  unfold toIs oneOf
  cases eb : bs[b]? with
  | none => rw [eb] at z; cases z
  | some y =>
    rw [eb] at z
    dsimp only at z ⊢
    by_cases k : y.one = x.h ∧ m < y.to ∧ y.to ∉ x.met
    · rw [if_pos k] at z
      by_cases q : y.to = h
      · exact ⟨decide_eq_true q, k.1⟩
      · simp [q] at z
    · rw [if_neg k] at z; cases z
theorem cnt_Xs {bs : List BR} {m : Nat} (h3 : ∀ t, (bs.map BR.to).count t ≤ 3) : ∀ j h, cntW (Xs bs m j) h ≤ 3 ^ j
  | 0, h => by
    show cntW [⟨m, [], [m]⟩] h ≤ 1
    unfold cntW
    exact Nat.le_trans (List.length_filter_le ..) (Nat.le_refl _)
  | j + 1, h => by
    have := cnt_next (m := m) (X := Xs bs m j) h3 (cnt_Xs h3 j) h
    show cntW (nextX bs m (Xs bs m j)) h ≤ 3 ^ (j + 1)
    rw [Nat.pow_succ]
    omega
theorem clo_len {bs : List BR} {m c : Nat} {X : List Rw} (h3 : ∀ t, (bs.map BR.to).count t ≤ 3) (hc : ∀ h, cntW X h ≤ c) : (cloX bs m X).length ≤ 3 * c := by
  refine pairs_three (t := m) (c := c) (fun x b z => ?_) hc (h3 m)
  unfold cloB at z
  unfold toIs oneOf
  cases eb : bs[b]? with
  | none => rw [eb] at z; cases z
  | some y =>
    rw [eb] at z
    dsimp only at z ⊢
    by_cases k : y.one = x.h ∧ y.to = m
    · exact ⟨decide_eq_true k.2, k.1⟩
    · rw [if_neg k] at z; cases z
theorem len_cnt {c : Nat} : ∀ (n : Nat) (X : List Rw), (∀ x ∈ X, x.h < n) → (∀ h, cntW X h ≤ c) → X.length ≤ n * c
  | 0, X, hX, _ => by
    cases X with
    | nil => exact Nat.zero_le _
    | cons x X => exact absurd (hX x (List.mem_cons_self ..)) (Nat.not_lt_zero _)
  | n + 1, X, hX, hc => by
    have split : X.length = (X.filter fun x => decide (x.h = n)).length + (X.filter fun x => !decide (x.h = n)).length := by
      have : ∀ X : List Rw, X.length = (X.filter fun x => decide (x.h = n)).length + (X.filter fun x => !decide (x.h = n)).length := fun X => by
        induction X with
        | nil => rfl
        | cons x X ih =>
          by_cases z : x.h = n
          · rw [List.filter_cons_of_pos (by simpa using z), List.filter_cons_of_neg (by simpa using z), List.length_cons, List.length_cons, ih]; omega
          · rw [List.filter_cons_of_neg (by simpa using z), List.filter_cons_of_pos (by simpa using z), List.length_cons, List.length_cons, ih]; omega
      exact this X
    have ih := len_cnt n (X.filter fun x => !decide (x.h = n)) (fun x hx => by
      obtain ⟨h1, h2⟩ := List.mem_filter.mp hx
      have := hX x h1
      have h2 : x.h ≠ n := by simpa using h2
      omega) (fun h => Nat.le_trans (by
        unfold cntW
        rw [List.filter_filter]
        have : ∀ X : List Rw, (X.filter fun x => decide (x.h = h) && !decide (x.h = n)).length ≤ (X.filter fun x => decide (x.h = h)).length := fun X => by
          have e : (X.filter fun x => decide (x.h = h) && !decide (x.h = n)) = (X.filter fun x => decide (x.h = h)).filter fun x => !decide (x.h = n) := by
            rw [List.filter_filter]
            refine congrArg (fun p => List.filter p X) (funext fun x => Bool.and_comm ..)
          rw [e]
          exact List.length_filter_le ..
        exact this X) (hc h))
    have := hc n
    unfold cntW at this
    rw [split, Nat.add_mul, Nat.one_mul]
    omega
/-- what an item is: a way from m, its hands met -/
structure RwOk (bs : List BR) (m j : Nat) (x : Rw) : Prop where
  way : wayEnd bs m x.ns = some x.h
  lt : ∀ n ∈ x.ns, n < bs.length
  len : x.ns.length = j
  met : x.met = m :: x.ns.map (toB bs)
theorem Xs_ok {bs : List BR} {m : Nat} : ∀ j, ∀ x ∈ Xs bs m j, RwOk bs m j x
  | 0, x, hx => by
    obtain rfl : x = ⟨m, [], [m]⟩ := by simpa [Xs] using hx
    exact ⟨rfl, (fun _ z => nomatch z), rfl, rfl⟩
  | j + 1, x, hx => by
    obtain ⟨y, hy, hx⟩ := List.mem_flatMap.mp hx
    obtain ⟨b, hb, e⟩ := List.mem_filterMap.mp hx
    have ok := Xs_ok j y hy
    unfold extB at e
    cases eb : bs[b]? with
    | none => rw [eb] at e; cases e
    | some z =>
      rw [eb] at e
      dsimp only at e
      by_cases k : z.one = y.h ∧ m < z.to ∧ z.to ∉ y.met
      · rw [if_pos k] at e
        cases e
        refine ⟨?_, fun n hn => ?_, by rw [List.length_append, ok.len]; rfl, ?_⟩
        · have app : ∀ {ns : List Nat} {k : Nat}, wayEnd bs k ns = some y.h → wayEnd bs k (ns ++ [b]) = some z.to := by
            intro ns
            induction ns with
            | nil => intro k w; cases w; rw [List.nil_append, wayEnd_cons eb, if_pos k.1]; rfl
            | cons a ns ih =>
              intro k w
              cases ea : bs[a]? with
              | none =>
                have : wayEnd bs k (a :: ns) = none := by
                  show (match bs[a]? with | some b => if b.one = k then wayEnd bs b.to ns else none | none => none) = none
                  rw [ea]
                rw [this] at w; cases w
              | some v =>
                rw [wayEnd_cons ea] at w
                rw [List.cons_append, wayEnd_cons ea]
                by_cases q : v.one = k
                · rw [if_pos q] at w ⊢; exact ih w
                · rw [if_neg q] at w; cases w
          exact app ok.way
        · rcases List.mem_append.mp hn with hn | hn
          · exact ok.lt n hn
          · rw [List.mem_singleton.mp hn]; exact List.mem_range.mp hb
        · rw [ok.met, List.map_append]
          show m :: _ ++ _ = m :: (_ ++ [toB bs b])
          rw [show toB bs b = z.to by unfold toB; rw [eb]]
          rfl
      · rw [if_neg k] at e; cases e
def ringsM (bs : List BR) (n m : Nat) : List (Nat × List Nat) := (List.range n).flatMap fun j => cloX bs m (Xs bs m j)
def allR (bs : List BR) (n : Nat) : List (Nat × List Nat) := (List.range n).flatMap (ringsM bs n)
theorem flat_succ {α : Type} {g : Nat → List α} (i : Nat) : (List.range (i + 1)).flatMap g = (List.range i).flatMap g ++ g i := by
  rw [List.range_succ, List.flatMap_append]
  simp
theorem clos_len {bs : List BR} {m : Nat} (h3 : ∀ t, (bs.map BR.to).count t ≤ 3) : ∀ j, 2 * ((List.range j).flatMap fun j => cloX bs m (Xs bs m j)).length + 3 ≤ 3 ^ (j + 1)
  | 0 => Nat.le_refl _
  | j + 1 => by
    have ih := clos_len (m := m) h3 j
    have c := clo_len (m := m) h3 (cnt_Xs (m := m) h3 j)
    rw [flat_succ, List.length_append, Nat.pow_succ 3 (j + 1)]
    rw [Nat.pow_succ] at ih ⊢
    omega
theorem all_len {bs : List BR} {n : Nat} (h3 : ∀ t, (bs.map BR.to).count t ≤ 3) (n12 : n ≤ 12) : ∀ i, ((List.range i).flatMap (ringsM bs n)).length ≤ i * 797160
  | 0 => Nat.zero_le _
  | i + 1 => by
    have ih := all_len h3 n12 i
    have c : 2 * (ringsM bs n i).length + 3 ≤ 3 ^ (n + 1) := clos_len (m := i) h3 n
    have p : 3 ^ (n + 1) ≤ 3 ^ 13 := Nat.pow_le_pow_right (by decide) (by omega)
    rw [flat_succ, List.length_append, Nat.add_mul]
    have e : (3 : Nat) ^ 13 = 1594323 := by decide
    omega
theorem part_len {α β : Type} {X : List α} {g : α → Nat → Option β} {N i b : Nat} {x : α} (e : X[i]? = some x) (hb : b ≤ N) : ((X.take i).flatMap (fun x => (List.range N).filterMap (g x)) ++ (List.range b).filterMap (g x)).length ≤ (X.flatMap fun x => (List.range N).filterMap (g x)).length := by
  obtain ⟨hi, z⟩ := List.getElem?_eq_some_iff.mp e
  have split : X = X.take i ++ (x :: X.drop (i + 1)) := by
    rw [← z, ← List.drop_eq_getElem_cons hi, List.take_append_drop]
  have r : (List.range b).filterMap (g x) <+: (List.range N).filterMap (g x) := by
    have : List.range b <+: List.range N := by
      rw [List.prefix_iff_eq_take, List.length_range, List.take_range, Nat.min_eq_left hb]
    obtain ⟨l, hl⟩ := this
    rw [← hl, List.filterMap_append]
    exact List.prefix_append ..
  have e2 : (X.flatMap fun x => (List.range N).filterMap (g x)).length = ((X.take i).flatMap fun x => (List.range N).filterMap (g x)).length + (((List.range N).filterMap (g x)).length + ((X.drop (i + 1)).flatMap fun x => (List.range N).filterMap (g x)).length) := by
    conv => lhs; rw [split, List.flatMap_append, List.length_append, List.flatMap_cons, List.length_append]
  rw [e2, List.length_append]
  have := r.length_le
  omega
theorem fm_succ {β : Type} {f : Nat → Option β} (b : Nat) : (List.range (b + 1)).filterMap f = (List.range b).filterMap f ++ (f b).toList := by
  rw [List.range_succ, List.filterMap_append]
  cases e : f b with
  | none => rw [List.filterMap_cons_none e]; rfl
  | some y => rw [List.filterMap_cons_some e]; rfl
theorem fm_none {β : Type} {f : Nat → Option β} {b : Nat} (e : f b = none) : (List.range (b + 1)).filterMap f = (List.range b).filterMap f := by rw [fm_succ, e]; exact List.append_nil _
theorem fm_some {β : Type} {f : Nat → Option β} {b : Nat} {y : β} (e : f b = some y) : (List.range (b + 1)).filterMap f = (List.range b).filterMap f ++ [y] := by rw [fm_succ, e]; rfl
def RgAt (H : Hp) (v : V) (x : Nat × List Nat) : Prop := ∃ p : Addr, v = .ref p ∧ PairAt H p x.1 x.2
theorem RgAt.keep {H H' : Hp} {v : V} {x : Nat × List Nat} (a : RgAt H v x) (k : TK H H') : RgAt H' v x := by
  obtain ⟨p, e, h⟩ := a
  exact ⟨p, e, h.keep k⟩
def RwAt (H : Hp) (v : V) (x : Rw) : Prop := ∃ t g q : Addr, v = .ref t ∧ H t = some (.tup [nV x.h, .ref g, .ref q]) ∧ H g = some (.tup (x.ns.map nV)) ∧ H q = some (.tup (x.met.map nV))
theorem RwAt.keep {H H' : Hp} {v : V} {x : Rw} (a : RwAt H v x) (k : TK H H') : RwAt H' v x := by
  obtain ⟨t, g, q, e, h1, h2, h3⟩ := a
  exact ⟨t, g, q, e, k _ _ h1, k _ _ h2, k _ _ h3⟩
theorem inV_nats {k : Nat} {ns : List Nat} : inV (nV k) (ns.map nV) = true ↔ k ∈ ns := by
  unfold inV
  induction ns with
  | nil => simp
  | cons z zs ih =>
    rw [List.map_cons, List.any_cons, Bool.or_eq_true, ih, List.mem_cons]
    refine or_congr_left ?_
    show ((z : Int) == (k : Int)) = true ↔ k = z
    rw [beq_iff_eq]
    omega
section
variable {P : Program} {w : World} {K : PySem.W.Frag} {mg : Str → Option Value} {base : Heap}
def sp_law_rings (K : PySem.W.Frag) : Sp := fun vs H Q _ => ∃ (r : Addr) (hs : List HR) (bs : List BR), vs = [.ref r] ∧ RoomAt H r hs bs ∧ hs.length ≤ 12 ∧ bs.length ≤ 20 ∧ (∀ b ∈ bs, b.to < hs.length) ∧ (∀ t, (bs.map BR.to).count t ≤ 3) ∧
  ∀ (l : Addr) (rv : List V) (H' : Hp), H' l = some (.lst rv) → All2 (RgAt H') rv (allR bs hs.length) → Same H H' → Q (.ref l) H'
theorem ok_law_rings {f : Addr} {fd : FuncData} (F : Fun K "_law_rings" "_law_rings" s_law_rings f fd) (T : Top K mg) : FnOk P w K mg base CX0 1 f fd ["_law_room_here"] (sp_law_rings K) := by
  refine F.ok sc_law_rings (fun vs H Q E h => ?_) (fun cdv A outer s H vs Q E hr h => ?_)
  · obtain ⟨r, hs, bs, rfl, _⟩ := h
    rfl
  obtain ⟨r, hs, bs, rfl, hR, lh, lb, hto, h3, q⟩ := h
  obtain ⟨ha, ba, hv, bv, er, eh, eb, alh, alb⟩ := hR.ex
  have lhv := alh.length
  have lbv := alb.length
  have p13 : ∀ j, j ≤ 12 → 3 ^ (j + 1) ≤ 1594323 := fun j hj => by
    have p : 3 ^ (j + 1) ≤ 3 ^ 13 := Nat.pow_le_pow_right (by decide) (by omega)
    have e : (3 : Nat) ^ 13 = 1594323 := by decide
    omega
  have line : sizeLine = 16777216 := by decide
  let R1 : TS := fun D' σ' H' => D'.rt = Q ∧ ∃ fl : Addr, H fl = none ∧ H' = upd H fl (.lst []) ∧ σ' = [some (.ref r), some (.ref fl), none, none, none, none, none, none, none, none, none]
  let R2 : TS := fun D' σ' H' => ∃ (fl hl : Addr) (m : Nat) (v4 v5 v6 v7 v8 v9 v10 : Option V) (rv hw : List V), m < hs.length ∧ σ' = [some (.ref r), some (.ref fl), some (nV m), some (.ref hl), v4, v5, v6, v7, v8, v9, v10] ∧ H fl = none ∧ H' fl = some (.lst rv) ∧ All2 (RgAt H') rv ((List.range m).flatMap (ringsM bs hs.length)) ∧ H' hl = some (.lst hw) ∧ All2 (RwAt H') hw (Xs bs m 0) ∧ fl ≠ hl ∧ Same H H' ∧
    ∀ σ2 H2 (rv2 : List V), (∃ v2 v3 v4 v5 v6 v7 v8 v9 v10 : Option V, σ2 = [some (.ref r), some (.ref fl), v2, v3, v4, v5, v6, v7, v8, v9, v10]) → H2 fl = some (.lst rv2) → All2 (RgAt H2) rv2 ((List.range (m + 1)).flatMap (ringsM bs hs.length)) → Same H H2 → D'.nx σ2 H2
  refine ⟨_, (pss_cons (ps_set (i := 1) sc_law_rings.nd rfl (Or.inl rfl) (pe_lst pa_nil))
      (PSs.to (pss_cons (ps_for PassesOwn.never rfl (pi_range1 (by rfl) T.m_range (pa_cons (pe_callB (call_len_seqK K rfl) (by rfl) T.m_len (by decide +kernel) (pa_cons (pe_ix (ix_tupK K rfl) (pv 0) pe_int (fun _ _ => rfl)) pa_nil)) pa_nil)) (pg_name (i := 2) sc_law_rings.nd rfl (Or.inl rfl))
        (pss_cons (ps_set (i := 3) sc_law_rings.nd rfl (Or.inl rfl) (pe_lst (pa_cons (pe_tup (pa_cons (pv 2) (pa_cons (pe_tup pa_nil) (pa_cons (pe_tup (pa_cons (pv 2) pa_nil)) pa_nil)))) pa_nil)))
      (PSs.to (pss_one (ps_for PassesOwn.never rfl (pi_range1 (by rfl) T.m_range (pa_cons (pe_callB (call_len_seqK K rfl) (by rfl) T.m_len (by decide +kernel) (pa_cons (pe_ix (ix_tupK K rfl) (pv 0) pe_int (fun _ _ => rfl)) pa_nil)) pa_nil)) (pg_name (i := 4) sc_law_rings.nd rfl (Or.inl rfl))
        (pss_cons (ps_set (i := 5) sc_law_rings.nd rfl (Or.inl rfl) (pe_lst pa_nil))
      (pss_cons (ps_for PassesOwn.never rfl (pi_listK K rfl (pv 3)) (pg_tupK K rfl rfl (pgs_cons (pg_name (i := 6) sc_law_rings.nd rfl (Or.inl rfl)) (pgs_cons (pg_name (i := 7) sc_law_rings.nd rfl (Or.inl rfl)) (pgs_cons (pg_name (i := 8) sc_law_rings.nd rfl (Or.inl rfl)) pgs_nil))))
        (pss_one (ps_for PassesOwn.never rfl (pi_enumT K rfl (by rfl) T.m_enumerate (pa_cons (pe_ix (ix_tupK K rfl) (pv 0) pe_int (fun _ _ => rfl)) pa_nil)) (pg_tupK K rfl rfl (pgs_cons (pg_name (i := 9) sc_law_rings.nd rfl (Or.inl rfl)) (pgs_cons (pg_name (i := 10) sc_law_rings.nd rfl (Or.inl rfl)) pgs_nil)))
        (pss_one (ps_if (PW.pt (pw_and (pt_cmpR op_eq (pe_ix (ix_tupK K rfl) (pv 10) pe_int (fun _ _ => rfl)) (pv 6) (nomark _)) (pw_and1 (pt_cmpR op_eq (pe_ix (ix_tupK K rfl) (pv 10) pe_int (fun _ _ => rfl)) (pv 2) (nomark _))))) (pss_one (ps_expr (pe_bmK K rfl PySem.F.plainAttrs_list PySem.F.slot_list_append PySem.F.type_list_append mt_append (pv 1) (pa_cons (pe_tup (pa_cons (pv 2) (pa_cons (pe_op (op_catAK K rfl) (pv 7) (pe_tup (pa_cons (pv 9) pa_nil))) pa_nil))) pa_nil)))) (pss_one (ps_if (PW.pt (pw_and (pt_cmpR op_eq (pe_ix (ix_tupK K rfl) (pv 10) pe_int (fun _ _ => rfl)) (pv 6) (nomark _)) (pw_and (pt_cmpR op_gt (pe_ix (ix_tupK K rfl) (pv 10) pe_int (fun _ _ => rfl)) (pv 2) (nomark _)) (pw_and1 (pt_cmpR (op_notIn_seqK K rfl) (pe_ix (ix_tupK K rfl) (pv 10) pe_int (fun _ _ => rfl)) (pv 8) (by with_unfolding_all rfl)))))) (pss_one (ps_expr (pe_bmK K rfl PySem.F.plainAttrs_list PySem.F.slot_list_append PySem.F.type_list_append mt_append (pv 5) (pa_cons (pe_tup (pa_cons (pe_ix (ix_tupK K rfl) (pv 10) pe_int (fun _ _ => rfl)) (pa_cons (pe_op (op_catAK K rfl) (pv 7) (pe_tup (pa_cons (pv 9) pa_nil))) (pa_cons (pe_op (op_catAK K rfl) (pv 8) (pe_tup (pa_cons (pe_ix (ix_tupK K rfl) (pv 10) pe_int (fun _ _ => rfl)) pa_nil))) pa_nil)))) pa_nil)))) pss_nil)))))))
      (pss_one (ps_set (i := 3) sc_law_rings.nd rfl (Or.inl rfl) (pv 5))))))) R2 ?tail2)))
      (pss_one (ps_ret (pv 1)))) R1 ?tail1)), ?_⟩
  case tail2 =>
    rintro D' σ' H1 ⟨fl, hl0, m, v4, v5, v6, v7, v8, v9, v10, rv0, hw0, hm, rfl, nfl, hfl0, al0, hhl0, alw0, fhl0, s1, nx⟩
    have bU := all_len (n := hs.length) h3 lh m
    have bU2 : m * 797160 ≤ 11 * 797160 := Nat.mul_le_mul_right _ (by omega)
    refine ⟨_, rfl, r, _, _, _, rfl, rfl, SqT.of (s1 _ _ er), atI_nat (j := 0) rfl, ha, _, rfl, .inr (SqT.of (s1 _ _ eh)), _, rfl, by omega, by omega, for_range (lo := 0) (n := hv.length) (fun j σ H2 => ∃ (hl : Addr) (rv hw : List V), (∃ v4 v5 v6 v7 v8 v9 v10 : Option V, σ = [some (.ref r), some (.ref fl), some (nV m), some (.ref hl), v4, v5, v6, v7, v8, v9, v10]) ∧ H2 fl = some (.lst rv) ∧ All2 (RgAt H2) rv ((List.range m).flatMap (ringsM bs hs.length) ++ (List.range j).flatMap fun j => cloX bs m (Xs bs m j)) ∧ H2 hl = some (.lst hw) ∧ All2 (RwAt H2) hw (Xs bs m j) ∧ fl ≠ hl ∧ Same H H2) ⟨hl0, rv0, hw0, ⟨_, _, _, _, _, _, _, rfl⟩, hfl0, (by rw [show (List.range 0).flatMap (fun j => cloX bs m (Xs bs m j)) = [] from rfl, List.append_nil]; exact al0), hhl0, alw0, fhl0, s1⟩ ?_ ?_⟩
    · rintro j σ H2 hj ⟨hl, rv, hw, ⟨v4, v5, v6, v7, v8, v9, v10, rfl⟩, hfl, al, hhl, alw, fhl, s2⟩
      have bC := clos_len (m := m) h3 j
      have bP := p13 j (by omega)
      have bP2 := p13 (j + 1) (by omega)
      have bX := cnt_Xs (m := m) h3 j
      have bcl := clo_len (m := m) h3 bX
      have bnx : (nextX bs m (Xs bs m j)).length ≤ 12 * 3 ^ (j + 1) := by
        have h1 := len_cnt hs.length (nextX bs m (Xs bs m j)) (fun x hx => by
          obtain ⟨y, hy, hx⟩ := List.mem_flatMap.mp hx
          obtain ⟨b, hb, e⟩ := List.mem_filterMap.mp hx
          unfold extB at e
          cases ebb : bs[b]? with
          | none => rw [ebb] at e; cases e
          | some z =>
            rw [ebb] at e
            dsimp only at e
            by_cases k : z.one = y.h ∧ m < z.to ∧ z.to ∉ y.met
            · rw [if_pos k] at e; cases e; exact hto z (List.mem_of_getElem? ebb)
            · rw [if_neg k] at e; cases e) (cnt_Xs (m := m) h3 (j + 1))
        exact Nat.le_trans h1 (Nat.mul_le_mul_right _ lh)
      refine ⟨(by show 0 ≤ sizeLine; decide), fun ll nll => ?_⟩
      have fll : fl ≠ ll := ne_of_none hfl nll
      have hll : hl ≠ ll := ne_of_none hhl nll
      have nll0 : H ll = none := same_none s2 nll
      have s3 := same_new (o := .lst []) nll
      refine ⟨_, rfl, hl, rfl, ⟨_, SqL.of (s3 _ _ hhl)⟩, for_list (K := K) (a := hl) (xs := hw) (fun i σ H4 => ∃ rv lw : List V, (∃ v6 v7 v8 v9 v10 : Option V, σ = [some (.ref r), some (.ref fl), some (nV m), some (.ref hl), some (V.int (0 + ((j : Nat) : Int))), some (.ref ll), v6, v7, v8, v9, v10]) ∧ H4 fl = some (.lst rv) ∧ All2 (RgAt H4) rv (((List.range m).flatMap (ringsM bs hs.length) ++ (List.range j).flatMap fun j => cloX bs m (Xs bs m j)) ++ ((Xs bs m j).take i).flatMap fun x => (List.range bs.length).filterMap (cloB bs m x)) ∧ H4 ll = some (.lst lw) ∧ All2 (RwAt H4) lw (((Xs bs m j).take i).flatMap fun x => (List.range bs.length).filterMap (extB bs m x)) ∧ H4 hl = some (.lst hw) ∧ TK H2 H4 ∧ Same H H4) ⟨rv, [], ⟨_, _, _, _, _, rfl⟩, s3 _ _ hfl, (by rw [List.take_zero]; exact (List.append_nil _).symm ▸ al.imp fun _ _ z => z.keep (TK.same s3)), upd_same, (by rw [List.take_zero]; exact .nil), s3 _ _ hhl, TK.same s3, s2.trans s3⟩ (fun i σ H4 _ ⟨_, _, _, _, _, _, _, h, _⟩ => SqL.of h) ?_ ?_⟩
      · rintro i v σ H4 hv4 ⟨rv4, lw4, ⟨v6, v7, v8, v9, v10, rfl⟩, hfl4, al4, hll4, alw4, hhl4, k4, s4⟩
        obtain ⟨x, ex, hx0⟩ := alw.getL hv4
        have xok := Xs_ok j x (List.mem_of_getElem? ex)
        obtain ⟨t, g, qq, rfl, ht, hg, hq⟩ := hx0.keep k4
        refine ⟨t, _, rfl, SqT.of ht, rfl, _, _, rfl, _, _, rfl, _, _, rfl, rfl, ?_⟩
        refine ⟨_, rfl, r, _, _, _, rfl, rfl, SqT.of (s4 _ _ er), atI_nat (j := 1) rfl, ba, bv, rfl, SqT.of (s4 _ _ eb), for_it (J := IteT K ba bv) (n := bv.length) (fun b σ H5 => ∃ rv lw : List V, (∃ v9 v10 : Option V, σ = [some (.ref r), some (.ref fl), some (nV m), some (.ref hl), some (V.int (0 + ((j : Nat) : Int))), some (.ref ll), some (nV x.h), some (.ref g), some (.ref qq), v9, v10]) ∧ H5 fl = some (.lst rv) ∧ All2 (RgAt H5) rv (((List.range m).flatMap (ringsM bs hs.length) ++ (List.range j).flatMap fun j => cloX bs m (Xs bs m j)) ++ (((Xs bs m j).take i).flatMap (fun x => (List.range bs.length).filterMap (cloB bs m x)) ++ (List.range b).filterMap (cloB bs m x))) ∧ H5 ll = some (.lst lw) ∧ All2 (RwAt H5) lw (((Xs bs m j).take i).flatMap (fun x => (List.range bs.length).filterMap (extB bs m x)) ++ (List.range b).filterMap (extB bs m x)) ∧ H5 hl = some (.lst hw) ∧ TK H4 H5 ∧ Same H H5) ⟨rv4, lw4, ⟨_, _, rfl⟩, hfl4, (by rw [show (List.range 0).filterMap (cloB bs m x) = [] from rfl, List.append_nil]; exact al4), hll4, (by rw [show (List.range 0).filterMap (extB bs m x) = [] from rfl, List.append_nil]; exact alw4), hhl4, TK.refl, s4⟩ ?_ ?_ ?_ ?_⟩
        · rintro b σ H5 hb ⟨rv5, lw5, _, _, _, _, _, _, _, s5⟩
          exact ⟨SqT.of (s5 _ _ eb), hb⟩
        · rintro σ H5 ⟨rv5, lw5, _, _, _, _, _, _, _, s5⟩
          exact ⟨SqT.of (s5 _ _ eb), rfl⟩
        · rintro b v σ H5 H6 hb ⟨rv5, lw5, ⟨v9, v10, rfl⟩, hfl5, al5, hll5, alw5, hhl5, k5, s5⟩ ⟨t2, y, rfl, nt2, rfl, ey⟩
          obtain ⟨z, ebz, ⟨tb, gb, rfl, e1, e2⟩⟩ := alb.getL ey
          have s6 := same_new (H := H5) (o := .tup [V.int ((b : Nat) : Int), V.ref tb]) nt2
          have s06 := s5.trans s6
          have ksl := part_len (g := cloB bs m) (N := bs.length) ex (show b ≤ bs.length by omega)
          have kex := part_len (g := extB bs m) (N := bs.length) ex (show b ≤ bs.length by omega)
          have l5 := al5.length
          have lw5' := alw5.length
          have hg6 := s6 _ _ (k5 _ _ hg)
          have hq6 := s6 _ _ (k5 _ _ hq)
          have l12 : x.ns.length ≤ 12 := by rw [xok.len]; omega
          have lmet : x.met.length ≤ 13 := by rw [xok.met, List.length_cons, List.length_map, xok.len]; omega
          rw [List.length_append, List.length_append] at l5
          have room5 : rv5.length < sizeLine := by unfold cloX at bcl; omega
          have room6 : lw5.length < sizeLine := by unfold nextX at bnx; omega
          have same2 : cloB bs m x b = none → extB bs m x b = none → ∃ rv lw : List V, (∃ v9 v10 : Option V, [some (V.ref r), some (V.ref fl), some (nV m), some (V.ref hl), some (V.int (0 + ((j : Nat) : Int))), some (V.ref ll), some (nV x.h), some (V.ref g), some (V.ref qq), some (V.int ((b : Nat) : Int)), some (V.ref tb)] = [some (V.ref r), some (V.ref fl), some (nV m), some (V.ref hl), some (V.int (0 + ((j : Nat) : Int))), some (V.ref ll), some (nV x.h), some (V.ref g), some (V.ref qq), v9, v10]) ∧ upd H5 t2 (.tup [V.int ((b : Nat) : Int), V.ref tb]) fl = some (.lst rv) ∧ All2 (RgAt (upd H5 t2 (.tup [V.int ((b : Nat) : Int), V.ref tb]))) rv (((List.range m).flatMap (ringsM bs hs.length) ++ (List.range j).flatMap fun j => cloX bs m (Xs bs m j)) ++ (((Xs bs m j).take i).flatMap (fun x => (List.range bs.length).filterMap (cloB bs m x)) ++ (List.range (b + 1)).filterMap (cloB bs m x))) ∧ upd H5 t2 (.tup [V.int ((b : Nat) : Int), V.ref tb]) ll = some (.lst lw) ∧ All2 (RwAt (upd H5 t2 (.tup [V.int ((b : Nat) : Int), V.ref tb]))) lw (((Xs bs m j).take i).flatMap (fun x => (List.range bs.length).filterMap (extB bs m x)) ++ (List.range (b + 1)).filterMap (extB bs m x)) ∧ upd H5 t2 (.tup [V.int ((b : Nat) : Int), V.ref tb]) hl = some (.lst hw) ∧ TK H4 (upd H5 t2 (.tup [V.int ((b : Nat) : Int), V.ref tb])) ∧ Same H (upd H5 t2 (.tup [V.int ((b : Nat) : Int), V.ref tb])) := fun n1 n2 =>
            ⟨rv5, lw5, ⟨_, _, rfl⟩, s6 _ _ hfl5, (by rw [fm_none n1]; exact al5.imp fun _ _ z => z.keep (TK.same s6)), s6 _ _ hll5, (by rw [fm_none n2]; exact alw5.imp fun _ _ z => z.keep (TK.same s6)), s6 _ _ hhl5, k5.trans (TK.same s6), s06⟩
          refine ⟨t2, _, rfl, SqT.of upd_same, rfl, _, _, rfl, _, _, rfl, rfl, ?_⟩
          refine ⟨_, rfl, tb, _, _, _, rfl, rfl, SqT.of (s06 _ _ e1), atI_nat (j := 0) rfl, _, rfl, rfl, _, rfl, ?_⟩
          have no1 : z.one ≠ x.h → cloB bs m x b = none ∧ extB bs m x b = none := fun c => by
            unfold cloB extB
            rw [ebz]
            exact ⟨if_neg fun k => c k.1, if_neg fun k => c k.1⟩
          by_cases c1 : z.one = x.h
          · rw [decide_eq_true (show nV z.one = nV x.h by rw [c1])]
            refine if_bl (fun _ => ?_) (fun q => nomatch q)
            refine ⟨_, rfl, tb, _, _, _, rfl, rfl, SqT.of (s06 _ _ e1), atI_nat (j := 1) rfl, _, rfl, rfl, _, rfl, ?_⟩
            by_cases c2 : z.to = m
            · rw [decide_eq_true (show nV z.to = nV m by rw [c2])]
              refine if_bl (fun _ => ?_) (fun q => nomatch q)
              have ec : cloB bs m x b = some (m, x.ns ++ [b]) := by unfold cloB; rw [ebz]; exact if_pos ⟨c1, c2⟩
              have ee : extB bs m x b = none := by unfold extB; rw [ebz]; exact if_neg fun k => by omega
              refine ⟨_, rfl, .inl ⟨rfl, _, SqL.of (s6 _ _ hfl5)⟩, _, rfl, _, rfl, _, rfl, (by show 1 ≤ sizeLine; decide), fun b1 nb1 => ?_⟩
              refine catA_of (same_new nb1 _ _ hg6) upd_same (by rw [List.length_map]; show _ + 1 ≤ 1000; omega) fun p2 H7 h7 s7 => ⟨(by show 2 ≤ sizeLine; decide), fun pt npt => ?_⟩
              have s67 := (s6.trans (same_new (o := .tup [V.int ((b : Nat) : Int)]) nb1)).trans (s7.trans (same_new (o := .tup [nV m, .ref p2]) npt))
              have hfl7 := s67 _ _ hfl5
              refine ⟨fl, _, _, rfl, rfl, hfl7, room5, ?_⟩
              have k7 : TK H5 _ := (TK.same s67).trans (TK.lst (ys := rv5 ++ [.ref pt]) hfl7)
              refine ⟨rv5 ++ [.ref pt], lw5, ⟨_, _, rfl⟩, upd_same, ?_, by rw [upd_ne fll.symm]; exact s67 _ _ hll5, (by rw [fm_none ee]; exact alw5.imp fun _ _ z => z.keep k7), by rw [upd_ne fhl.symm]; exact s67 _ _ hhl5, k5.trans k7, Same.own (s5.trans s67) nfl⟩
              rw [fm_some ec, ← List.append_assoc, ← List.append_assoc]
              refine All2.snoc ⟨pt, rfl, p2, ?_, ?_⟩ (by rw [List.append_assoc]; exact al5.imp fun _ _ z => z.keep k7)
              · exact TK.lst hfl7 _ _ upd_same
              · refine (TK.lst hfl7 _ _ (same_new npt _ _ h7)).trans ?_
                rw [List.map_append]
                rfl
            · rw [decide_eq_false (show ¬ nV z.to = nV m from fun q => c2 (by have := V.int.inj q; omega))]
              refine if_bl (fun q => nomatch q) (fun _ => ?_)
              have ec : cloB bs m x b = none := by unfold cloB; rw [ebz]; exact if_neg fun k => c2 k.2
              refine ⟨_, rfl, tb, _, _, _, rfl, rfl, SqT.of (s06 _ _ e1), atI_nat (j := 0) rfl, _, rfl, rfl, _, rfl, ?_⟩
              rw [decide_eq_true (show nV z.one = nV x.h by rw [c1])]
              refine if_bl (fun _ => ?_) (fun q => nomatch q)
              refine ⟨_, rfl, tb, _, _, _, rfl, rfl, SqT.of (s06 _ _ e1), atI_nat (j := 1) rfl, _, rfl, _, _, rfl, rfl, _, rfl, if_bl (fun c3 => ?_) (fun c3 => ?_)⟩
              · have c3 : m < z.to := by have := of_decide_eq_true c3; omega
                refine ⟨_, rfl, tb, _, _, _, rfl, rfl, SqT.of (s06 _ _ e1), atI_nat (j := 1) rfl, _, rfl, qq, _, rfl, .inr (SqT.of hq6), rfl, (List.all_eq_true.mpr fun v hv => by obtain ⟨n, _, rfl⟩ := List.mem_map.mp hv; rfl), _, rfl, ?_⟩
                rw [if_pos rfl]
                by_cases c4 : z.to ∈ x.met
                · rw [show inV (nV z.to) (x.met.map nV) = true from inV_nats.mpr c4]
                  refine if_bl (fun q => nomatch q) (fun _ => ?_)
                  exact same2 ec (by unfold extB; rw [ebz]; exact if_neg fun k => k.2.2 c4)
                · rw [show inV (nV z.to) (x.met.map nV) = false from Bool.eq_false_iff.mpr fun q => c4 (inV_nats.mp q)]
                  refine if_bl (fun _ => ?_) (fun q => nomatch q)
                  have ee : extB bs m x b = some ⟨z.to, x.ns ++ [b], x.met ++ [z.to]⟩ := by unfold extB; rw [ebz]; exact if_pos ⟨c1, c3, c4⟩
                  have hll6 := s6 _ _ hll5
                  refine ⟨_, rfl, .inl ⟨rfl, _, SqL.of hll6⟩, _, rfl, tb, _, _, _, rfl, rfl, SqT.of (s06 _ _ e1), atI_nat (j := 1) rfl, _, rfl, _, rfl, (by show 1 ≤ sizeLine; decide), fun b1 nb1 => ?_⟩
                  have s61 := s6.trans (same_new (o := .tup [V.int ((b : Nat) : Int)]) nb1)
                  refine catA_of (same_new nb1 _ _ hg6) upd_same (by rw [List.length_map]; show _ + 1 ≤ 1000; omega) fun p2 H7 h7 s7 => ?_
                  have s67 := s61.trans s7
                  refine ⟨_, rfl, _, rfl, tb, _, _, _, rfl, rfl, SqT.of ((s5.trans s67) _ _ e1), atI_nat (j := 1) rfl, (by show 1 ≤ sizeLine; decide), fun b2 nb2 => ?_⟩
                  have s68 := s67.trans (same_new (o := .tup [nV z.to]) nb2)
                  refine catA_of (s68 _ _ (k5 _ _ hq)) upd_same (by rw [List.length_map]; show _ + 1 ≤ 1000; omega) fun p3 H8 h8 s8 => ⟨(by show 3 ≤ sizeLine; decide), fun pt npt => ?_⟩
                  have s8' := (same_new (H := H7) (o := .tup [nV z.to]) nb2).trans (s8.trans (same_new (o := .tup [nV z.to, .ref p2, .ref p3]) npt))
                  have s69 := s67.trans s8'
                  have hll9 := s69 _ _ hll5
                  refine ⟨ll, _, _, rfl, rfl, hll9, room6, ?_⟩
                  have k7 : TK H5 _ := (TK.same s69).trans (TK.lst (ys := lw5 ++ [.ref pt]) hll9)
                  refine ⟨rv5, lw5 ++ [.ref pt], ⟨_, _, rfl⟩, by rw [upd_ne fll]; exact s69 _ _ hfl5, (by rw [fm_none ec]; exact al5.imp fun _ _ z => z.keep k7), upd_same, ?_, by rw [upd_ne hll]; exact s69 _ _ hhl5, k5.trans k7, Same.own (s5.trans s69) nll0⟩
                  rw [fm_some ee, ← List.append_assoc]
                  refine All2.snoc ⟨pt, p2, p3, rfl, ?_, ?_, ?_⟩ (alw5.imp fun _ _ z => z.keep k7)
                  · exact TK.lst hll9 _ _ upd_same
                  · refine (TK.lst hll9 _ _ (s8' _ _ h7)).trans ?_
                    rw [List.map_append]
                    rfl
                  · refine (TK.lst hll9 _ _ (same_new npt _ _ h8)).trans ?_
                    rw [List.map_append]
                    rfl
              · have c3 := of_decide_eq_false c3
                exact same2 ec (by unfold extB; rw [ebz]; exact if_neg fun k => c3 (by have := k.2.1; omega))
          · rw [decide_eq_false (show ¬ nV z.one = nV x.h from fun q => c1 (by have := V.int.inj q; omega))]
            refine if_bl (fun q => nomatch q) (fun _ => ?_)
            refine ⟨_, rfl, tb, _, _, _, rfl, rfl, SqT.of (s06 _ _ e1), atI_nat (j := 0) rfl, _, rfl, rfl, _, rfl, ?_⟩
            rw [decide_eq_false (show ¬ nV z.one = nV x.h from fun q => c1 (by have := V.int.inj q; omega))]
            refine if_bl (fun q => nomatch q) (fun _ => ?_)
            exact same2 (no1 c1).1 (no1 c1).2
        · rintro σ H5 ⟨rv5, lw5, ⟨v9, v10, rfl⟩, hfl5, al5, hll5, alw5, hhl5, k5, s5⟩
          rw [lbv] at al5 alw5
          refine ⟨rv5, lw5, ⟨_, _, _, _, _, rfl⟩, hfl5, ?_, hll5, ?_, hhl5, k4.trans k5, s5⟩
          · rw [List.take_add_one, ex, List.flatMap_append]
            simpa using al5
          · rw [List.take_add_one, ex, List.flatMap_append]
            simpa using alw5
      · rintro σ H4 ⟨rv4, lw4, ⟨v6, v7, v8, v9, v10, rfl⟩, hfl4, al4, hll4, alw4, hhl4, k4, s4⟩
        rw [alw.length, List.take_length] at al4 alw4
        refine ⟨_, rfl, ?_⟩
        exact ⟨ll, rv4, lw4, ⟨_, _, _, _, _, _, _, rfl⟩, hfl4, (by rw [flat_succ, ← List.append_assoc]; exact al4), hll4, alw4, fll, s4⟩
    · rintro σ H2 ⟨hl, rv, hw, ⟨v4, v5, v6, v7, v8, v9, v10, rfl⟩, hfl, al, hhl, alw, fhl, s2⟩
      rw [lhv] at al
      exact nx _ H2 rv ⟨_, _, _, _, _, _, _, _, _, rfl⟩ hfl (by rw [flat_succ]; exact al) s2
  case tail1 =>
    rintro D' σ' H1 ⟨eD, fl, nfl, rfl, rfl⟩
    refine ⟨_, rfl, r, _, _, _, rfl, rfl, SqT.of (same_new nfl _ _ er), atI_nat (j := 0) rfl, ha, _, rfl, .inr (SqT.of (same_new nfl _ _ eh)), _, rfl, by omega, by omega, for_range (lo := 0) (n := hv.length) (fun i σ H2 => ∃ rv : List V, (∃ v2 v3 v4 v5 v6 v7 v8 v9 v10 : Option V, σ = [some (.ref r), some (.ref fl), v2, v3, v4, v5, v6, v7, v8, v9, v10]) ∧ H2 fl = some (.lst rv) ∧ All2 (RgAt H2) rv ((List.range i).flatMap (ringsM bs hs.length)) ∧ Same H H2) ⟨[], ⟨_, _, _, _, _, _, _, _, _, rfl⟩, upd_same, .nil, same_new nfl⟩ ?_ ?_⟩
    · rintro m σ H2 hm ⟨rv, ⟨v2, v3, v4, v5, v6, v7, v8, v9, v10, rfl⟩, hfl, al, s2⟩
      refine ⟨_, rfl, (by show 0 ≤ sizeLine; decide), fun g ng => ⟨_, rfl, (by show 1 ≤ sizeLine; decide), fun q1 nq1 => ⟨(by show 3 ≤ sizeLine; decide), fun t nt => ⟨(by show 1 ≤ sizeLine; decide), fun hl nhl => ?_⟩⟩⟩⟩
      have em : (0 : Int) + ((m : Nat) : Int) = ((m : Nat) : Int) := Int.zero_add _
      have fhl : fl ≠ hl := ne_of_none (same_new nt _ _ (same_new nq1 _ _ (same_new ng _ _ hfl))) nhl
      have s3 : Same H2 _ := ((same_new (o := .tup []) ng).trans (same_new (o := .tup [V.int (0 + ((m : Nat) : Int))]) nq1)).trans ((same_new (o := .tup [V.int (0 + ((m : Nat) : Int)), .ref g, .ref q1]) nt).trans (same_new (o := .lst [.ref t]) nhl))
      refine ⟨fl, hl, m, v4, v5, v6, v7, v8, v9, v10, rv, [.ref t], by omega, congrArg (fun z => [some (V.ref r), some (V.ref fl), some (V.int z), some (V.ref hl), v4, v5, v6, v7, v8, v9, v10]) em, nfl, s3 _ _ hfl, al.imp fun _ _ z => z.keep (TK.same s3), upd_same, .cons ⟨t, g, q1, rfl, ?_, ?_, ?_⟩ .nil, fhl, s2.trans s3, fun σ2 H3 rv2 e h a s => ⟨rv2, e, h, a, s⟩⟩
      · exact (same_new nhl _ _ upd_same).trans (by rw [em])
      · exact same_new nhl _ _ (same_new nt _ _ (same_new nq1 _ _ upd_same))
      · exact (same_new nhl _ _ (same_new nt _ _ upd_same)).trans (by rw [em]; rfl)
    · rintro σ H2 ⟨rv, ⟨v2, v3, v4, v5, v6, v7, v8, v9, v10, rfl⟩, hfl, al, s2⟩
      rw [lhv] at al
      have e := q fl rv H2 hfl al s2
      rw [← eD] at e
      exact ⟨_, rfl, e⟩
  exact ⟨(by show 0 ≤ sizeLine; decide), fun fl nfl => ⟨rfl, fl, nfl, rfl, rfl⟩⟩
end
/-! ### rings: each ring that binds more holds one that is told -/
theorem wayEnd_no {bs : List BR} {n k : Nat} {ns : List Nat} (e : bs[n]? = none) : wayEnd bs k (n :: ns) = none := by
  show (match bs[n]? with | some b => if b.one = k then wayEnd bs b.to ns else none | none => none) = none
  rw [e]
theorem way_app {bs : List BR} : ∀ {xs ys : List Nat} {k e : Nat}, wayEnd bs k (xs ++ ys) = some e → ∃ m, wayEnd bs k xs = some m ∧ wayEnd bs m ys = some e
  | [], _, k, _, w => ⟨k, rfl, w⟩
  | n :: xs, ys, k, e, w => by
    cases eb : bs[n]? with
    | none => rw [List.cons_append, wayEnd_no eb] at w; cases w
    | some b =>
      rw [List.cons_append, wayEnd_cons eb] at w
      by_cases z : b.one = k
      · rw [if_pos z] at w
        obtain ⟨m, h1, h2⟩ := way_app w
        exact ⟨m, by rw [wayEnd_cons eb, if_pos z]; exact h1, h2⟩
      · rw [if_neg z] at w; cases w
theorem way_join {bs : List BR} : ∀ {xs ys : List Nat} {k m e : Nat}, wayEnd bs k xs = some m → wayEnd bs m ys = some e → wayEnd bs k (xs ++ ys) = some e
  | [], _, k, _, _, w, v => by cases w; exact v
  | n :: xs, ys, k, m, e, w, v => by
    cases eb : bs[n]? with
    | none => rw [wayEnd_no eb] at w; cases w
    | some b =>
      rw [wayEnd_cons eb] at w
      rw [List.cons_append, wayEnd_cons eb]
      by_cases z : b.one = k
      · rw [if_pos z] at w ⊢; exact way_join w v
      · rw [if_neg z] at w; cases w
theorem way_one {bs : List BR} {n k e : Nat} (w : wayEnd bs k [n] = some e) : ∃ b, bs[n]? = some b ∧ b.one = k ∧ b.to = e := by
  cases eb : bs[n]? with
  | none => rw [wayEnd_no eb] at w; cases w
  | some b =>
    rw [wayEnd_cons eb] at w
    by_cases z : b.one = k
    · rw [if_pos z] at w; cases w; exact ⟨b, rfl, z, rfl⟩
    · rw [if_neg z] at w; cases w
theorem take_snoc {ns : List Nat} {i n : Nat} (e : ns[i]? = some n) : ns.take (i + 1) = ns.take i ++ [n] := by rw [List.take_add_one, e]; rfl
/-- where the first belts of a way lead -/
theorem way_at {bs : List BR} {ns : List Nat} {k e i n : Nat} (w : wayEnd bs k ns = some e) (h : ns[i]? = some n) : wayEnd bs k (ns.take (i + 1)) = some (toB bs n) := by
  have w2 := w
  rw [← List.take_append_drop (i + 1) ns] at w2
  obtain ⟨m, h1, _⟩ := way_app w2
  rw [h1]
  rw [take_snoc h] at h1
  obtain ⟨m', _, h3⟩ := way_app h1
  obtain ⟨b, eb, _, h4⟩ := way_one h3
  rw [← h4, show toB bs n = b.to by unfold toB; rw [eb]]
theorem way_rest {bs : List BR} {ns : List Nat} {k e i n : Nat} (w : wayEnd bs k ns = some e) (h : ns[i]? = some n) : wayEnd bs (toB bs n) (ns.drop (i + 1)) = some e := by
  have a := way_at w h
  rw [← List.take_append_drop (i + 1) ns] at w
  obtain ⟨m, h1, h2⟩ := way_app w
  rw [a] at h1
  cases h1
  exact h2
theorem not_nodup : ∀ {l : List Nat}, ¬ l.Nodup → ∃ i j c : Nat, i < j ∧ l[i]? = some c ∧ l[j]? = some c
  | [], h => absurd List.nodup_nil h
  | a :: l, h => by
    by_cases m : a ∈ l
    · obtain ⟨j, hj⟩ := List.getElem?_of_mem m
      exact ⟨0, j + 1, a, by omega, rfl, hj⟩
    · obtain ⟨i, j, c, ij, e1, e2⟩ := not_nodup (l := l) fun nd => h (List.nodup_cons.mpr ⟨m, nd⟩)
      exact ⟨i + 1, j + 1, c, by omega, e1, e2⟩
theorem nd_at2 {l : List Nat} (nd : l.Nodup) {i j : Nat} {a : Nat} (h1 : l[i]? = some a) (h2 : l[j]? = some a) : i = j := by
  obtain ⟨l1, e1⟩ := List.getElem?_eq_some_iff.mp h1
  obtain ⟨l2, e2⟩ := List.getElem?_eq_some_iff.mp h2
  exact (List.getElem_inj nd).mp (e1.trans e2.symm)
def wt (hs : List HR) (bs : List BR) (A B : Int) (ns : List Nat) : Int := B * rmom hs bs ns - A * rtr bs ns
theorem wt_app {hs : List HR} {bs : List BR} {A B : Int} {xs ys : List Nat} : wt hs bs A B (xs ++ ys) = wt hs bs A B xs + wt hs bs A B ys := by
  unfold wt rmom rtr
  rw [List.map_append, List.sum_append, List.map_append, List.sum_append, Int.mul_add, Int.mul_add]
  omega
theorem list_min : ∀ {l : List Nat}, l ≠ [] → ∃ i m : Nat, l[i]? = some m ∧ ∀ x ∈ l, m ≤ x
  | [], h => absurd rfl h
  | [a], _ => ⟨0, a, rfl, fun x hx => by rw [List.mem_singleton.mp hx]; exact Nat.le_refl _⟩
  | a :: b :: l, _ => by
    obtain ⟨i, m, e, h⟩ := list_min (l := b :: l) (fun z => nomatch z)
    by_cases z : a ≤ m
    · exact ⟨0, a, rfl, fun x hx => by
        rcases List.mem_cons.mp hx with rfl | hx
        · exact Nat.le_refl _
        · exact Nat.le_trans z (h x hx)⟩
    · exact ⟨i + 1, m, e, fun x hx => by
        rcases List.mem_cons.mp hx with rfl | hx
        · omega
        · exact h x hx⟩
section
variable {hs : List HR} {bs : List BR}
/-- a ring without a hand twice, from its least hand, is among them -/
theorem ring_told {m : Nat} {ms : List Nat} (hto : ∀ b ∈ bs, b.to < hs.length) (w : wayEnd bs m ms = some m) (ne : ms ≠ []) (lt : ∀ n ∈ ms, n < bs.length) (nd : (ms.map (toB bs)).Nodup) (le : ∀ x ∈ ms.map (toB bs), m ≤ x) : (m, ms) ∈ allR bs hs.length := by
  have tolt : ∀ x ∈ ms.map (toB bs), x < hs.length := fun x hx => by
    obtain ⟨n, hn, rfl⟩ := List.mem_map.mp hx
    unfold toB
    rw [List.getElem?_eq_getElem (lt n hn)]
    exact hto _ (List.getElem_mem _)
  have L0 : 0 < ms.length := List.length_pos_iff.mpr ne
  have lenle : ms.length ≤ hs.length := by
    have := nodup_len hs.length _ nd tolt
    rwa [List.length_map] at this
  obtain ⟨L, hL⟩ : ∃ L, ms.length = L + 1 := ⟨ms.length - 1, by omega⟩
  -- the last belt leads to m
  have last : ∃ n, ms[L]? = some n := ⟨_, List.getElem?_eq_getElem (by omega)⟩
  obtain ⟨nl, hnl⟩ := last
  have tol : toB bs nl = m := by
    have a := way_at w hnl
    rw [List.take_of_length_le (by omega), w] at a
    exact (Option.some.inj a).symm
  have mlt : m < hs.length := by
    have := tolt (toB bs nl) (List.mem_map.mpr ⟨nl, List.mem_of_getElem? hnl, rfl⟩)
    rwa [tol] at this
  have at_ : ∀ i n, ms[i]? = some n → (ms.map (toB bs))[i]? = some (toB bs n) := fun i n e => by rw [List.getElem?_map, e]; rfl
  have pre : ∀ p, p ≤ L → ∃ x ∈ Xs bs m p, x.ns = ms.take p := fun p => by
    induction p with
    | zero => exact fun _ => ⟨⟨m, [], [m]⟩, List.mem_singleton.mpr rfl, rfl⟩
    | succ p ih =>
      intro hp
      obtain ⟨x, hx, ex⟩ := ih (by omega)
      have ok := Xs_ok p x hx
      have hb : ms[p]? = some ms[p] := List.getElem?_eq_getElem (by omega)
      have blt := lt _ (List.mem_of_getElem? hb)
      have eb : bs[ms[p]]? = some bs[ms[p]] := List.getElem?_eq_getElem blt
      have et : toB bs ms[p] = bs[ms[p]].to := by unfold toB; rw [eb]
      have w2 := way_at w hb
      rw [take_snoc hb] at w2
      obtain ⟨e', h1, h2⟩ := way_app w2
      rw [← ex, ok.way] at h1
      cases h1
      obtain ⟨y, ey, yo, yt⟩ := way_one h2
      rw [eb] at ey
      cases ey
      have ne_m : bs[ms[p]].to ≠ m := fun z => by
        have := nd_at2 nd (at_ _ _ hb) (by rw [at_ _ _ hnl, tol, et, z])
        omega
      have ge := le _ (List.mem_map.mpr ⟨_, List.mem_of_getElem? hb, et⟩)
      have nin : bs[ms[p]].to ∉ x.met := fun z => by
        rw [ok.met, ex] at z
        rcases List.mem_cons.mp z with z | z
        · exact ne_m z
        · obtain ⟨n2, hn2, e2⟩ := List.mem_map.mp z
          obtain ⟨i, hi⟩ := List.getElem?_of_mem hn2
          have il : i < p := by
            have := (List.getElem?_eq_some_iff.mp hi).1
            rw [List.length_take] at this
            omega
          rw [List.getElem?_take, if_pos il] at hi
          have := nd_at2 nd (at_ _ _ hi) (by rw [at_ _ _ hb, et, e2])
          omega
      refine ⟨⟨bs[ms[p]].to, x.ns ++ [ms[p]], x.met ++ [bs[ms[p]].to]⟩, ?_, by rw [ex, take_snoc hb]⟩
      refine List.mem_flatMap.mpr ⟨x, hx, List.mem_filterMap.mpr ⟨ms[p], List.mem_range.mpr blt, ?_⟩⟩
      unfold extB
      rw [eb]
      exact if_pos ⟨yo, by omega, nin⟩
  obtain ⟨x, hx, ex⟩ := pre L (Nat.le_refl _)
  have ok := Xs_ok L x hx
  have blt := lt _ (List.mem_of_getElem? hnl)
  have eb : bs[nl]? = some bs[nl] := List.getElem?_eq_getElem blt
  have w2 := way_at w hnl
  rw [take_snoc hnl] at w2
  obtain ⟨e', h1, h2⟩ := way_app w2
  rw [← ex, ok.way] at h1
  cases h1
  obtain ⟨y, ey, yo, yt⟩ := way_one h2
  rw [eb] at ey
  cases ey
  have whole : ms = x.ns ++ [nl] := by
    rw [ex, ← take_snoc hnl, List.take_of_length_le (by omega)]
  refine List.mem_flatMap.mpr ⟨m, List.mem_range.mpr mlt, List.mem_flatMap.mpr ⟨L, List.mem_range.mpr (by omega), List.mem_flatMap.mpr ⟨x, hx, List.mem_filterMap.mpr ⟨nl, List.mem_range.mpr blt, ?_⟩⟩⟩⟩
  unfold cloB
  rw [eb]
  dsimp only
  rw [if_pos ⟨yo, by rw [yt, tol]⟩, ← whole]
theorem ring_found {A B : Int} (hto : ∀ b ∈ bs, b.to < hs.length) : ∀ (L : Nat) (k : Nat) (ns : List Nat), ns.length ≤ L → wayEnd bs k ns = some k → ns ≠ [] → (∀ n ∈ ns, n < bs.length) → 0 < wt hs bs A B ns → ∃ x ∈ allR bs hs.length, 0 < wt hs bs A B x.2
  | 0, _, ns, l, _, ne, _, _ => absurd (List.eq_nil_of_length_eq_zero (by omega)) ne
  | L + 1, k, ns, l, w, ne, lt, pos => by
    by_cases nd : (ns.map (toB bs)).Nodup
    · obtain ⟨i, m, e, le⟩ := list_min (l := ns.map (toB bs)) (fun z => ne (List.map_eq_nil_iff.mp z))
      rw [List.getElem?_map] at e
      cases en : ns[i]? with
      | none => rw [en] at e; cases e
      | some n =>
      rw [en] at e
      have em : toB bs n = m := Option.some.inj e
      have w1 := way_at w en
      have w2 := way_rest w en
      rw [em] at w1 w2
      have perm : (ns.drop (i + 1) ++ ns.take (i + 1)).Perm ns := List.perm_append_comm.trans (by rw [List.take_append_drop])
      have permt := perm.map (toB bs)
      refine ⟨(m, ns.drop (i + 1) ++ ns.take (i + 1)), ring_told hto (way_join w2 w1) (fun z => ne ?_) (fun x hx => lt x (perm.mem_iff.mp hx)) (permt.nodup_iff.mpr nd) (fun x hx => le x (permt.mem_iff.mp hx)), ?_⟩
      · have := perm.length_eq
        rw [z] at this
        exact List.eq_nil_of_length_eq_zero this.symm
      · show 0 < wt hs bs A B (ns.drop (i + 1) ++ ns.take (i + 1))
        rw [wt_app, Int.add_comm, ← wt_app, List.take_append_drop]
        exact pos
    · obtain ⟨i, j, c, ij, e1, e2⟩ := not_nodup nd
      rw [List.getElem?_map] at e1 e2
      cases n1 : ns[i]? with
      | none => rw [n1] at e1; cases e1
      | some a =>
      cases n2 : ns[j]? with
      | none => rw [n2] at e2; cases e2
      | some b =>
      rw [n1] at e1
      rw [n2] at e2
      have ea : toB bs a = c := Option.some.inj e1
      have eb : toB bs b = c := Option.some.inj e2
      have jl := (List.getElem?_eq_some_iff.mp n2).1
      have wx := way_at w n1
      have wz := way_rest w n2
      have wy0 := way_at w n2
      rw [ea] at wx
      rw [eb] at wz wy0
      -- ns = xs ++ ys ++ zs
      have split : ns.take (j + 1) = ns.take (i + 1) ++ (ns.take (j + 1)).drop (i + 1) := by
        conv => lhs; rw [← List.take_append_drop (i + 1) (ns.take (j + 1))]
        rw [List.take_take, Nat.min_eq_left (by omega)]
      have wy : wayEnd bs c ((ns.take (j + 1)).drop (i + 1)) = some c := by
        rw [split] at wy0
        obtain ⟨m, h1, h2⟩ := way_app wy0
        rw [wx] at h1
        cases h1
        exact h2
      have ly : ((ns.take (j + 1)).drop (i + 1)).length = j - i := by rw [List.length_drop, List.length_take]; omega
      have total : wt hs bs A B ns = wt hs bs A B ((ns.take (j + 1)).drop (i + 1)) + wt hs bs A B (ns.take (i + 1) ++ ns.drop (j + 1)) := by
        have e0 : wt hs bs A B ns = wt hs bs A B (ns.take (j + 1)) + wt hs bs A B (ns.drop (j + 1)) := by rw [← wt_app, List.take_append_drop]
        rw [e0, split, wt_app, wt_app]
        rw [← split]
        omega
      by_cases py : 0 < wt hs bs A B ((ns.take (j + 1)).drop (i + 1))
      · exact ring_found hto L c _ (by omega) wy (fun z => by rw [z] at ly; simp at ly; omega) (fun n hn => lt n (List.mem_of_mem_take (List.mem_of_mem_drop hn))) py
      · have lx : (ns.take (i + 1) ++ ns.drop (j + 1)).length = ns.length - (j - i) := by rw [List.length_append, List.length_take, List.length_drop]; omega
        refine ring_found hto L k (ns.take (i + 1) ++ ns.drop (j + 1)) (by omega) (way_join wx wz) (fun z => by rw [z] at lx; simp at lx; omega) (fun n hn => ?_) (by omega)
        rcases List.mem_append.mp hn with hn | hn
        · exact lt n (List.mem_of_mem_take hn)
        · exact lt n (List.mem_of_mem_drop hn)
theorem told_ring {x : Nat × List Nat} (hx : x ∈ allR bs hs.length) : x.1 < hs.length ∧ wayEnd bs x.1 x.2 = some x.1 ∧ x.2 ≠ [] ∧ (∀ n ∈ x.2, n < bs.length) ∧ x.2.length ≤ hs.length := by
  obtain ⟨m, hm, hx⟩ := List.mem_flatMap.mp hx
  obtain ⟨j, hj, hx⟩ := List.mem_flatMap.mp hx
  obtain ⟨y, hy, hx⟩ := List.mem_flatMap.mp hx
  obtain ⟨b, hb, e⟩ := List.mem_filterMap.mp hx
  have ok := Xs_ok j y hy
  unfold cloB at e
  cases eb : bs[b]? with
  | none => rw [eb] at e; cases e
  | some z =>
    rw [eb] at e
    dsimp only at e
    by_cases k : z.one = y.h ∧ z.to = m
    · rw [if_pos k] at e
      cases e
      refine ⟨List.mem_range.mp hm, way_join ok.way ?_, (fun q => by simp at q), fun n hn => ?_, ?_⟩
      · rw [wayEnd_cons eb, if_pos k.1, k.2]; rfl
      · rcases List.mem_append.mp hn with hn | hn
        · exact ok.lt n hn
        · rw [List.mem_singleton.mp hn]; exact List.mem_range.mp hb
      · show (y.ns ++ [b]).length ≤ _
        rw [List.length_append, ok.len]
        have := List.mem_range.mp hj
        show j + 1 ≤ _
        omega
    · rw [if_neg k] at e; cases e
end
/-! ### ways looked at as holders -/
def HoldW (hs : List HR) (bs : List BR) (a b : Int) (k : Nat) (ns : List Nat) : Prop := ∃ e, wayEnd bs k ns = some e ∧ ((ns = [] ∧ b * momH hs e = a) ∨ (ns ≠ [] ∧ e = k ∧ b * rmom hs bs ns = a * rtr bs ns))
theorem HoldW.of {hs : List HR} {bs : List BR} {a b : Int} {k : Nat} {ns : List Nat} (B : Beat hs bs a b k ns) : HoldW hs bs a b k ns := by
  rcases B.up with ⟨rfl, e⟩ | ⟨ne, w, e⟩
  · exact ⟨k, rfl, .inl ⟨rfl, e⟩⟩
  · exact ⟨k, w, .inr ⟨ne, rfl, e⟩⟩
theorem sums60 {hs : List HR} {bs : List BR} (ok : BOk hs bs) {ns : List Nat} (l : ns.length ≤ 60) : 0 ≤ rmom hs bs ns ∧ rmom hs bs ns ≤ 1800 ∧ 0 ≤ rtr bs ns ∧ rtr bs ns ≤ 1800 := by
  have a := sum_le (f := fun n => momH hs (toB bs n)) (by decide : (0 : Int) ≤ 30) (fun n => ok.momH _) ns
  have b := sum_le (f := trB bs) (by decide : (0 : Int) ≤ 30) (fun n => ok.trB _) ns
  unfold rmom rtr
  omega
theorem wayEnd_lt {hs : List HR} {bs : List BR} (hto : ∀ b ∈ bs, b.to < hs.length) : ∀ {ns : List Nat} {k e : Nat}, k < hs.length → wayEnd bs k ns = some e → e < hs.length
  | [], k, e, hk, w => by cases w; exact hk
  | n :: ns, k, e, hk, w => by
    cases eb : bs[n]? with
    | none =>
      have : wayEnd bs k (n :: ns) = none := by
        show (match bs[n]? with | some b => if b.one = k then wayEnd bs b.to ns else none | none => none) = none
        rw [eb]
      rw [this] at w; cases w
    | some b =>
      rw [wayEnd_cons eb] at w
      by_cases z : b.one = k
      · rw [if_pos z] at w; exact wayEnd_lt hto (hto b (List.mem_of_getElem? eb)) w
      · rw [if_neg z] at w; cases w
section
variable {P : Program} {w : World} {K : PySem.W.Frag} {mg : Str → Option Value} {base : Heap}
def sp_law_end (K : PySem.W.Frag) : Sp := fun vs H Q _ => ∃ (r t : Addr) (hs : List HR) (bs : List BR) (k : Nat) (ns : List Nat), vs = [.ref r, .ref t] ∧ RoomAt H r hs bs ∧ PairAt H t k ns ∧ (∀ n ∈ ns, n < bs.length) ∧ ∀ H', Same H H' → Q (onV (wayEnd bs k ns)) H'
theorem ok_law_end {f : Addr} {fd : FuncData} (F : Fun K "_law_end" "_law_end" s_law_end f fd) (T : Top K mg) : FnOk P w K mg base CX0 1 f fd ["_law_room_here", "_law_pair"] (sp_law_end K) := by
  refine F.ok sc_law_end (fun vs H Q E h => ?_) (fun cdv A outer s H vs Q E hr h => ?_)
  · obtain ⟨r, t, hs, bs, k, ns, rfl, _⟩ := h
    rfl
  obtain ⟨r, t, hs, bs, k, ns, rfl, hR, ⟨g, et, eg⟩, hn, q⟩ := h
  obtain ⟨ha, ba, hv, bv, er, eh, eb, alh, alb⟩ := hR.ex
  refine ⟨_, (pss_cons (ps_set (i := 2) sc_law_end.nd rfl (Or.inl rfl) (pe_ix (ix_tupK K rfl) (pv 1) pe_int (fun _ _ => rfl)))
      (pss_cons (ps_for PassesOwn.never rfl (pi_tupK K rfl (pe_ix (ix_tupK K rfl) (pv 1) pe_int (fun _ _ => rfl))) (pg_name (i := 3) sc_law_end.nd rfl (Or.inl rfl))
        (pss_one (ps_if (PW.pt (pw_and (pt_cmpR op_notN (pv 2) pe_non (nomark _)) (pw_and1 (pt_cmpR op_eq (pe_ix (ix_tupK K rfl) (pe_ix (ix_tupK K rfl) (pe_ix (ix_tupK K rfl) (pv 0) pe_int (fun _ _ => rfl)) (pv 3) (fun _ _ => rfl)) pe_int (fun _ _ => rfl)) (pv 2) (nomark _))))) (pss_one (ps_set (i := 2) sc_law_end.nd rfl (Or.inl rfl) (pe_ix (ix_tupK K rfl) (pe_ix (ix_tupK K rfl) (pe_ix (ix_tupK K rfl) (pv 0) pe_int (fun _ _ => rfl)) (pv 3) (fun _ _ => rfl)) pe_int (fun _ _ => rfl)))) (pss_one (ps_set (i := 2) sc_law_end.nd rfl (Or.inl rfl) pe_non)))))
      (pss_one (ps_ret (pv 2))))), ?_⟩
  refine ⟨_, rfl, t, _, _, _, rfl, rfl, SqT.of et, atI_nat (j := 0) rfl, ?_⟩
  refine ⟨_, rfl, t, _, _, _, rfl, rfl, SqT.of et, atI_nat (j := 1) rfl, g, rfl, ⟨_, SqT.of eg⟩, for_tup (K := K) (a := g) (xs := ns.map nV) (fun i σ H2 => ∃ (cur : Option Nat) (v3 : Option V), σ = [some (.ref r), some (.ref t), some (onV cur), v3] ∧ wayEnd bs k ns = (cur.bind fun c => wayEnd bs c (ns.drop i)) ∧ Same H H2)
    ⟨some k, none, rfl, rfl, Same.refl _⟩ (fun i σ H2 _ ⟨_, _, _, _, s2⟩ => SqT.of (s2 _ _ eg)) ?_ ?_⟩
  · rintro i x σ H2 hx ⟨cur, v3, rfl, hw, s2⟩
    obtain ⟨n, en, rfl⟩ := nats_at hx
    have nb := hn n (List.mem_of_getElem? en)
    have ebn : bs[n]? = some bs[n] := List.getElem?_eq_getElem nb
    obtain ⟨x, ex, ⟨t2, g2, rfl, e1, e2⟩⟩ := alb.get ebn
    cases cur with
    | none =>
      refine ⟨_, rfl, rfl, _, rfl, if_bl (fun z => nomatch z) (fun _ => ?_)⟩
      exact ⟨none, _, rfl, hw, s2⟩
    | some c =>
      have hw : wayEnd bs k ns = wayEnd bs c (ns.drop i) := hw
      rw [drop_at en, wayEnd_cons ebn] at hw
      refine ⟨_, rfl, rfl, _, rfl, if_bl (fun _ => ?_) (fun z => nomatch z)⟩
      refine ⟨_, rfl, r, _, _, _, rfl, rfl, SqT.of (s2 _ _ er), atI_nat (j := 1) rfl, _, rfl, ba, _, _, _, rfl, rfl, SqT.of (s2 _ _ eb), atI_nat ex, t2, _, _, _, rfl, rfl, SqT.of (s2 _ _ e1), atI_nat (j := 0) rfl, _, rfl, rfl, _, rfl, ?_⟩
      by_cases cc : bs[n].one = c
      · rw [if_pos cc] at hw
        rw [decide_eq_true (show nV bs[n].one = onV (some c) by rw [cc]; rfl)]
        refine if_bl (fun _ => ?_) (fun z => nomatch z)
        exact ⟨_, rfl, r, _, _, _, rfl, rfl, SqT.of (s2 _ _ er), atI_nat (j := 1) rfl, _, rfl, ba, _, _, _, rfl, rfl, SqT.of (s2 _ _ eb), atI_nat ex, t2, _, _, _, rfl, rfl, SqT.of (s2 _ _ e1), atI_nat (j := 1) rfl, some bs[n].to, _, rfl, hw, s2⟩
      · rw [if_neg cc] at hw
        rw [decide_eq_false (show ¬ nV bs[n].one = onV (some c) from fun z => cc (by have := V.int.inj z; omega))]
        refine if_bl (fun z => nomatch z) (fun _ => ?_)
        exact ⟨none, _, rfl, hw, s2⟩
  · rintro σ H2 ⟨cur, v3, rfl, hw, s2⟩
    rw [List.length_map, List.drop_length] at hw
    have e := q _ s2
    cases cur with
    | none => rw [hw] at e; exact ⟨_, rfl, e⟩
    | some c => rw [hw] at e; exact ⟨_, rfl, e⟩
def sp_holder_holds (K : PySem.W.Frag) : Sp := fun vs H Q _ => ∃ (r fp wp : Addr) (hs : List HR) (bs : List BR) (a b : Int) (k : Nat) (ns : List Nat), vs = [.ref r, .ref fp, .ref wp] ∧ RoomAt H r hs bs ∧ BOk hs bs ∧ H fp = some (.tup [.int a, .int b]) ∧ PairAt H wp k ns ∧ k < hs.length ∧ (∀ n ∈ ns, n < bs.length) ∧ ns.length ≤ 60 ∧ ∀ (t : Bool) (H' : Hp), (t = true ↔ HoldW hs bs a b k ns) → Same H H' → Q (.bl t) H'
theorem ok_holder_holds {f : Addr} {fd : FuncData} (F : Fun K "holder_holds" "holder_holds" s_holder_holds f fd) (T : Top K mg) : FnOk P w K mg base CX0 3 f fd ["room", "fraction", "way"] (sp_holder_holds K) := by
  obtain ⟨f_way_end, fd_way_end, F_way_end, b_way_end, m_way_end⟩ := T.d_way_end
  have G_way_end := ok_way_end (P := P) (w := w) (base := base) F_way_end T
  obtain ⟨f_ring_moments, fd_ring_moments, F_ring_moments, b_ring_moments, m_ring_moments⟩ := T.d_ring_moments
  have G_ring_moments := ok_ring_moments (P := P) (w := w) (base := base) F_ring_moments T
  obtain ⟨f_trays_on, fd_trays_on, F_trays_on, b_trays_on, m_trays_on⟩ := T.d_trays_on
  have G_trays_on := ok_trays_on (P := P) (w := w) (base := base) F_trays_on T
  refine F.ok sc_holder_holds (fun vs H Q E h => ?_) (fun cdv A outer s H vs Q E hr h => ?_)
  · obtain ⟨r, fp, wp, hs, bs, a, b, k, ns, rfl, _⟩ := h
    rfl
  obtain ⟨r, fp, wp, hs, bs, a, b, k, ns, rfl, hR, ok, hfp, hw, kl, nl, l60, q⟩ := h
  obtain ⟨ha, ba, hv, bv, er, eh, eb, alh, alb⟩ := hR.ex
  have hw0 := hw
  obtain ⟨g, ew, eg⟩ := hw
  have hto : ∀ b ∈ bs, b.to < hs.length := fun b hb => (ok.ends b hb).2
  obtain ⟨m0, m9, t0, t9⟩ := sums60 ok l60
  refine ⟨_, (pss_cons (ps_asg (pv 1) (pg_tupK K rfl rfl (pgs_cons (pg_name (i := 3) sc_holder_holds.nd rfl (Or.inl rfl)) (pgs_cons (pg_name (i := 4) sc_holder_holds.nd rfl (Or.inl rfl)) pgs_nil))))
      (pss_cons (ps_set (i := 5) sc_holder_holds.nd rfl (Or.inl rfl) (pe_call G_way_end (hr.mono (by decide)) (by rfl) m_way_end F_way_end.kp b_way_end .nil pass0 (pa_cons (pv 0) (pa_cons (pv 2) pa_nil))))
      (pss_cons (ps_if (pt_cmpR op_isN (pv 5) pe_non (nomark _)) (pss_one (ps_ret pe_bl)) pss_nil)
      (pss_cons (ps_if (pt_not (pt_truthK K rfl (pe_ix (ix_tupK K rfl) (pv 2) pe_int (fun _ _ => rfl)) (by intro _; rfl))) (pss_one (ps_ret (pe_cmpR op_eq (pe_op op_mul (pv 4) (pe_ix (ix_tupK K rfl) (pe_ix (ix_tupK K rfl) (pe_ix (ix_tupK K rfl) (pv 0) pe_int (fun _ _ => rfl)) (pv 5) (fun _ _ => rfl)) pe_int (fun _ _ => rfl))) (pv 3) (nomark _)))) pss_nil)
      (pss_one (ps_ret (pe_and (pe_cmpR op_eq (pv 5) (pe_ix (ix_tupK K rfl) (pv 2) pe_int (fun _ _ => rfl)) (nomark _)) (pe_one (pe_cmpR op_eq (pe_op op_mul (pv 4) (pe_call G_ring_moments (hr.mono (by decide)) (by rfl) m_ring_moments F_ring_moments.kp b_ring_moments .nil pass0 (pa_cons (pv 0) (pa_cons (pv 2) pa_nil)))) (pe_op op_mul (pv 3) (pe_call G_trays_on (hr.mono (by decide)) (by rfl) m_trays_on F_trays_on.kp b_trays_on .nil pass0 (pa_cons (pv 0) (pa_cons (pv 2) pa_nil)))) (nomark _)))))))))), ?_⟩
  refine ⟨_, rfl, fp, _, rfl, SqT.of hfp, rfl, _, _, rfl, _, _, rfl, rfl, ?_⟩
  refine ⟨_, rfl, _, rfl, r, wp, hs, bs, k, ns, rfl, hR, hw0, kl, nl, fun H1 s1 => ?_⟩
  cases we : wayEnd bs k ns with
  | none =>
    refine ⟨_, rfl, rfl, _, rfl, if_bl (fun _ => ?_) (fun z => absurd rfl (of_decide_eq_false z))⟩
    exact q false H1 ⟨(fun z => nomatch z), fun ⟨e, h, _⟩ => by rw [we] at h; cases h⟩ s1
  | some e =>
    have el := wayEnd_lt hto kl we
    refine ⟨_, rfl, rfl, _, rfl, if_bl (fun z => absurd (of_decide_eq_true z) (fun y => nomatch y)) (fun _ => ?_)⟩
    refine ⟨_, rfl, wp, _, _, _, rfl, rfl, SqT.of (s1 _ _ ew), atI_nat (j := 1) rfl, _, .inr (.inl ⟨_, SqT.of (s1 _ _ eg), rfl⟩), if_bl (fun z => ?_) (fun z => ?_)⟩
    · have ehk : hs[e]? = some hs[e] := List.getElem?_eq_getElem el
      obtain ⟨x0, ex0, ⟨t0', r0, rfl, e01, e02⟩⟩ := alh.get ehk
      have emo : momH hs e = hs[e].mom := by unfold momH; rw [ehk]
      have mo := ok.mom _ (List.getElem_mem el)
      refine ⟨_, rfl, _, rfl, r, _, _, _, rfl, rfl, SqT.of (s1 _ _ er), atI_nat (j := 0) rfl, _, rfl, ha, _, _, _, rfl, rfl, SqT.of (s1 _ _ eh), atI_nat ex0, t0', _, _, _, rfl, rfl, SqT.of (s1 _ _ e01), atI_nat (j := 1) rfl, _, _, rfl, rfl, .inr ⟨by omega, by omega⟩, _, rfl, rfl, ?_⟩
      have e0 : ns = [] := by
        cases ns with
        | nil => rfl
        | cons n ns => exact nomatch z
      refine q _ H1 ?_ s1
      show decide (V.int (b * hs[e].mom) = V.int a) = true ↔ _
      rw [decide_eq_true_eq, ← emo]
      constructor
      · exact fun h => ⟨e, we, .inl ⟨e0, V.int.inj h⟩⟩
      · rintro ⟨e', h1, h2⟩
        rw [we] at h1
        cases h1
        rcases h2 with ⟨_, h⟩ | ⟨h, _⟩
        · rw [h]
        · exact absurd e0 h
    · have ne : ns ≠ [] := fun y => by subst y; exact nomatch z
      refine ⟨_, rfl, _, rfl, wp, _, _, _, rfl, rfl, SqT.of (s1 _ _ ew), atI_nat (j := 0) rfl, rfl, _, rfl, ?_⟩
      by_cases ek : e = k
      · rw [decide_eq_true (show onV (some e) = nV k by rw [ek]; rfl)]
        refine if_bl (fun _ => ?_) (fun z => nomatch z)
        refine ⟨_, rfl, _, rfl, _, rfl, r, wp, hs, bs, k, ns, rfl, hR.keep (TK.same s1), hto, hw0.keep (TK.same s1), kl, nl, by omega, fun H2 s2 => ⟨_, _, rfl, rfl, .inr ⟨by omega, by omega⟩, ?_⟩⟩
        have s12 := s1.trans s2
        refine ⟨_, rfl, _, rfl, _, rfl, r, wp, hs, bs, k, ns, rfl, hR.keep (TK.same s12), hw0.keep (TK.same s12), nl, by omega, fun H3 s3 => ⟨_, _, rfl, rfl, .inr ⟨by show -(2 ^ 64) < rtr bs ns; omega, by show rtr bs ns < 2 ^ 64; omega⟩, rfl, ?_⟩⟩
        refine q _ H3 ?_ (s12.trans s3)
        show decide (V.int (b * rmom hs bs ns) = V.int (a * rtr bs ns)) = true ↔ _
        rw [decide_eq_true_eq]
        constructor
        · exact fun h => ⟨e, we, .inr ⟨ne, ek, V.int.inj h⟩⟩
        · rintro ⟨e', h1, h2⟩
          rcases h2 with ⟨h, _⟩ | ⟨_, _, h⟩
          · exact absurd h ne
          · rw [h]
      · rw [decide_eq_false (show ¬ onV (some e) = nV k from fun z => ek (by have := V.int.inj z; omega))]
        refine if_bl (fun z => nomatch z) (fun _ => ?_)
        refine q false H1 ⟨(fun z => nomatch z), fun ⟨e', h1, h2⟩ => ?_⟩ s1
        rw [we] at h1
        cases h1
        rcases h2 with ⟨h, _⟩ | ⟨_, h, _⟩
        · exact absurd h ne
        · exact absurd h ek
def sp_law_holder_holds (K : PySem.W.Frag) : Sp := sp_holder_holds K
theorem ok_law_holder_holds {f : Addr} {fd : FuncData} (F : Fun K "_law_holder_holds" "_law_holder_holds" s_law_holder_holds f fd) (T : Top K mg) : FnOk P w K mg base CX0 3 f fd ["_law_room_here", "_law_fraction", "_law_way"] (sp_law_holder_holds K) := by
  obtain ⟨f_law_end, fd_law_end, F_law_end, b_law_end, m_law_end⟩ := T.d_law_end
  have G_law_end := ok_law_end (P := P) (w := w) (base := base) F_law_end T
  obtain ⟨f_law_ring_moments, fd_law_ring_moments, F_law_ring_moments, b_law_ring_moments, m_law_ring_moments⟩ := T.d_law_ring_moments
  have G_law_ring_moments := ok_law_ring_moments (P := P) (w := w) (base := base) F_law_ring_moments T
  obtain ⟨f_law_trays, fd_law_trays, F_law_trays, b_law_trays, m_law_trays⟩ := T.d_law_trays
  have G_law_trays := ok_law_trays (P := P) (w := w) (base := base) F_law_trays T
  refine F.ok sc_law_holder_holds (fun vs H Q E h => ?_) (fun cdv A outer s H vs Q E hr h => ?_)
  · obtain ⟨r, fp, wp, hs, bs, a, b, k, ns, rfl, _⟩ := h
    rfl
  obtain ⟨r, fp, wp, hs, bs, a, b, k, ns, rfl, hR, ok, hfp, hw, kl, nl, l60, q⟩ := h
  obtain ⟨ha, ba, hv, bv, er, eh, eb, alh, alb⟩ := hR.ex
  have hw0 := hw
  obtain ⟨g, ew, eg⟩ := hw
  have hto : ∀ b ∈ bs, b.to < hs.length := fun b hb => (ok.ends b hb).2
  obtain ⟨m0, m9, t0, t9⟩ := sums60 ok l60
  refine ⟨_, (pss_cons (ps_set (i := 3) sc_law_holder_holds.nd rfl (Or.inl rfl) (pe_call G_law_end (hr.mono (by decide)) (by rfl) m_law_end F_law_end.kp b_law_end .nil pass0 (pa_cons (pv 0) (pa_cons (pv 2) pa_nil))))
      (pss_cons (ps_if (pt_cmpR op_isN (pv 3) pe_non (nomark _)) (pss_one (ps_ret pe_bl)) pss_nil)
      (pss_cons (ps_if (pt_cmpR op_eq (pe_callB (call_len_seqK K rfl) (by rfl) T.m_len (by decide +kernel) (pa_cons (pe_ix (ix_tupK K rfl) (pv 2) pe_int (fun _ _ => rfl)) pa_nil)) pe_int (nomark _)) (pss_one (ps_ret (pe_cmpR op_eq (pe_op op_mul (pe_ix (ix_tupK K rfl) (pv 1) pe_int (fun _ _ => rfl)) (pe_ix (ix_tupK K rfl) (pe_ix (ix_tupK K rfl) (pe_ix (ix_tupK K rfl) (pv 0) pe_int (fun _ _ => rfl)) (pe_ix (ix_tupK K rfl) (pv 2) pe_int (fun _ _ => rfl)) (fun _ _ => rfl)) pe_int (fun _ _ => rfl))) (pe_ix (ix_tupK K rfl) (pv 1) pe_int (fun _ _ => rfl)) (nomark _)))) pss_nil)
      (pss_cons (ps_set (i := 4) sc_law_holder_holds.nd rfl (Or.inl rfl) (pe_op op_mul (pe_ix (ix_tupK K rfl) (pv 1) pe_int (fun _ _ => rfl)) (pe_call G_law_ring_moments (hr.mono (by decide)) (by rfl) m_law_ring_moments F_law_ring_moments.kp b_law_ring_moments .nil pass0 (pa_cons (pv 0) (pa_cons (pv 2) pa_nil)))))
      (pss_one (ps_ret (pe_and (pe_cmpR op_eq (pv 3) (pe_ix (ix_tupK K rfl) (pv 2) pe_int (fun _ _ => rfl)) (nomark _)) (pe_one (pe_cmpR op_eq (pv 4) (pe_op op_mul (pe_ix (ix_tupK K rfl) (pv 1) pe_int (fun _ _ => rfl)) (pe_call G_law_trays (hr.mono (by decide)) (by rfl) m_law_trays F_law_trays.kp b_law_trays .nil pass0 (pa_cons (pv 0) (pa_cons (pv 2) pa_nil)))) (nomark _)))))))))), ?_⟩
  refine ⟨_, rfl, _, rfl, r, wp, hs, bs, k, ns, rfl, hR, hw0, nl, fun H1 s1 => ?_⟩
  cases we : wayEnd bs k ns with
  | none =>
    refine ⟨_, rfl, rfl, _, rfl, if_bl (fun _ => ?_) (fun z => absurd rfl (of_decide_eq_false z))⟩
    exact q false H1 ⟨(fun z => nomatch z), fun ⟨e, h, _⟩ => by rw [we] at h; cases h⟩ s1
  | some e =>
    have el := wayEnd_lt hto kl we
    refine ⟨_, rfl, rfl, _, rfl, if_bl (fun z => absurd (of_decide_eq_true z) (fun y => nomatch y)) (fun _ => ?_)⟩
    refine ⟨_, rfl, wp, _, _, _, rfl, rfl, SqT.of (s1 _ _ ew), atI_nat (j := 1) rfl, g, _, rfl, .inr (SqT.of (s1 _ _ eg)), rfl, _, rfl, if_bl (fun z => ?_) (fun z => ?_)⟩
    · have ehk : hs[k]? = some hs[k] := List.getElem?_eq_getElem kl
      obtain ⟨x0, ex0, ⟨t0', r0, rfl, e01, e02⟩⟩ := alh.get ehk
      have emo : momH hs k = hs[k].mom := by unfold momH; rw [ehk]
      have mo := ok.mom _ (List.getElem_mem kl)
      refine ⟨_, rfl, fp, _, _, _, rfl, rfl, SqT.of (s1 _ _ hfp), atI_nat (j := 1) rfl, _, rfl, r, _, _, _, rfl, rfl, SqT.of (s1 _ _ er), atI_nat (j := 0) rfl, _, rfl, wp, _, _, _, rfl, rfl, SqT.of (s1 _ _ ew), atI_nat (j := 0) rfl, ha, _, _, _, rfl, rfl, SqT.of (s1 _ _ eh), atI_nat ex0, t0', _, _, _, rfl, rfl, SqT.of (s1 _ _ e01), atI_nat (j := 1) rfl, _, _, rfl, rfl, .inr ⟨by omega, by omega⟩, _, rfl, fp, _, _, _, rfl, rfl, SqT.of (s1 _ _ hfp), atI_nat (j := 0) rfl, rfl, ?_⟩
      have e0 : ns = [] := by
        cases ns with
        | nil => rfl
        | cons n ns => exact absurd (of_decide_eq_true z) (by intro y; have := V.int.inj y; rw [List.length_map, List.length_cons] at this; omega)
      have ek : e = k := by subst e0; cases we; rfl
      refine q _ H1 ?_ s1
      show decide (V.int (b * hs[k].mom) = V.int a) = true ↔ _
      rw [decide_eq_true_eq, ← emo]
      constructor
      · exact fun h => ⟨e, we, .inl ⟨e0, by rw [ek]; exact V.int.inj h⟩⟩
      · rintro ⟨e', h1, h2⟩
        rw [we] at h1
        cases h1
        rcases h2 with ⟨_, h⟩ | ⟨h, _⟩
        · rw [← ek, h]
        · exact absurd e0 h
    · have ne : ns ≠ [] := fun y => by subst y; exact absurd rfl (of_decide_eq_false z)
      refine ⟨_, rfl, fp, _, _, _, rfl, rfl, SqT.of (s1 _ _ hfp), atI_nat (j := 1) rfl, _, rfl, _, rfl, r, wp, hs, bs, k, ns, rfl, hR.keep (TK.same s1), hto, hw0.keep (TK.same s1), kl, nl, by omega, fun H2 s2 => ⟨_, _, rfl, rfl, .inr ⟨by omega, by omega⟩, ?_⟩⟩
      have s12 := s1.trans s2
      refine ⟨_, rfl, _, rfl, wp, _, _, _, rfl, rfl, SqT.of (s12 _ _ ew), atI_nat (j := 0) rfl, rfl, _, rfl, ?_⟩
      by_cases ek : e = k
      · rw [decide_eq_true (show onV (some e) = nV k by rw [ek]; rfl)]
        refine if_bl (fun _ => ?_) (fun z => nomatch z)
        refine ⟨_, rfl, _, rfl, fp, _, _, _, rfl, rfl, SqT.of (s12 _ _ hfp), atI_nat (j := 0) rfl, _, rfl, _, rfl, r, wp, hs, bs, k, ns, rfl, hR.keep (TK.same s12), hw0.keep (TK.same s12), nl, by omega, fun H3 s3 => ⟨_, _, rfl, rfl, .inr ⟨by show -(2 ^ 64) < rtr bs ns; omega, by show rtr bs ns < 2 ^ 64; omega⟩, rfl, ?_⟩⟩
        refine q _ H3 ?_ (s12.trans s3)
        show decide (V.int (b * rmom hs bs ns) = V.int (a * rtr bs ns)) = true ↔ _
        rw [decide_eq_true_eq]
        constructor
        · exact fun h => ⟨e, we, .inr ⟨ne, ek, V.int.inj h⟩⟩
        · rintro ⟨e', h1, h2⟩
          rcases h2 with ⟨h, _⟩ | ⟨_, _, h⟩
          · exact absurd h ne
          · rw [h]
      · rw [decide_eq_false (show ¬ onV (some e) = nV k from fun z => ek (by have := V.int.inj z; omega))]
        refine if_bl (fun z => nomatch z) (fun _ => ?_)
        refine q false H2 ⟨(fun z => nomatch z), fun ⟨e', h1, h2⟩ => ?_⟩ s12
        rw [we] at h1
        cases h1
        rcases h2 with ⟨h, _⟩ | ⟨_, h, _⟩
        · exact absurd h ne
        · exact absurd h ek
end
theorem cutT (ns : List Nat) (a : Nat) : cutV (ns.map nV) none (some ((a : Nat) : Int)) = (ns.take a).map nV := by rw [cut_take, List.map_take]
theorem cutD (ns : List Nat) (a : Nat) : cutV (ns.map nV) (some ((a : Nat) : Int)) none = (ns.drop a).map nV := by rw [cut_drop, List.map_drop]
theorem cutM (ns : List Nat) (a : Nat) : ∃ cs : List Nat, cutV (ns.map nV) (some ((a : Nat) : Int)) (some (((a : Nat) : Int) + 1)) = cs.map nV ∧ cs.length ≤ 1 ∧ ∀ x ∈ cs, x ∈ ns := by
  refine ⟨(ns.drop (min a ns.length)).take (min (a + 1) ns.length - min a ns.length), ?_, ?_, fun x hx => List.mem_of_mem_drop (List.mem_of_mem_take hx)⟩
  · unfold cutV
    rw [show ((a : Nat) : Int) + 1 = ((a + 1 : Nat) : Int) by omega, HT.sIx_nat, HT.sIx_nat, List.length_map, List.map_take, List.map_drop]
  · rw [List.length_take, List.length_drop]
    omega
section
variable {P : Program} {w : World} {K : PySem.W.Frag} {mg : Str → Option Value} {base : Heap}
def sp_law_any_way (K : PySem.W.Frag) : Sp := fun vs H Q _ => ∃ (f c r : Addr) (hs : List HR) (bs : List BR) (m : Int), vs = [.ref f, .ref r, .int m] ∧ 0 ≤ m ∧ m ≤ 40 ∧ Flow H f c ∧ RoomAt H r hs bs ∧ BOk hs bs ∧ 0 < hs.length ∧
  ∀ (p : Addr) (k : Nat) (ms : List Nat) (H' : Hp), PairAt H' p k ms → k < hs.length → (∀ n ∈ ms, n < bs.length) → (ms.length : Int) ≤ m → Flow H' f c → But f H H' → Q (.ref p) H'
theorem ok_law_any_way {f : Addr} {fd : FuncData} (F : Fun K "_law_any_way" "_law_any_way" s_law_any_way f fd) (T : Top K mg) : FnOk P w K mg base CX0 2 f fd ["_law_flow_here", "_law_room_here", "_law_most"] (sp_law_any_way K) := by
  obtain ⟨f_law_pick, fd_law_pick, F_law_pick, b_law_pick, m_law_pick⟩ := T.d_law_pick
  have G_law_pick := ok_law_pick (P := P) (w := w) (base := base) F_law_pick T
  refine F.ok sc_law_any_way (fun vs H Q E h => ?_) (fun cdv A outer s H vs Q E hr h => ?_)
  · obtain ⟨f, c, r, hs, bs, m, rfl, _⟩ := h
    rfl
  obtain ⟨f, c, r, hs, bs, m, rfl, m0, m1, hF, hR, ok, pos, q⟩ := h
  obtain ⟨ha, ba, hv, bv, er, eh, eb, alh, alb⟩ := hR.ex
  have lhv := alh.length
  have lbv := alb.length
  have lh := ok.hands
  have lb := ok.many
  refine ⟨_, (pss_cons (ps_set (i := 3) sc_law_any_way.nd rfl (Or.inr rfl) (pe_call G_law_pick (hr.mono (by decide)) (by rfl) m_law_pick F_law_pick.kp b_law_pick .nil pass0 (pa_cons (pv 0) (pa_cons (pe_callB (call_len_seqK K rfl) (by rfl) T.m_len (by decide +kernel) (pa_cons (pe_ix (ix_tupK K rfl) (pv 1) pe_int (fun _ _ => rfl)) pa_nil)) pa_nil))))
      (pss_cons (ps_set (i := 4) sc_law_any_way.nd rfl (Or.inl rfl) (pv 3))
      (pss_cons (ps_set (i := 5) sc_law_any_way.nd rfl (Or.inl rfl) (pe_lst pa_nil))
      (pss_cons (ps_for PassesOwn.never rfl (pi_range1 (by rfl) T.m_range (pa_cons (pe_call G_law_pick (hr.mono (by decide)) (by rfl) m_law_pick F_law_pick.kp b_law_pick .nil pass0 (pa_cons (pv 0) (pa_cons (pe_op op_add (pv 2) pe_int) pa_nil))) pa_nil)) (pg_name (i := 6) sc_law_any_way.nd rfl (Or.inl rfl))
        (pss_cons (ps_setLc (i := 7) (own := [("_law_b", 8), ("_law_belt", 9)]) (g := gTup K 2 (gCons (gName 8) (gCons (gName 9) gNil))) (by rfl) sc_law_any_way.nd rfl rfl (sw_true rfl rfl rfl (by decide +kernel)) (pi_enumT K rfl (by rfl) T.m_enumerate (pa_cons (pe_ix (ix_tupK K rfl) (pv 1) pe_int (fun _ _ => rfl)) pa_nil)) (blkOk_by (own := [("_law_b", 8), ("_law_belt", 9)]) (N := N_law_any_way) (sc := defScope s_law_any_way) (by decide +kernel)) (fun _ _ _ _ _ => (pg_tupK K rfl rfl (pgs_cons (pg_name (i := 8) sc_law_any_way.nd rfl (Or.inl rfl)) (pgs_cons (pg_name (i := 9) sc_law_any_way.nd rfl (Or.inl rfl)) pgs_nil)))) (fun _ _ _ _ _ => pts_one (pt_cmpR op_eq (pe_ix (ix_tupK K rfl) (pv 9) pe_int (fun _ _ => rfl)) (pv 3) (nomark _))) (fun _ _ _ _ _ => (pv 8)))
      (pss_one (ps_if (pt_cmpR op_gt (pe_callB (call_len_seqK K rfl) (by rfl) T.m_len (by decide +kernel) (pa_cons (pv 7) pa_nil)) pe_int (nomark _)) (pss_cons (ps_expr (pe_bmK K rfl PySem.F.plainAttrs_list PySem.F.slot_list_append PySem.F.type_list_append mt_append (pv 5) (pa_cons (pe_ix (ix_listK K rfl) (pv 7) (pe_call G_law_pick (hr.mono (by decide)) (by rfl) m_law_pick F_law_pick.kp b_law_pick .nil pass0 (pa_cons (pv 0) (pa_cons (pe_callB (call_len_seqK K rfl) (by rfl) T.m_len (by decide +kernel) (pa_cons (pv 7) pa_nil)) pa_nil))) (fun _ _ => rfl)) pa_nil)))
      (pss_one (ps_set (i := 3) sc_law_any_way.nd rfl (Or.inr rfl) (pe_ix (ix_tupK K rfl) (pe_ix (ix_tupK K rfl) (pe_ix (ix_tupK K rfl) (pv 1) pe_int (fun _ _ => rfl)) (pe_ix (ix_listK K rfl) (pv 5) (pe_un un_neg pe_int) (fun _ _ => rfl)) (fun _ _ => rfl)) pe_int (fun _ _ => rfl))))) pss_nil))))
      (pss_one (ps_ret (pe_tup (pa_cons (pv 4) (pa_cons (pe_callTy (call_tuple_ofK K rfl) (by rfl) T.m_tuple (by decide +kernel) (pa_cons (pv 5) pa_nil)) pa_nil))))))))), ?_⟩
  refine ⟨_, rfl, _, rfl, r, _, _, _, rfl, rfl, SqT.of er, atI_nat (j := 0) rfl, ha, _, rfl, .inr (SqT.of eh), f, c, _, rfl, by omega, log_small (by omega), hF, fun v H1 v0 v1 F1 B1 => ?_⟩
  obtain ⟨k, rfl⟩ : ∃ k : Nat, v = ((k : Nat) : Int) := ⟨v.toNat, by omega⟩
  refine ⟨_, rfl, ?_⟩
  refine ⟨(by show 0 ≤ sizeLine; decide), fun al nal => ?_⟩
  have af : al ≠ f := F1.ne nal
  have ac : al ≠ c := F1.nec nal
  have al0 : H al = none := B1.none nal af
  have F2 := F1.new (o := .lst []) nal
  have hm1 : (m + 1).natAbs.log2 < 9000 := by
    obtain ⟨z, rfl⟩ : ∃ z : Nat, m = ((z : Nat) : Int) := ⟨m.toNat, by omega⟩
    exact log_small (m := z + 1) (by omega)
  refine ⟨_, rfl, _, rfl, _, _, rfl, rfl, f, c, _, rfl, by omega, hm1, F2, fun z H3 z0 z1 F3 B3 => ?_⟩
  refine ⟨_, rfl, by omega, by omega, for_range (lo := 0) (n := z.toNat) (fun i σ H4 => ∃ (cur : Nat) (ns : List Nat) (v6 v7 : Option V), σ = [some (.ref f), some (.ref r), some (.int m), some (nV cur), some (nV k), some (.ref al), v6, v7, none, none] ∧ H4 al = some (.lst (ns.map nV)) ∧ (∀ n ∈ ns, n < bs.length) ∧ ns.length ≤ i ∧ Flow H4 f c ∧ But f H H4)
    ⟨k, [], none, none, rfl, B3 _ _ upd_same af, (fun _ z => nomatch z), Nat.le_refl _, F3, (B1.new nal).trans B3⟩ ?_ ?_⟩
  · rintro i σ H4 hi ⟨cur, ns, v6, v7, rfl, hal, hn, ln, F4, B4⟩
    have K4 := TK.but hF B4
    refine ⟨_, rfl, r, _, _, _, rfl, rfl, SqT.of (K4 _ _ er), atI_nat (j := 1) rfl, ba, bv, rfl, SqT.of (K4 _ _ eb), fun D nD => lc_it (J := IteT K ba bv) (n := bv.length) (fun j H5 => H5 D = some (.lst (((List.range j).filter fun j => decide (bs[j]?.map BR.one = some cur)).map nV)) ∧ Same H4 H5) ⟨upd_same, same_new nD⟩ ?_ ?_ ?_ ?_⟩
    · rintro j H5 hj ⟨hD, s5⟩
      exact ⟨SqT.of (s5 _ _ (K4 _ _ eb)), hj⟩
    · rintro H5 ⟨hD, s5⟩
      exact ⟨SqT.of (s5 _ _ (K4 _ _ eb)), rfl⟩
    · rintro j v H5 H6 hj ⟨hD, s5⟩ ⟨t, y, rfl, nt, rfl, ey⟩
      obtain ⟨b, eb2, ⟨t2, g, rfl, e1, e2⟩⟩ := alb.getL ey
      have s6 := s5.trans (same_new (o := .tup [V.int ((j : Nat) : Int), V.ref t2]) nt)
      have hD6 := same_new (o := .tup [V.int ((j : Nat) : Int), V.ref t2]) nt _ _ hD
      have few := filt_len (p := fun j => decide (bs[j]?.map BR.one = some cur)) j
      refine ⟨t, _, rfl, SqT.of upd_same, rfl, _, _, rfl, _, _, rfl, rfl, rfl, _, rfl, t2, _, _, _, rfl, rfl, SqT.of (s6 _ _ (K4 _ _ e1)), atI_nat (j := 0) rfl, _, rfl, rfl, _, rfl, if_bl (fun c => ?_) (fun c => ?_)⟩
      · have c : b.one = cur := by have := V.int.inj (of_decide_eq_true c); omega
        refine ⟨_, rfl, _, hD6, by rw [List.length_map]; exact small1000 (by omega), ?_, Same.own s6 nD⟩
        rw [upd_same, filt_succ, if_pos (decide_eq_true (by rw [eb2, ← c]; rfl)), List.map_append]
        rfl
      · have c : ¬ b.one = cur := fun z => of_decide_eq_false c (by rw [z])
        refine ⟨?_, s6⟩
        rw [filt_succ, if_neg fun z => c (by have := of_decide_eq_true z; rw [eb2] at this; exact Option.some.inj this), List.append_nil]
        exact hD6
    · rintro H5 ⟨hD, s5⟩
      obtain ⟨som, esom, hsom⟩ : ∃ som : List Nat, H5 D = some (.lst (som.map nV)) ∧ ∀ x ∈ som, x < bs.length := by
        refine ⟨_, hD, fun x hx => ?_⟩
        have := List.mem_range.mp (List.mem_filter.mp hx).1
        omega
      have lsom : som.length ≤ 20 := by
        rw [hD] at esom
        have e := congrArg (fun o => match o with | some (HO.lst l) => l.length | _ => 0) esom
        dsimp only at e
        rw [List.length_map, List.length_map] at e
        have := filt_len (p := fun j => decide (bs[j]?.map BR.one = some cur)) bv.length
        omega
      have F5 := F4.same s5
      have hal5 := s5 _ _ hal
      refine ⟨_, rfl, D, _, rfl, .inl (SqL.of esom), _, _, rfl, rfl, _, rfl, if_bl (fun c1 => ?_) (fun c1 => ?_)⟩
      · have c1 : (0 : Int) < (((som.map nV).length : Nat) : Int) := of_decide_eq_true c1
        rw [List.length_map] at c1
        have df : D ≠ f := F4.ne nD
        refine ⟨_, rfl, .inl ⟨rfl, _, SqL.of hal5⟩, _, rfl, _, rfl, _, rfl, D, _, rfl, .inl (SqL.of esom), f, c, _, rfl, by rw [List.length_map]; omega, by rw [List.length_map]; exact log_small (by omega), F5, fun y H6 y0 y1 F6 B6 => ?_⟩
        rw [List.length_map] at y1
        obtain ⟨yk, rfl⟩ : ∃ k : Nat, y = ((k : Nat) : Int) := ⟨y.toNat, by omega⟩
        have yl : yk < som.length := by omega
        have eyk : som[yk]? = some som[yk] := List.getElem?_eq_getElem yl
        have nb := hsom _ (List.getElem_mem yl)
        have hal6 := B6 _ _ hal5 af
        refine ⟨D, _, _, _, rfl, rfl, SqL.of (B6 _ _ esom df), atI_nat (by rw [List.getElem?_map, eyk]; rfl), al, _, _, rfl, rfl, hal6, by rw [List.length_map]; exact small1000 (by omega), ?_⟩
        have B7 : But f H (upd H6 al (.lst (ns.map nV ++ [nV som[yk]]))) := ((B4.same s5).trans B6).own al0
        have K7 := TK.but hF B7
        have ebn : bs[som[yk]]? = some bs[som[yk]] := List.getElem?_eq_getElem nb
        obtain ⟨x, ex, ⟨t2, g2, rfl, e1, e2⟩⟩ := alb.get ebn
        refine ⟨_, rfl, r, _, _, _, rfl, rfl, SqT.of (K7 _ _ er), atI_nat (j := 1) rfl, _, rfl, _, rfl, al, _, _, _, rfl, rfl, SqL.of upd_same, atI_last _ _, ba, _, _, _, rfl, rfl, SqT.of (K7 _ _ eb), atI_nat ex, t2, _, _, _, rfl, rfl, SqT.of (K7 _ _ e1), atI_nat (j := 1) rfl, ?_⟩
        refine ⟨bs[som[yk]].to, ns ++ [som[yk]], _, _, rfl, ?_, ?_, by rw [List.length_append]; show ns.length + 1 ≤ _; omega, F6.lst af ac, B7⟩
        · rw [upd_same, List.map_append]; rfl
        · intro n hm
          rcases List.mem_append.mp hm with hm | hm
          · exact hn n hm
          · obtain rfl : n = som[yk] := by simpa using hm
            exact nb
      · exact ⟨cur, ns, _, _, rfl, hal5, hn, by omega, F5, B4.same s5⟩
  · rintro σ H4 ⟨cur, ns, v6, v7, rfl, hal, hn, ln, F4, B4⟩
    refine ⟨_, rfl, _, rfl, al, _, rfl, .inl ⟨SqL.of hal, fun p np => ⟨(by show 2 ≤ sizeLine; decide), fun p2 np2 => ?_⟩⟩⟩
    exact q p2 k ns _ ⟨p, upd_same, same_new np2 _ _ upd_same⟩ (by omega) hn (by omega) ((F4.new np).new np2) ((B4.new np).new np2)
def sp_law_way_otherwise (K : PySem.W.Frag) : Sp := fun vs H Q _ => ∃ (f c r t : Addr) (hs : List HR) (bs : List BR) (k : Nat) (ns : List Nat), vs = [.ref f, .ref r, .ref t] ∧ Flow H f c ∧ RoomAt H r hs bs ∧ BOk hs bs ∧ 0 < hs.length ∧ PairAt H t k ns ∧ k < hs.length ∧ (∀ n ∈ ns, n < bs.length) ∧ ns.length ≤ 100 ∧
  ∀ (p : Addr) (k : Nat) (ms : List Nat) (H' : Hp), PairAt H' p k ms → k < hs.length → (∀ n ∈ ms, n < bs.length) → ms.length ≤ ns.length + 1 → Flow H' f c → But f H H' → Q (.ref p) H'
theorem ok_law_way_otherwise {f : Addr} {fd : FuncData} (F : Fun K "_law_way_otherwise" "_law_way_otherwise" s_law_way_otherwise f fd) (T : Top K mg) : FnOk P w K mg base CX0 2 f fd ["_law_flow_here", "_law_room_here", "_law_way"] (sp_law_way_otherwise K) := by
  obtain ⟨f_law_pick, fd_law_pick, F_law_pick, b_law_pick, m_law_pick⟩ := T.d_law_pick
  have G_law_pick := ok_law_pick (P := P) (w := w) (base := base) F_law_pick T
  refine F.ok sc_law_way_otherwise (fun vs H Q E h => ?_) (fun cdv A outer s H vs Q E hr h => ?_)
  · obtain ⟨f, c, r, t, hs, bs, k, ns, rfl, _⟩ := h
    rfl
  obtain ⟨f, c, r, t, hs, bs, k, ns, rfl, hF, hR, ok, pos, ⟨g, et, eg⟩, hk, hn, ln, q⟩ := h
  obtain ⟨ha, ba, hv, bv, er, eh, eb, alh, alb⟩ := hR.ex
  have lhv := alh.length
  have lbv := alb.length
  have lh := ok.hands
  have lb := ok.many
  have lg1 : (((ns.map nV).length : Nat) + 1 : Int).natAbs.log2 < 9000 := by
    rw [List.length_map]
    exact log_small (m := ns.length + 1) (by omega)
  refine ⟨_, (pss_cons (ps_set (i := 3) sc_law_way_otherwise.nd rfl (Or.inl rfl) (pe_call G_law_pick (hr.mono (by decide)) (by rfl) m_law_pick F_law_pick.kp b_law_pick .nil pass0 (pa_cons (pv 0) (pa_cons pe_int pa_nil))))
      (pss_cons (ps_set (i := 4) sc_law_way_otherwise.nd rfl (Or.inl rfl) (pe_call G_law_pick (hr.mono (by decide)) (by rfl) m_law_pick F_law_pick.kp b_law_pick .nil pass0 (pa_cons (pv 0) (pa_cons (pe_op op_add (pe_callB (call_len_seqK K rfl) (by rfl) T.m_len (by decide +kernel) (pa_cons (pe_ix (ix_tupK K rfl) (pv 2) pe_int (fun _ _ => rfl)) pa_nil)) pe_int) pa_nil))))
      (pss_cons (ps_if (pt_cmpR op_eq (pv 3) pe_int (nomark _)) (pss_one (ps_ret (pe_tup (pa_cons (pe_ix (ix_tupK K rfl) (pv 2) pe_int (fun _ _ => rfl)) (pa_cons (pe_tup pa_nil) pa_nil))))) pss_nil)
      (pss_cons (ps_if (PW.pt (pw_or (pt_cmpR op_eq (pv 3) pe_int (nomark _)) (pw_or1 (pt_cmpR op_eq (pe_callB (call_len_seqK K rfl) (by rfl) T.m_len (by decide +kernel) (pa_cons (pe_ix (ix_tupK K rfl) (pv 1) pe_int (fun _ _ => rfl)) pa_nil)) pe_int (nomark _))))) (pss_one (ps_ret (pe_tup (pa_cons (pe_call G_law_pick (hr.mono (by decide)) (by rfl) m_law_pick F_law_pick.kp b_law_pick .nil pass0 (pa_cons (pv 0) (pa_cons (pe_callB (call_len_seqK K rfl) (by rfl) T.m_len (by decide +kernel) (pa_cons (pe_ix (ix_tupK K rfl) (pv 1) pe_int (fun _ _ => rfl)) pa_nil)) pa_nil))) (pa_cons (pe_ix (ix_tupK K rfl) (pv 2) pe_int (fun _ _ => rfl)) pa_nil))))) pss_nil)
      (pss_cons (ps_set (i := 5) sc_law_way_otherwise.nd rfl (Or.inl rfl) (pe_call G_law_pick (hr.mono (by decide)) (by rfl) m_law_pick F_law_pick.kp b_law_pick .nil pass0 (pa_cons (pv 0) (pa_cons (pe_callB (call_len_seqK K rfl) (by rfl) T.m_len (by decide +kernel) (pa_cons (pe_ix (ix_tupK K rfl) (pv 1) pe_int (fun _ _ => rfl)) pa_nil)) pa_nil))))
      (pss_cons (ps_if (pt_cmpR op_eq (pv 3) pe_int (nomark _)) (pss_one (ps_ret (pe_tup (pa_cons (pe_ix (ix_tupK K rfl) (pv 2) pe_int (fun _ _ => rfl)) (pa_cons (pe_op (op_catAK K rfl) (pe_slice (sl_tupAK K rfl) (pe_ix (ix_tupK K rfl) (pv 2) pe_int (fun _ _ => rfl)) po_none (po_some (pv 4))) (pe_slice (sl_tupAK K rfl) (pe_ix (ix_tupK K rfl) (pv 2) pe_int (fun _ _ => rfl)) (po_some (pe_op op_add (pv 4) pe_int)) po_none)) pa_nil))))) pss_nil)
      (pss_cons (ps_if (pt_cmpR op_eq (pv 3) pe_int (nomark _)) (pss_one (ps_ret (pe_tup (pa_cons (pe_ix (ix_tupK K rfl) (pv 2) pe_int (fun _ _ => rfl)) (pa_cons (pe_op (op_catAK K rfl) (pe_op (op_catAK K rfl) (pe_slice (sl_tupAK K rfl) (pe_ix (ix_tupK K rfl) (pv 2) pe_int (fun _ _ => rfl)) po_none (po_some (pv 4))) (pe_tup (pa_cons (pv 5) pa_nil))) (pe_slice (sl_tupAK K rfl) (pe_ix (ix_tupK K rfl) (pv 2) pe_int (fun _ _ => rfl)) (po_some (pv 4)) po_none)) pa_nil))))) pss_nil)
      (pss_cons (ps_if (pt_cmpR op_eq (pv 3) pe_int (nomark _)) (pss_one (ps_ret (pe_tup (pa_cons (pe_ix (ix_tupK K rfl) (pv 2) pe_int (fun _ _ => rfl)) (pa_cons (pe_op (op_catAK K rfl) (pe_op (op_catAK K rfl) (pe_slice (sl_tupAK K rfl) (pe_ix (ix_tupK K rfl) (pv 2) pe_int (fun _ _ => rfl)) po_none (po_some (pv 4))) (pe_tup (pa_cons (pv 5) pa_nil))) (pe_slice (sl_tupAK K rfl) (pe_ix (ix_tupK K rfl) (pv 2) pe_int (fun _ _ => rfl)) (po_some (pe_op op_add (pv 4) pe_int)) po_none)) pa_nil))))) pss_nil)
      (pss_one (ps_ret (pe_tup (pa_cons (pe_ix (ix_tupK K rfl) (pv 2) pe_int (fun _ _ => rfl)) (pa_cons (pe_op (op_catAK K rfl) (pe_op (op_catAK K rfl) (pe_slice (sl_tupAK K rfl) (pe_ix (ix_tupK K rfl) (pv 2) pe_int (fun _ _ => rfl)) po_none (po_some (pv 4))) (pe_slice (sl_tupAK K rfl) (pe_ix (ix_tupK K rfl) (pv 2) pe_int (fun _ _ => rfl)) (po_some (pv 4)) (po_some (pe_op op_add (pv 4) pe_int)))) (pe_slice (sl_tupAK K rfl) (pe_ix (ix_tupK K rfl) (pv 2) pe_int (fun _ _ => rfl)) (po_some (pv 4)) po_none)) pa_nil))))))))))))), ?_⟩
  refine ⟨_, rfl, f, c, 6, rfl, by decide, by decide +kernel, hF, fun z H1 z0 z1 F1 B1 => ?_⟩
  have K1 := TK.but hF B1
  refine ⟨_, rfl, _, rfl, t, _, _, _, rfl, rfl, SqT.of (K1 _ _ et), atI_nat (j := 1) rfl, g, _, rfl, .inr (SqT.of (K1 _ _ eg)), _, _, rfl, rfl, f, c, _, rfl, by omega, lg1, F1, fun a H2 a0 a1 F2 B2 => ?_⟩
  rw [List.length_map] at a1
  obtain ⟨a, rfl⟩ : ∃ k : Nat, a = ((k : Nat) : Int) := ⟨a.toNat, by omega⟩
  have B2 := B1.trans B2
  have K2 := TK.but hF B2
  have et2 := K2 _ _ et
  have eg2 := K2 _ _ eg
  have done : ∀ (ms : List Nat) (u : Addr) (H4 : Hp), H4 u = some (.tup (ms.map nV)) → Flow H4 f c → But f H H4 → (∀ n ∈ ms, n < bs.length) → ms.length ≤ ns.length + 1 → ∀ p, H4 p = none → Q (.ref p) (upd H4 p (.tup [nV k, V.ref u])) := fun ms u H4 hu F4 B4 hm lm p np =>
    q p k ms _ ⟨u, upd_same, same_new np _ _ hu⟩ hk hm lm (F4.new np) (B4.new np)
  refine ⟨_, rfl, rfl, _, rfl, if_bl (fun _ => ?_) (fun _ => ?_)⟩
  · refine ⟨_, rfl, t, _, _, _, rfl, rfl, SqT.of et2, atI_nat (j := 0) rfl, (by show 0 ≤ sizeLine; decide), fun u nu => ⟨(by show 2 ≤ sizeLine; decide), fun p np => ?_⟩⟩
    exact done [] u _ upd_same (F2.new nu) (B2.new nu) (fun _ z => nomatch z) (Nat.zero_le _) p np
  have other : ∀ (v : Int) (H4 : Hp), 0 ≤ v → v < ((hv.length : Nat) : Int) → Flow H4 f c → But f H2 H4 → ∀ p, H4 p = none → Q (.ref p) (upd H4 p (.tup [V.int v, V.ref g])) := fun v H4 v0 v1 F4 B4 p np => by
    obtain ⟨v, rfl⟩ : ∃ k : Nat, v = ((k : Nat) : Int) := ⟨v.toNat, by omega⟩
    exact q p v ns _ ⟨g, upd_same, same_new np _ _ (TK.but F2 B4 _ _ eg2)⟩ (by omega) hn (by omega) (F4.new np) ((B2.trans B4).new np)
  refine ⟨_, rfl, rfl, _, rfl, if_bl (fun _ => ?_) (fun _ => ?_)⟩
  · exact if_bl (fun _ => ⟨_, rfl, _, rfl, r, _, _, _, rfl, rfl, SqT.of (K2 _ _ er), atI_nat (j := 0) rfl, ha, _, rfl, .inr (SqT.of (K2 _ _ eh)), f, c, _, rfl, by omega, log_small (by omega), F2, fun v H4 v0 v1 F4 B4 => ⟨_, rfl, t, _, _, _, rfl, rfl, SqT.of (TK.but F2 B4 _ _ et2), atI_nat (j := 1) rfl, (by show 2 ≤ sizeLine; decide), fun p np => other v H4 v0 v1 F4 B4 p np⟩⟩) (fun z => nomatch z)
  refine ⟨_, rfl, r, _, _, _, rfl, rfl, SqT.of (K2 _ _ er), atI_nat (j := 1) rfl, ba, _, rfl, .inr (SqT.of (K2 _ _ eb)), rfl, _, rfl, if_bl (fun _ => ?_) (fun cb => ?_)⟩
  · exact ⟨_, rfl, _, rfl, r, _, _, _, rfl, rfl, SqT.of (K2 _ _ er), atI_nat (j := 0) rfl, ha, _, rfl, .inr (SqT.of (K2 _ _ eh)), f, c, _, rfl, by omega, log_small (by omega), F2, fun v H4 v0 v1 F4 B4 => ⟨_, rfl, t, _, _, _, rfl, rfl, SqT.of (TK.but F2 B4 _ _ et2), atI_nat (j := 1) rfl, (by show 2 ≤ sizeLine; decide), fun p np => other v H4 v0 v1 F4 B4 p np⟩⟩
  have cb : 0 < bs.length := by
    have := of_decide_eq_false cb
    refine Nat.pos_of_ne_zero fun z => this ?_
    rw [lbv, z]
    rfl
  refine ⟨_, rfl, _, rfl, r, _, _, _, rfl, rfl, SqT.of (K2 _ _ er), atI_nat (j := 1) rfl, ba, _, rfl, .inr (SqT.of (K2 _ _ eb)), f, c, _, rfl, by omega, log_small (by omega), F2, fun b H3 b0 b1 F3 B3 => ?_⟩
  obtain ⟨b, rfl⟩ : ∃ k : Nat, b = ((k : Nat) : Int) := ⟨b.toNat, by omega⟩
  have B3 := B2.trans B3
  have K3 := TK.but hF B3
  have et3 := K3 _ _ et
  have eg3 := K3 _ _ eg
  have hb : ∀ (xs ys : List Nat), (∀ n ∈ xs, n ∈ ns) → (∀ n ∈ ys, n ∈ ns) → ∀ n ∈ xs ++ [b] ++ ys, n < bs.length := fun xs ys h1 h2 n hm => by
    rcases List.mem_append.mp hm with hm | hm
    · rcases List.mem_append.mp hm with hm | hm
      · exact hn n (h1 n hm)
      · rw [List.mem_singleton.mp hm]; omega
    · exact hn n (h2 n hm)
  refine ⟨_, rfl, rfl, _, rfl, if_bl (fun _ => ?_) (fun _ => ?_)⟩
  · refine ⟨_, rfl, t, _, _, _, rfl, rfl, SqT.of et3, atI_nat (j := 0) rfl, _, rfl, t, _, _, _, rfl, rfl, SqT.of et3, atI_nat (j := 1) rfl, _, rfl, _, rfl, slA_of eg3 fun p1 H4 h1 s1 => ?_⟩
    rw [cutT] at h1
    refine ⟨_, rfl, t, _, _, _, rfl, rfl, SqT.of (s1 _ _ et3), atI_nat (j := 1) rfl, _, rfl, _, _, rfl, rfl, _, rfl, ?_⟩
    dsimp only [tNoPart]
    refine slA_of (s1 _ _ eg3) fun p2 H5 h2 s2 => ?_
    rw [show ((a : Nat) : Int) + 1 = ((a + 1 : Nat) : Int) by omega, cutD] at h2
    refine catA_of (s2 _ _ h1) h2 (by rw [List.length_map, List.length_map, List.length_take, List.length_drop]; omega) fun p3 H6 h3 s3 => ?_
    rw [← List.map_append] at h3
    have s := (s1.trans s2).trans s3
    refine ⟨(by show 2 ≤ sizeLine; decide), fun p np => done _ p3 H6 h3 (F3.same s) (B3.same s) (fun n hm => ?_) ?_ p np⟩
    · rcases List.mem_append.mp hm with hm | hm
      · exact hn n (List.mem_of_mem_take hm)
      · exact hn n (List.mem_of_mem_drop hm)
    · rw [List.length_append, List.length_take, List.length_drop]; omega
  refine ⟨_, rfl, rfl, _, rfl, if_bl (fun _ => ?_) (fun _ => ?_)⟩
  · refine ⟨_, rfl, t, _, _, _, rfl, rfl, SqT.of et3, atI_nat (j := 0) rfl, _, rfl, t, _, _, _, rfl, rfl, SqT.of et3, atI_nat (j := 1) rfl, _, rfl, _, rfl, slA_of eg3 fun p1 H4 h1 s1 => ?_⟩
    rw [cutT] at h1
    refine ⟨_, rfl, (by show 1 ≤ sizeLine; decide), fun u nu => ?_⟩
    have s1u := s1.trans (same_new (o := .tup [nV b]) nu)
    refine catA_of (same_new nu _ _ h1) upd_same (by rw [List.length_map, List.length_take]; show _ + 1 ≤ 1000; omega) fun p2 H5 h2 s2 => ?_
    have s12 := s1u.trans s2
    refine ⟨_, rfl, t, _, _, _, rfl, rfl, SqT.of (s12 _ _ et3), atI_nat (j := 1) rfl, _, rfl, _, rfl, ?_⟩
    dsimp only [tNoPart]
    refine slA_of (s12 _ _ eg3) fun p3 H6 h3 s3 => ?_
    rw [cutD] at h3
    refine catA_of (s3 _ _ h2) h3 (by rw [List.length_append, List.length_map, List.length_map, List.length_take, List.length_drop]; show _ + 1 + _ ≤ 1000; omega) fun p4 H7 h4 s4 => ?_
    have s := s12.trans (s3.trans s4)
    have h4 : H7 p4 = some (.tup ((ns.take a ++ [b] ++ ns.drop a).map nV)) := by rw [h4, List.map_append, List.map_append]; rfl
    refine ⟨(by show 2 ≤ sizeLine; decide), fun p np => done _ p4 H7 h4 (F3.same s) (B3.same s) (hb _ _ (fun n hm => List.mem_of_mem_take hm) (fun n hm => List.mem_of_mem_drop hm)) ?_ p np⟩
    rw [List.length_append, List.length_append, List.length_take, List.length_drop]; show _ + 1 + _ ≤ _; omega
  refine ⟨_, rfl, rfl, _, rfl, if_bl (fun _ => ?_) (fun _ => ?_)⟩
  · refine ⟨_, rfl, t, _, _, _, rfl, rfl, SqT.of et3, atI_nat (j := 0) rfl, _, rfl, t, _, _, _, rfl, rfl, SqT.of et3, atI_nat (j := 1) rfl, _, rfl, _, rfl, slA_of eg3 fun p1 H4 h1 s1 => ?_⟩
    rw [cutT] at h1
    refine ⟨_, rfl, (by show 1 ≤ sizeLine; decide), fun u nu => ?_⟩
    have s1u := s1.trans (same_new (o := .tup [nV b]) nu)
    refine catA_of (same_new nu _ _ h1) upd_same (by rw [List.length_map, List.length_take]; show _ + 1 ≤ 1000; omega) fun p2 H5 h2 s2 => ?_
    have s12 := s1u.trans s2
    refine ⟨_, rfl, t, _, _, _, rfl, rfl, SqT.of (s12 _ _ et3), atI_nat (j := 1) rfl, _, rfl, _, _, rfl, rfl, _, rfl, ?_⟩
    dsimp only [tNoPart]
    refine slA_of (s12 _ _ eg3) fun p3 H6 h3 s3 => ?_
    rw [show ((a : Nat) : Int) + 1 = ((a + 1 : Nat) : Int) by omega, cutD] at h3
    refine catA_of (s3 _ _ h2) h3 (by rw [List.length_append, List.length_map, List.length_map, List.length_take, List.length_drop]; show _ + 1 + _ ≤ 1000; omega) fun p4 H7 h4 s4 => ?_
    have s := s12.trans (s3.trans s4)
    have h4 : H7 p4 = some (.tup ((ns.take a ++ [b] ++ ns.drop (a + 1)).map nV)) := by rw [h4, List.map_append, List.map_append]; rfl
    refine ⟨(by show 2 ≤ sizeLine; decide), fun p np => done _ p4 H7 h4 (F3.same s) (B3.same s) (hb _ _ (fun n hm => List.mem_of_mem_take hm) (fun n hm => List.mem_of_mem_drop hm)) ?_ p np⟩
    rw [List.length_append, List.length_append, List.length_take, List.length_drop]; show _ + 1 + _ ≤ _; omega
  · refine ⟨_, rfl, t, _, _, _, rfl, rfl, SqT.of et3, atI_nat (j := 0) rfl, _, rfl, t, _, _, _, rfl, rfl, SqT.of et3, atI_nat (j := 1) rfl, _, rfl, _, rfl, slA_of eg3 fun p1 H4 h1 s1 => ?_⟩
    rw [cutT] at h1
    refine ⟨_, rfl, t, _, _, _, rfl, rfl, SqT.of (s1 _ _ et3), atI_nat (j := 1) rfl, _, rfl, _, rfl, _, rfl, _, _, rfl, rfl, _, rfl, slA_of (s1 _ _ eg3) fun p2 H5 h2 s2 => ?_⟩
    obtain ⟨cs, ec, lc, hc⟩ := cutM ns a
    rw [ec] at h2
    refine catA_of (s2 _ _ h1) h2 (by rw [List.length_map, List.length_map, List.length_take]; omega) fun p3 H6 h3 s3 => ?_
    rw [← List.map_append] at h3
    have s13 := (s1.trans s2).trans s3
    refine ⟨_, rfl, t, _, _, _, rfl, rfl, SqT.of (s13 _ _ et3), atI_nat (j := 1) rfl, _, rfl, _, rfl, ?_⟩
    dsimp only [tNoPart]
    refine slA_of (s13 _ _ eg3) fun p4 H7 h4 s4 => ?_
    rw [cutD] at h4
    refine catA_of (s4 _ _ h3) h4 (by rw [List.length_map, List.length_map, List.length_append, List.length_take, List.length_drop]; omega) fun p5 H8 h5 s5 => ?_
    rw [← List.map_append] at h5
    have s := (s13.trans s4).trans s5
    refine ⟨(by show 2 ≤ sizeLine; decide), fun p np => done _ p5 H8 h5 (F3.same s) (B3.same s) (fun n hm => ?_) ?_ p np⟩
    · rcases List.mem_append.mp hm with hm | hm
      · rcases List.mem_append.mp hm with hm | hm
        · exact hn n (List.mem_of_mem_take hm)
        · exact hn n (hc n hm)
      · exact hn n (List.mem_of_mem_drop hm)
    · rw [List.length_append, List.length_append, List.length_take, List.length_drop]; omega
end
theorem log24 {n : Nat} (h : n < 2 ^ 24) : ((n : Int)).natAbs.log2 < 9000 := by
  have := PySem.Flt.log2_lt_of (show 0 < 24 by decide) h
  show n.log2 < 9000
  omega
theorem bok_of {hs : List HR} {bs : List BR} (ok : RoomOk hs bs) : BOk hs bs := ⟨ok.hands, ok.many, ok.ends, fun h hh => (ok.good h hh).2, fun b hb => Nat.le_trans (ok.th b hb).1 (by decide), ok.rank⟩
theorem needs_le (z : Str) : needs z ≤ 3 := by
  unfold needs
  split
  · decide
  · split
    · decide
    · split <;> decide
theorem count_le {hs : List HR} {bs : List BR} (ok : RoomOk hs bs) (t : Nat) : (bs.map BR.to).count t ≤ 3 := by
  by_cases h : t < hs.length
  · have c := ok.count t hs[t] (List.getElem?_eq_getElem h)
    have n := needs_le hs[t].wd
    omega
  · have : (bs.map BR.to).count t = 0 := List.count_eq_zero.mpr fun z => by
      obtain ⟨b, hb, e⟩ := List.mem_map.mp z
      have := (ok.ends b hb).2
      omega
    omega
structure Rk (hs : List HR) (bs : List BR) : Prop where
  ok : BOk hs bs
  pos : 0 < hs.length
  three : ∀ t, (bs.map BR.to).count t ≤ 3
section
variable {P : Program} {w : World} {K : PySem.W.Frag} {mg : Str → Option Value} {base : Heap}
def sp_law_some_way (K : PySem.W.Frag) (PT : Addr) : Sp := fun vs H Q _ => ∃ (f c r : Addr) (hs : List HR) (bs : List BR), vs = [.ref f, .ref r] ∧ Flow H f c ∧ RoomAt H r hs bs ∧ Rk hs bs ∧ LamX.Tabs (TL PT) H ∧
  ∀ (p : Addr) (k : Nat) (ms : List Nat) (H' : Hp), PairAt H' p k ms → k < hs.length → (∀ n ∈ ms, n < bs.length) → ms.length ≤ 24 → Flow H' f c → TK H H' → LamX.Tabs (TL PT) H' → Q (.ref p) H'
variable {cT PT : Addr} [TLI : TabL K mg base cT PT]
include TLI
theorem ok_law_some_way {f : Addr} {fd : FuncData} (F : Fun K "_law_some_way" "_law_some_way" s_law_some_way f fd) (T : Top K mg) : FnOk P w K mg base CX0 5 f fd ["_law_flow_here", "_law_room_here"] (sp_law_some_way K PT) := by
  obtain ⟨f_law_pick, fd_law_pick, F_law_pick, b_law_pick, m_law_pick⟩ := T.d_law_pick
  have G_law_pick := ok_law_pick (P := P) (w := w) (base := base) F_law_pick T
  obtain ⟨f_holder, fd_holder, F_holder, b_holder, m_holder⟩ := T.d_holder
  have G_holder := ok_holder (P := P) (w := w) (base := base) F_holder T
  obtain ⟨f_law_any_way, fd_law_any_way, F_law_any_way, b_law_any_way, m_law_any_way⟩ := T.d_law_any_way
  have G_law_any_way := ok_law_any_way (P := P) (w := w) (base := base) F_law_any_way T
  obtain ⟨f_law_rings, fd_law_rings, F_law_rings, b_law_rings, m_law_rings⟩ := T.d_law_rings
  have G_law_rings := ok_law_rings (P := P) (w := w) (base := base) F_law_rings T
  refine F.ok sc_law_some_way (fun vs H Q E h => ?_) (fun cdv A outer s H vs Q E hr h => ?_)
  · obtain ⟨f, c, r, hs, bs, rfl, _⟩ := h
    rfl
  obtain ⟨f, c, r, hs, bs, rfl, hF, hR, rk, tabs, q⟩ := h
  have lh := rk.ok.hands
  have pos := rk.pos
  have hto : ∀ b ∈ bs, b.to < hs.length := fun b hb => (rk.ok.ends b hb).2
  let R1 : TS := fun D' σ' H' => D'.rt = Q ∧ ∃ (fm : Int) (rl : Addr) (rv : List V) (R : List (Nat × List Nat)), σ' = [some (.ref f), some (.ref r), some (.int fm), some (.ref rl), none] ∧ H' rl = some (.lst rv) ∧ All2 (RgAt H') rv R ∧ rv.length < 2 ^ 24 ∧ (∀ x ∈ R, x.1 < hs.length ∧ x.2 ≠ [] ∧ (∀ n ∈ x.2, n < bs.length) ∧ x.2.length ≤ 12) ∧ rl ≠ f ∧ Flow H' f c ∧ TK H H' ∧ LamX.Tabs (TL PT) H'
  refine ⟨_, (pss_cons (ps_set (i := 2) sc_law_some_way.nd rfl (Or.inl rfl) (pe_call G_law_pick (hr.mono (by decide)) (by rfl) m_law_pick F_law_pick.kp b_law_pick .nil pass0 (pa_cons (pv 0) (pa_cons pe_int pa_nil))))
      (pss_cons (ps_if (pt_cmpR op_eq (pv 2) pe_int (nomark _)) (pss_one (ps_ret (pe_tup (pa_cons (pe_call G_law_pick (hr.mono (by decide)) (by rfl) m_law_pick F_law_pick.kp b_law_pick .nil pass0 (pa_cons (pv 0) (pa_cons (pe_callB (call_len_seqK K rfl) (by rfl) T.m_len (by decide +kernel) (pa_cons (pe_ix (ix_tupK K rfl) (pv 1) pe_int (fun _ _ => rfl)) pa_nil)) pa_nil))) (pa_cons (pe_tup pa_nil) pa_nil))))) pss_nil)
      (pss_cons (ps_if (pt_cmpR op_eq (pv 2) pe_int (nomark _)) (pss_one (ps_ret (pe_call G_law_any_way (hr.mono (by decide)) (by rfl) m_law_any_way F_law_any_way.kp b_law_any_way .nil pass0 (pa_cons (pv 0) (pa_cons (pv 1) (pa_cons pe_int pa_nil)))))) pss_nil)
      (pss_cons (ps_set (i := 3) sc_law_some_way.nd rfl (Or.inl rfl) (pe_lst pa_nil))
      (pss_cons (ps_if (pt_cmpR op_lt (pe_callB (call_len_seqK K rfl) (by rfl) T.m_len (by decide +kernel) (pa_cons (pe_ix (ix_tupK K rfl) (pv 1) pe_int (fun _ _ => rfl)) pa_nil)) pe_int (nomark _)) (pss_one (ps_set (i := 3) sc_law_some_way.nd rfl (Or.inl rfl) (pe_call G_law_rings (hr.mono (by decide)) (by rfl) m_law_rings F_law_rings.kp b_law_rings .nil pass0 (pa_cons (pv 1) pa_nil)))) pss_nil)
      (PSs.to (pss_cons (ps_if (PW.pt (pw_and (pt_cmpR op_eq (pv 2) pe_int (nomark _)) (pw_and1 (pt_cmpR op_gt (pe_callB (call_len_seqK K rfl) (by rfl) T.m_len (by decide +kernel) (pa_cons (pv 3) pa_nil)) pe_int (nomark _))))) (pss_cons (ps_set (i := 4) sc_law_some_way.nd rfl (Or.inl rfl) (pe_ix (ix_listK K rfl) (pv 3) (pe_call G_law_pick (hr.mono (by decide)) (by rfl) m_law_pick F_law_pick.kp b_law_pick .nil pass0 (pa_cons (pv 0) (pa_cons (pe_callB (call_len_seqK K rfl) (by rfl) T.m_len (by decide +kernel) (pa_cons (pv 3) pa_nil)) pa_nil))) (fun _ _ => rfl)))
      (pss_one (ps_ret (pe_tup (pa_cons (pe_ix (ix_tupK K rfl) (pv 4) pe_int (fun _ _ => rfl)) (pa_cons (pe_op (op_rep12 K rfl) (pe_ix (ix_tupK K rfl) (pv 4) pe_int (fun _ _ => rfl)) (pe_op op_add pe_int (pe_call G_law_pick (hr.mono (by decide)) (by rfl) m_law_pick F_law_pick.kp b_law_pick .nil pass0 (pa_cons (pv 0) (pa_cons pe_int pa_nil))))) pa_nil)))))) pss_nil)
      (pss_one (ps_ret (pe_call G_holder (hr.mono (by decide)) (by rfl) m_holder F_holder.kp b_holder .nil pass0 (pa_cons (pv 1) pa_nil))))) R1 ?tail1)))))), ?_⟩
  case tail1 =>
    rintro D' σ' H1 ⟨eD, fm, rl, rv, R, rfl, hrl, alr, lrv, hRg, rlf, F1, K1, tb1⟩
    have hold : ∀ (H2 : Hp) (Q' : VK) (E' : XK), TK H H2 → LamX.Tabs (TL PT) H2 → Flow H2 f c → Q' = Q → sp_holder K PT [.ref r] H2 Q' E' := fun H2 Q' E' K2 tb2 F2 eQ => ⟨r, hs, bs, rfl, hR.keep K2, rk.ok, tb2, fun z => by rw [z] at pos; exact absurd pos (Nat.not_lt_zero _), fun _ p a b k ns lv H3 hp B D ext tb3 => by
      rw [eQ]
      exact q p k ns H3 hp B.kl B.nl (Nat.le_trans B.ln (by decide)) (ExtN.flow ext F2) (K2.trans (ExtN.tk ext)) tb3⟩
    refine ⟨_, rfl, rfl, _, rfl, if_bl (fun _ => ?_) (fun _ => ?_)⟩
    · refine ⟨_, rfl, rl, _, rfl, .inl (SqL.of hrl), _, _, rfl, rfl, _, rfl, if_bl (fun z => ?_) (fun _ => ?_)⟩
      · have z : (0 : Int) < ((rv.length : Nat) : Int) := of_decide_eq_true z
        refine ⟨_, rfl, _, rfl, _, rfl, rl, _, rfl, .inl (SqL.of hrl), f, c, _, rfl, by omega, log24 lrv, F1, fun y H2 y0 y1 F2 B2 => ?_⟩
        obtain ⟨y, rfl⟩ : ∃ k : Nat, y = ((k : Nat) : Int) := ⟨y.toNat, by omega⟩
        have yl : y < rv.length := by omega
        have ey : rv[y]? = some rv[y] := List.getElem?_eq_getElem yl
        obtain ⟨x, ex, hx0⟩ := alr.getL ey
        have K2 := TK.but F1 B2
        obtain ⟨p, ep, g, et, eg⟩ := hx0.keep K2
        obtain ⟨x1, xne, xlt, xln⟩ := hRg x (List.mem_of_getElem? ex)
        refine ⟨rl, _, _, _, rfl, rfl, SqL.of (B2 _ _ hrl rlf), atI_nat ey, ?_⟩
        rw [ep]
        refine ⟨_, rfl, p, _, _, _, rfl, rfl, SqT.of et, atI_nat (j := 0) rfl, _, rfl, p, _, _, _, rfl, rfl, SqT.of et, atI_nat (j := 1) rfl, _, rfl, f, c, 2, rfl, by decide, by decide +kernel, F2, fun u H3 u0 u1 F3 B3 => ⟨_, _, rfl, rfl, ?_⟩⟩
        have K3 := TK.but F2 B3
        have nne : x.2.map nV ≠ [] := fun z => xne (List.map_eq_nil_iff.mp z)
        obtain rfl | rfl : u = 0 ∨ u = 1 := by omega
        · refine .inl ⟨g, 1, _, rfl, rfl, SqT.of (K3 _ _ eg), nne, .inr rfl, fun _ => ⟨(by show 2 ≤ sizeLine; decide), fun p2 np2 => ?_⟩, fun z => absurd z (by decide)⟩
          rw [eD]
          exact q p2 x.1 x.2 _ ⟨g, upd_same, same_new np2 _ _ (K3 _ _ eg)⟩ x1 xlt (by omega) (F3.new np2) (((K1.trans K2).trans K3).trans (TK.new np2)) (tabs_same (tabs_but (tabs_but tb1 F1 B2) F2 B3) (same_new np2))
        · refine .inr ⟨g, 2, _, rfl, rfl, SqT.of (K3 _ _ eg), nne, by decide, by decide, by rw [List.length_map]; omega, fun p1 np1 => ⟨(by show 2 ≤ sizeLine; decide), fun p2 np2 => ?_⟩⟩
          have s4 := (same_new (H := H3) (o := .tup (List.replicate (2 : Int).toNat (x.2.map nV)).flatten) np1).trans (same_new (o := .tup [nV x.1, .ref p1]) np2)
          rw [eD]
          refine q p2 x.1 (x.2 ++ x.2) _ ⟨p1, upd_same, ?_⟩ x1 (fun n hn => (List.mem_append.mp hn).elim (xlt n) (xlt n)) (by rw [List.length_append]; omega) (F3.same s4) (((K1.trans K2).trans K3).trans (TK.same s4)) (tabs_same (tabs_but (tabs_but tb1 F1 B2) F2 B3) s4)
          refine (same_new np2 _ _ upd_same).trans ?_
          rw [List.map_append]
          show some (HO.tup (List.replicate 2 (x.2.map nV)).flatten) = _
          simp
      · exact ⟨_, rfl, hold H1 _ E0 K1 tb1 F1 eD⟩
    · exact ⟨_, rfl, hold H1 _ E0 K1 tb1 F1 eD⟩
  refine ⟨_, rfl, f, c, 4, rfl, by decide, by decide +kernel, hF, fun fm H1 fm0 fm1 F1 B1 => ?_⟩
  have K1 := TK.but hF B1
  have tb1 := tabs_but tabs hF B1
  obtain ⟨ha, ba, hv, bv, er, eh, eb, alh, alb⟩ := (hR.keep K1).ex
  have lhv := alh.length
  refine ⟨_, rfl, rfl, _, rfl, if_bl (fun _ => ?_) (fun _ => ?_)⟩
  · refine ⟨_, rfl, _, rfl, r, _, _, _, rfl, rfl, SqT.of er, atI_nat (j := 0) rfl, ha, _, rfl, .inr (SqT.of eh), f, c, _, rfl, by omega, log_small (by omega), F1, fun v H2 v0 v1 F2 B2 => ?_⟩
    obtain ⟨v, rfl⟩ : ∃ k : Nat, v = ((k : Nat) : Int) := ⟨v.toNat, by omega⟩
    refine ⟨(by show 0 ≤ sizeLine; decide), fun u nu => ⟨(by show 2 ≤ sizeLine; decide), fun p np => ?_⟩⟩
    have s3 := (same_new (H := H2) (o := .tup []) nu).trans (same_new (o := .tup [nV v, .ref u]) np)
    exact q p v [] _ ⟨u, upd_same, same_new np _ _ upd_same⟩ (by omega) (fun _ z => nomatch z) (Nat.zero_le _) (F2.same s3) ((K1.trans (TK.but F1 B2)).trans (TK.same s3)) (tabs_same (tabs_but tb1 F1 B2) s3)
  refine ⟨_, rfl, rfl, _, rfl, if_bl (fun _ => ?_) (fun _ => ?_)⟩
  · exact ⟨_, rfl, _, rfl, f, c, r, hs, bs, 5, rfl, by decide, by decide, F1, hR.keep K1, rk.ok, pos, fun p k ms H2 hp hk hn lm F2 B2 => q p k ms H2 hp hk hn (by omega) F2 (K1.trans (TK.but F1 B2)) (tabs_but tb1 F1 B2)⟩
  refine ⟨(by show 0 ≤ sizeLine; decide), fun l nl => ?_⟩
  have s2 := same_new (H := H1) (o := .lst []) nl
  refine ⟨_, rfl, r, _, _, _, rfl, rfl, SqT.of (s2 _ _ er), atI_nat (j := 0) rfl, ha, _, rfl, .inr (SqT.of (s2 _ _ eh)), _, _, rfl, rfl, _, rfl, if_bl (fun z => ?_) (fun _ => ?_)⟩
  · have z : ((hv.length : Nat) : Int) < 10 := of_decide_eq_true z
    refine ⟨_, rfl, r, hs, bs, rfl, (hR.keep K1).keep (TK.same s2), lh, rk.ok.many, hto, rk.three, fun rl rv H3 hrl alr s3 => ?_⟩
    have lr : rv.length < 2 ^ 24 := by
      have := all_len (n := hs.length) rk.three lh hs.length
      have e : rv.length = (allR bs hs.length).length := alr.length
      unfold allR at e
      have h9 : hs.length * 797160 ≤ 9 * 797160 := Nat.mul_le_mul_right _ (by omega)
      omega
    have s23 := s2.trans s3
    have F3 := F1.same s23
    exact ⟨rfl, fm, rl, rv, _, rfl, hrl, alr, lr, fun x hx => by
      obtain ⟨h1, _, h3, h4, h5⟩ := told_ring hx
      exact ⟨h1, h3, h4, by omega⟩, (by
        obtain ⟨ns, i, a, q', r', e1, e2, _⟩ := F3
        intro e
        rw [e, e1] at hrl
        cases hrl
        obtain ⟨_, _, p, e', _⟩ := alr.getL (i := 1) rfl
        cases e'), F3, K1.trans (TK.same s23), tabs_same tb1 s23⟩
  · exact ⟨rfl, fm, l, [], [], rfl, upd_same, .nil, by decide, (fun _ z => nomatch z), F1.ne nl, F1.same s2, K1.trans (TK.same s2), tabs_same tb1 s2⟩
def sp_law_some_fraction (K : PySem.W.Frag) (PT : Addr) : Sp := fun vs H Q _ => ∃ (f c r wp : Addr) (hs : List HR) (bs : List BR) (k : Nat) (ns : List Nat), vs = [.ref f, .ref r, .ref wp] ∧ Flow H f c ∧ RoomAt H r hs bs ∧ Rk hs bs ∧ LamX.Tabs (TL PT) H ∧ PairAt H wp k ns ∧ k < hs.length ∧ (∀ n ∈ ns, n < bs.length) ∧ ns.length ≤ 60 ∧
  ∀ (p : Addr) (a b : Int) (H' : Hp), H' p = some (.tup [.int a, .int b]) → Flow H' f c → TK H H' → LamX.Tabs (TL PT) H' → Q (.ref p) H'
theorem ok_law_some_fraction {f : Addr} {fd : FuncData} (F : Fun K "_law_some_fraction" "_law_some_fraction" s_law_some_fraction f fd) (T : Top K mg) : FnOk P w K mg base CX0 5 f fd ["_law_flow_here", "_law_room_here", "_law_way"] (sp_law_some_fraction K PT) := by
  obtain ⟨f_law_pick, fd_law_pick, F_law_pick, b_law_pick, m_law_pick⟩ := T.d_law_pick
  have G_law_pick := ok_law_pick (P := P) (w := w) (base := base) F_law_pick T
  obtain ⟨f_beat, fd_beat, F_beat, b_beat, m_beat⟩ := T.d_beat
  have G_beat := ok_beat (P := P) (w := w) (base := base) F_beat T
  obtain ⟨f_law_end, fd_law_end, F_law_end, b_law_end, m_law_end⟩ := T.d_law_end
  have G_law_end := ok_law_end (P := P) (w := w) (base := base) F_law_end T
  obtain ⟨f_law_ring_moments, fd_law_ring_moments, F_law_ring_moments, b_law_ring_moments, m_law_ring_moments⟩ := T.d_law_ring_moments
  have G_law_ring_moments := ok_law_ring_moments (P := P) (w := w) (base := base) F_law_ring_moments T
  obtain ⟨f_law_trays, fd_law_trays, F_law_trays, b_law_trays, m_law_trays⟩ := T.d_law_trays
  have G_law_trays := ok_law_trays (P := P) (w := w) (base := base) F_law_trays T
  refine F.ok sc_law_some_fraction (fun vs H Q E h => ?_) (fun cdv A outer s H vs Q E hr h => ?_)
  · obtain ⟨f, c, r, wp, hs, bs, k, ns, rfl, _⟩ := h
    rfl
  obtain ⟨f, c, r, wp, hs, bs, k, ns, rfl, hF, hR, rk, tabs, hw, kl, nl, l60, q⟩ := h
  have pos := rk.pos
  have hto : ∀ b ∈ bs, b.to < hs.length := fun b hb => (rk.ok.ends b hb).2
  let R1 : TS := fun D' σ' H' => D'.rt = Q ∧ ∃ (fm a b : Int), σ' = [some (.ref f), some (.ref r), some (.ref wp), some (.int fm), some (.int a), some (.int b), none] ∧ Flow H' f c ∧ TK H H' ∧ LamX.Tabs (TL PT) H'
  refine ⟨_, (pss_cons (ps_set (i := 3) sc_law_some_fraction.nd rfl (Or.inl rfl) (pe_call G_law_pick (hr.mono (by decide)) (by rfl) m_law_pick F_law_pick.kp b_law_pick .nil pass0 (pa_cons (pv 0) (pa_cons pe_int pa_nil))))
      (pss_cons (ps_asg (pe_call G_beat (hr.mono (by decide)) (by rfl) m_beat F_beat.kp b_beat .nil pass0 (pa_cons (pv 1) pa_nil)) (pg_tupK K rfl rfl (pgs_cons (pg_name (i := 4) sc_law_some_fraction.nd rfl (Or.inl rfl)) (pgs_cons (pg_name (i := 5) sc_law_some_fraction.nd rfl (Or.inl rfl)) pgs_nil))))
      (pss_cons (ps_if (PW.pt (pw_and (pt_cmpR op_gt (pv 3) pe_int (nomark _)) (pw_and1 (pt_cmpR op_notN (pe_call G_law_end (hr.mono (by decide)) (by rfl) m_law_end F_law_end.kp b_law_end .nil pass0 (pa_cons (pv 1) (pa_cons (pv 2) pa_nil))) pe_non (nomark _))))) (pss_cons (ps_par (i := 4) (j := 5) rfl sc_law_some_fraction.nd rfl rfl (by decide) rfl rfl (pa_cons (pe_call G_law_ring_moments (hr.mono (by decide)) (by rfl) m_law_ring_moments F_law_ring_moments.kp b_law_ring_moments .nil pass0 (pa_cons (pv 1) (pa_cons (pv 2) pa_nil))) (pa_cons (pe_callB (call_max2 rfl) (by rfl) T.m_max (by decide +kernel) (pa_cons pe_int (pa_cons (pe_call G_law_trays (hr.mono (by decide)) (by rfl) m_law_trays F_law_trays.kp b_law_trays .nil pass0 (pa_cons (pv 1) (pa_cons (pv 2) pa_nil))) pa_nil))) pa_nil)) (by rfl))
      (pss_one (ps_if (pt_cmpR op_eq (pe_callB (call_len_seqK K rfl) (by rfl) T.m_len (by decide +kernel) (pa_cons (pe_ix (ix_tupK K rfl) (pv 2) pe_int (fun _ _ => rfl)) pa_nil)) pe_int (nomark _)) (pss_one (ps_set (i := 4) sc_law_some_fraction.nd rfl (Or.inl rfl) (pe_ix (ix_tupK K rfl) (pe_ix (ix_tupK K rfl) (pe_ix (ix_tupK K rfl) (pv 1) pe_int (fun _ _ => rfl)) (pe_ix (ix_tupK K rfl) (pv 2) pe_int (fun _ _ => rfl)) (fun _ _ => rfl)) pe_int (fun _ _ => rfl)))) pss_nil))) pss_nil)
      (PSs.to (pss_cons (ps_set (i := 6) sc_law_some_fraction.nd rfl (Or.inl rfl) (pe_op op_add pe_int (pe_call G_law_pick (hr.mono (by decide)) (by rfl) m_law_pick F_law_pick.kp b_law_pick .nil pass0 (pa_cons (pv 0) (pa_cons pe_int pa_nil)))))
      (pss_one (ps_ret (pe_tup (pa_cons (pe_callB (call_max2 rfl) (by rfl) T.m_max (by decide +kernel) (pa_cons pe_int (pa_cons (pe_op op_add (pe_op op_mul (pv 4) (pv 6)) (pe_op op_mul (pe_callTy call_int1 (by rfl) T.m_int (by decide +kernel) (pa_cons (pe_cmpR op_eq (pv 3) pe_int (nomark _)) pa_nil)) (pe_op op_sub (pe_call G_law_pick (hr.mono (by decide)) (by rfl) m_law_pick F_law_pick.kp b_law_pick .nil pass0 (pa_cons (pv 0) (pa_cons pe_int pa_nil))) pe_int))) pa_nil))) (pa_cons (pe_op op_mul (pv 5) (pv 6)) pa_nil)))))) R1 ?tail1)))), ?_⟩
  case tail1 =>
    rintro D' σ' H1 ⟨eD, fm, a, b, rfl, F1, K1, tb1⟩
    refine ⟨_, rfl, f, c, 3, rfl, by decide, by decide +kernel, F1, fun y H2 y0 y1 F2 B2 => ⟨_, _, rfl, rfl, ?_⟩⟩
    refine ⟨_, rfl, _, rfl, _, _, rfl, rfl, .inr ⟨by omega, by omega⟩, _, rfl, rfl, .inr ⟨_, rfl, ?_⟩⟩
    refine ⟨_, rfl, f, c, 3, rfl, by decide, by decide +kernel, F2, fun u H3 u0 u1 F3 B3 => ⟨_, _, rfl, rfl, _, _, rfl, rfl, .inl ⟨by split <;> omega, by split <;> omega⟩, _, _, rfl, rfl, _, _, rfl, ?_⟩⟩
    refine ⟨_, rfl, _, rfl, _, _, rfl, rfl, .inr ⟨by omega, by omega⟩, (by show 2 ≤ sizeLine; decide), fun p np => ?_⟩
    rw [eD]
    exact q p _ _ _ upd_same (F3.new np) (((K1.trans (TK.but F1 B2)).trans (TK.but F2 B3)).trans (TK.new np)) (tabs_same (tabs_but (tabs_but tb1 F1 B2) F2 B3) (same_new np))
  refine ⟨_, rfl, f, c, 4, rfl, by decide, by decide +kernel, hF, fun fm H1 fm0 fm1 F1 B1 => ?_⟩
  have K1 := TK.but hF B1
  have tb1 := tabs_but tabs hF B1
  refine ⟨_, rfl, r, hs, bs, rfl, hR.keep K1, rk.ok, tb1, fun z => by rw [z] at pos; exact absurd pos (Nat.not_lt_zero _), fun _ p a b k0 ns0 lv H2 hp B D ext tb2 => ?_⟩
  have K2 := K1.trans (ExtN.tk ext)
  have F2 := ExtN.flow ext F1
  refine ⟨p, _, rfl, SqT.of hp, rfl, _, _, rfl, _, _, rfl, rfl, ?_⟩
  refine ⟨_, rfl, _, _, rfl, rfl, _, rfl, if_bl (fun _ => ?_) (fun _ => ⟨rfl, fm, a, b, rfl, F2, K2, tb2⟩)⟩
  refine ⟨_, rfl, _, rfl, r, wp, hs, bs, k, ns, rfl, hR.keep K2, hw.keep K2, nl, fun H3 s3 => ?_⟩
  have K3 := K2.trans (TK.same s3)
  cases we : wayEnd bs k ns with
  | none => exact ⟨rfl, _, rfl, if_bl (fun z => nomatch z) (fun _ => ⟨rfl, fm, a, b, rfl, F2.same s3, K3, tabs_same tb2 s3⟩)⟩
  | some e =>
    refine ⟨rfl, _, rfl, if_bl (fun _ => ?_) (fun z => nomatch z)⟩
    refine ⟨_, rfl, _, rfl, r, wp, hs, bs, k, ns, rfl, hR.keep K3, hto, hw.keep K3, kl, nl, by omega, fun H4 s4 => ?_⟩
    have K4 := K3.trans (TK.same s4)
    refine ⟨_, rfl, _, rfl, r, wp, hs, bs, k, ns, rfl, hR.keep K4, hw.keep K4, nl, by omega, fun H5 s5 => ⟨_, _, rfl, _, _, rfl, ?_⟩⟩
    have K5 := K4.trans (TK.same s5)
    have s35 := (s3.trans s4).trans s5
    obtain ⟨g, ew, eg⟩ := hw.keep K5
    refine ⟨_, rfl, wp, _, _, _, rfl, rfl, SqT.of ew, atI_nat (j := 1) rfl, g, _, rfl, .inr (SqT.of eg), rfl, _, rfl, if_bl (fun _ => ?_) (fun _ => ⟨rfl, fm, _, _, rfl, F2.same s35, K5, tabs_same tb2 s35⟩)⟩
    obtain ⟨ha, ba, hv, bv, er, eh, eb, alh, alb⟩ := (hR.keep K5).ex
    have ehk : hs[k]? = some hs[k] := List.getElem?_eq_getElem kl
    obtain ⟨x0, ex0, ⟨t0', r0, rfl, e01, e02⟩⟩ := alh.get ehk
    exact ⟨_, rfl, r, _, _, _, rfl, rfl, SqT.of er, atI_nat (j := 0) rfl, _, rfl, wp, _, _, _, rfl, rfl, SqT.of ew, atI_nat (j := 0) rfl, ha, _, _, _, rfl, rfl, SqT.of eh, atI_nat ex0, t0', _, _, _, rfl, rfl, SqT.of e01, atI_nat (j := 1) rfl, rfl, fm, _, _, rfl, F2.same s35, K5, tabs_same tb2 s35⟩
def sp_law (K : PySem.W.Frag) (PT : Addr) : Sp := fun vs H Q _ => ∃ (a : Addr) (ns : List Int), vs = [.ref a] ∧ SqL K H a (ns.map V.int) ∧ ns.length ≤ 63 ∧ LamX.Tabs (TL PT) H ∧ ∀ H', Q (.bl true) H'
theorem ok_law {f : Addr} {fd : FuncData} (F : Fun K "law" "law" s_law f fd) (T : Top K mg) : FnOk P w K mg base CX0 7 f fd ["_law_script"] (sp_law K PT) := by
  obtain ⟨f_law_flow, fd_law_flow, F_law_flow, b_law_flow, m_law_flow⟩ := T.d_law_flow
  have G_law_flow := ok_law_flow (P := P) (w := w) (base := base) F_law_flow T
  obtain ⟨f_law_any_room, fd_law_any_room, F_law_any_room, b_law_any_room, m_law_any_room⟩ := T.d_law_any_room
  have G_law_any_room := ok_law_any_room (P := P) (w := w) (base := base) F_law_any_room T
  obtain ⟨f_beat, fd_beat, F_beat, b_beat, m_beat⟩ := T.d_beat
  have G_beat := ok_beat (P := P) (w := w) (base := base) F_beat T
  obtain ⟨f_holder, fd_holder, F_holder, b_holder, m_holder⟩ := T.d_holder
  have G_holder := ok_holder (P := P) (w := w) (base := base) F_holder T
  obtain ⟨f_holder_holds, fd_holder_holds, F_holder_holds, b_holder_holds, m_holder_holds⟩ := T.d_holder_holds
  have G_holder_holds := ok_holder_holds (P := P) (w := w) (base := base) F_holder_holds T
  obtain ⟨f_law_some_way, fd_law_some_way, F_law_some_way, b_law_some_way, m_law_some_way⟩ := T.d_law_some_way
  have G_law_some_way := ok_law_some_way (P := P) (w := w) (base := base) F_law_some_way T
  obtain ⟨f_law_some_fraction, fd_law_some_fraction, F_law_some_fraction, b_law_some_fraction, m_law_some_fraction⟩ := T.d_law_some_fraction
  have G_law_some_fraction := ok_law_some_fraction (P := P) (w := w) (base := base) F_law_some_fraction T
  obtain ⟨f_law_alike, fd_law_alike, F_law_alike, b_law_alike, m_law_alike⟩ := T.d_law_alike
  have G_law_alike := ok_law_alike (P := P) (w := w) (base := base) F_law_alike T
  obtain ⟨f_law_pick, fd_law_pick, F_law_pick, b_law_pick, m_law_pick⟩ := T.d_law_pick
  have G_law_pick := ok_law_pick (P := P) (w := w) (base := base) F_law_pick T
  obtain ⟨f_law_way_otherwise, fd_law_way_otherwise, F_law_way_otherwise, b_law_way_otherwise, m_law_way_otherwise⟩ := T.d_law_way_otherwise
  have G_law_way_otherwise := ok_law_way_otherwise (P := P) (w := w) (base := base) F_law_way_otherwise T
  obtain ⟨f_law_holder_holds, fd_law_holder_holds, F_law_holder_holds, b_law_holder_holds, m_law_holder_holds⟩ := T.d_law_holder_holds
  have G_law_holder_holds := ok_law_holder_holds (P := P) (w := w) (base := base) F_law_holder_holds T
  refine F.ok sc_law (fun vs H Q E h => ?_) (fun cdv A outer s H vs Q E hr h => ?_)
  · obtain ⟨a, ns, rfl, _⟩ := h
    rfl
  obtain ⟨a, ns, rfl, hS, hlen, tabs, q⟩ := h
  let R1 : TS := fun D' σ' H' => D'.rt = Q ∧ ∃ (f c r tp bp wp : Addr) (hs : List HR) (bs : List BR) (x y : Int) (k : Nat) (ns : List Nat), σ' = [some (.ref a), some (.ref f), some (.ref r), some (.ref tp), none, none, none, none, none] ∧ RoomAt H' r hs bs ∧ Rk hs bs ∧ H' tp = some (.tup [.ref bp, .ref wp]) ∧ H' bp = some (.tup [.int x, .int y]) ∧ PairAt H' wp k ns ∧ Beat hs bs x y k ns ∧ Flow H' f c ∧ LamX.Tabs (TL PT) H'
  let R2 : TS := fun D' σ' H' => D'.rt = Q ∧ ∃ (f c r tp wp : Addr) (hs : List HR) (bs : List BR) (k : Nat) (ns : List Nat) (v4 v6 v7 v8 : Option V), σ' = [some (.ref a), some (.ref f), some (.ref r), some (.ref tp), v4, some (.ref wp), v6, v7, v8] ∧ RoomAt H' r hs bs ∧ Rk hs bs ∧ PairAt H' wp k ns ∧ k < hs.length ∧ (∀ n ∈ ns, n < bs.length) ∧ ns.length ≤ 60 ∧ Flow H' f c ∧ LamX.Tabs (TL PT) H' ∧
    ∀ σ2 H2, (∃ v4 v5 v6 v7 v8 : Option V, σ2 = [some (.ref a), some (.ref f), some (.ref r), some (.ref tp), v4, v5, v6, v7, v8]) → TK H' H2 → Flow H2 f c → LamX.Tabs (TL PT) H2 → D'.nx σ2 H2
  refine ⟨_, (pss_cons (ps_set (i := 1) sc_law.nd rfl (Or.inl rfl) (pe_call G_law_flow (hr.mono (by decide)) (by rfl) m_law_flow F_law_flow.kp b_law_flow .nil pass0 (pa_cons (pv 0) pa_nil)))
      (pss_cons (ps_set (i := 2) sc_law.nd rfl (Or.inl rfl) (pe_call G_law_any_room (hr.mono (by decide)) (by rfl) m_law_any_room F_law_any_room.kp b_law_any_room .nil pass0 (pa_cons (pv 1) pa_nil)))
      (pss_cons (ps_set (i := 3) sc_law.nd rfl (Or.inl rfl) (pe_tup (pa_cons (pe_call G_beat (hr.mono (by decide)) (by rfl) m_beat F_beat.kp b_beat .nil pass0 (pa_cons (pv 2) pa_nil)) (pa_cons (pe_call G_holder (hr.mono (by decide)) (by rfl) m_holder F_holder.kp b_holder .nil pass0 (pa_cons (pv 2) pa_nil)) pa_nil))))
      (PSs.to (pss_cons (ps_if (pt_cmpR op_notB (pe_call G_holder_holds (hr.mono (by decide)) (by rfl) m_holder_holds F_holder_holds.kp b_holder_holds .nil pass0 (pa_cons (pv 2) (pa_cons (pe_ix (ix_tupK K rfl) (pv 3) pe_int (fun _ _ => rfl)) (pa_cons (pe_ix (ix_tupK K rfl) (pv 3) pe_int (fun _ _ => rfl)) pa_nil)))) pe_bl (nomark _)) (pss_one (ps_ret pe_bl)) pss_nil)
      (pss_cons (ps_for PassesOwn.never rfl (pi_range1 (by rfl) T.m_range (pa_cons pe_int pa_nil)) (pg_name (i := 4) sc_law.nd rfl (Or.inl rfl))
        (pss_cons (ps_set (i := 5) sc_law.nd rfl (Or.inl rfl) (pe_call G_law_some_way (hr.mono (by decide)) (by rfl) m_law_some_way F_law_some_way.kp b_law_some_way .nil pass0 (pa_cons (pv 1) (pa_cons (pv 2) pa_nil))))
      (pss_cons (ps_if (pt_cmpR op_lt (pe_callB (call_len_seqK K rfl) (by rfl) T.m_len (by decide +kernel) (pa_cons (pe_ix (ix_tupK K rfl) (pv 5) pe_int (fun _ _ => rfl)) pa_nil)) pe_int (nomark _)) (pss_one (ps_for PassesOwn.never rfl (pi_range1 (by rfl) T.m_range (pa_cons (pe_call G_law_pick (hr.mono (by decide)) (by rfl) m_law_pick F_law_pick.kp b_law_pick .nil pass0 (pa_cons (pv 1) (pa_cons pe_int pa_nil))) pa_nil)) (pg_name (i := 6) sc_law.nd rfl (Or.inl rfl))
        (pss_one (ps_set (i := 5) sc_law.nd rfl (Or.inl rfl) (pe_call G_law_way_otherwise (hr.mono (by decide)) (by rfl) m_law_way_otherwise F_law_way_otherwise.kp b_law_way_otherwise .nil pass0 (pa_cons (pv 1) (pa_cons (pv 2) (pa_cons (pv 5) pa_nil)))))))) pss_nil)
      (PSs.to (pss_cons (ps_set (i := 7) sc_law.nd rfl (Or.inl rfl) (pe_call G_law_some_fraction (hr.mono (by decide)) (by rfl) m_law_some_fraction F_law_some_fraction.kp b_law_some_fraction .nil pass0 (pa_cons (pv 1) (pa_cons (pv 2) (pa_cons (pv 5) pa_nil)))))
      (pss_cons (ps_set (i := 8) sc_law.nd rfl (Or.inl rfl) (pe_call G_holder_holds (hr.mono (by decide)) (by rfl) m_holder_holds F_holder_holds.kp b_holder_holds .nil pass0 (pa_cons (pv 2) (pa_cons (pv 7) (pa_cons (pv 5) pa_nil)))))
      (pss_one (ps_if (pt_not (pt_val (pe_call G_law_alike (hr.mono (by decide)) (by rfl) m_law_alike F_law_alike.kp b_law_alike .nil pass0 (pa_cons (pv 8) (pa_cons (pe_call G_law_holder_holds (hr.mono (by decide)) (by rfl) m_law_holder_holds F_law_holder_holds.kp b_law_holder_holds .nil pass0 (pa_cons (pv 2) (pa_cons (pv 7) (pa_cons (pv 5) pa_nil)))) pa_nil))))) (pss_one (ps_ret pe_bl)) pss_nil)))) R2 ?tail2))))
      (pss_one (ps_ret (pe_cmpR op_isB (pe_call G_holder_holds (hr.mono (by decide)) (by rfl) m_holder_holds F_holder_holds.kp b_holder_holds .nil pass0 (pa_cons (pv 2) (pa_cons (pe_ix (ix_tupK K rfl) (pv 3) pe_int (fun _ _ => rfl)) (pa_cons (pe_ix (ix_tupK K rfl) (pv 3) pe_int (fun _ _ => rfl)) pa_nil)))) pe_bl (nomark _)))))) R1 ?tail1)))), ?_⟩
  case tail2 =>
    rintro D' σ' H1 ⟨eD, f, c, r, tp, wp, hs, bs, k, ns, v4, v6, v7, v8, rfl, hR, rk, hw, kl, nl, l60, F1, tb1, nx⟩
    refine ⟨_, rfl, _, rfl, _, rfl, f, c, r, wp, hs, bs, k, ns, rfl, F1, hR, rk, tb1, hw, kl, nl, l60, fun fp x y H2 hfp F2 K2 tb2 => ?_⟩
    have hR2 := hR.keep K2
    have hw2 := hw.keep K2
    refine ⟨_, rfl, _, rfl, _, rfl, r, fp, wp, hs, bs, x, y, k, ns, rfl, hR2, rk.ok, hfp, hw2, kl, nl, l60, fun t H3 e s3 => ?_⟩
    refine ⟨_, rfl, _, rfl, _, rfl, _, rfl, r, fp, wp, hs, bs, x, y, k, ns, rfl, hR2.keep (TK.same s3), rk.ok, s3 _ _ hfp, hw2.keep (TK.same s3), kl, nl, l60, fun t2 H4 e2 s4 => ?_⟩
    obtain rfl : t = t2 := Bool.eq_iff_iff.mpr (e.trans e2.symm)
    refine ⟨_, _, rfl, Al.bl, fun H5 s5 => ⟨_, rfl, if_bl (fun z => nomatch z) (fun _ => ?_)⟩⟩
    have s := (s3.trans s4).trans s5
    exact nx _ _ ⟨_, _, _, _, _, rfl⟩ (K2.trans (TK.same s)) (F2.same s) (tabs_same tb2 s)
  case tail1 =>
    rintro D' σ' H1 ⟨eD, f, c, r, tp, bp, wp, hs, bs, x, y, k, ns, rfl, hR, rk, htp, hbp, hwp, B, F1, tb1⟩
    have hN := HoldW.of B
    have l60 : ns.length ≤ 60 := Nat.le_trans B.ln (by decide)
    refine ⟨_, rfl, _, rfl, tp, _, _, _, rfl, rfl, SqT.of htp, atI_nat (j := 0) rfl, _, rfl, tp, _, _, _, rfl, rfl, SqT.of htp, atI_nat (j := 1) rfl, r, bp, wp, hs, bs, x, y, k, ns, rfl, hR, rk.ok, hbp, hwp, B.kl, B.nl, l60, fun tt H2 e s2 => ?_⟩
    obtain rfl : tt = true := e.mpr hN
    refine ⟨_, _, rfl, rfl, _, rfl, if_bl (fun z => nomatch z) (fun _ => ?_)⟩
    refine ⟨_, rfl, by decide, by decide, for_range (lo := 0) (n := 6) (fun i σ H3 => (∃ v4 v5 v6 v7 v8 : Option V, σ = [some (.ref a), some (.ref f), some (.ref r), some (.ref tp), v4, v5, v6, v7, v8]) ∧ TK H1 H3 ∧ Flow H3 f c ∧ LamX.Tabs (TL PT) H3) ⟨⟨_, _, _, _, _, rfl⟩, TK.same s2, F1.same s2, tabs_same tb1 s2⟩ ?_ ?_⟩
    · rintro i σ H3 hi ⟨⟨v4, v5, v6, v7, v8, rfl⟩, k3, F3, tb3⟩
      refine ⟨_, rfl, _, rfl, f, c, r, hs, bs, rfl, F3, hR.keep k3, rk, tb3, fun p4 k4 ns4 H4 hp4 kl4 nl4 l24 F4 K4 tb4 => ?_⟩
      have kk4 := k3.trans K4
      obtain ⟨g, ew, eg⟩ := hp4
      refine ⟨_, rfl, p4, _, _, _, rfl, rfl, SqT.of ew, atI_nat (j := 1) rfl, g, _, rfl, .inr (SqT.of eg), _, _, rfl, rfl, _, rfl, if_bl (fun _ => ?_) (fun _ => ?_)⟩
      · refine ⟨_, rfl, f, c, 3, rfl, by decide, by decide +kernel, F4, fun u H5 u0 u1 F5 B5 => ?_⟩
        have k5 := TK.but F4 B5
        refine ⟨_, rfl, by omega, by omega, for_range (lo := 0) (n := u.toNat) (fun j σ H6 => ∃ (p6 : Addr) (k6 : Nat) (ns6 : List Nat) (v6 : Option V), σ = [some (.ref a), some (.ref f), some (.ref r), some (.ref tp), some (.int (0 + (i : Int))), some (.ref p6), v6, v7, v8] ∧ PairAt H6 p6 k6 ns6 ∧ k6 < hs.length ∧ (∀ n ∈ ns6, n < bs.length) ∧ ns6.length ≤ 24 + j ∧ TK H5 H6 ∧ Flow H6 f c ∧ LamX.Tabs (TL PT) H6) ⟨p4, k4, ns4, _, rfl, ⟨g, k5 _ _ ew, k5 _ _ eg⟩, kl4, nl4, l24, TK.refl, F5, tabs_but tb4 F4 B5⟩ ?_ ?_⟩
        · rintro j σ H6 hj ⟨p6, k6, ns6, v6, rfl, hp6, kl6, nl6, l6, K6, F6, tb6⟩
          refine ⟨_, rfl, _, rfl, _, rfl, f, c, r, p6, hs, bs, k6, ns6, rfl, F6, hR.keep ((kk4.trans k5).trans K6), rk.ok, rk.pos, hp6, kl6, nl6, by omega, fun p7 k7 ns7 H7 hp7 kl7 nl7 l7 F7 B7 => ?_⟩
          exact ⟨p7, k7, ns7, _, rfl, hp7, kl7, nl7, by omega, K6.trans (TK.but F6 B7), F7, tabs_but tb6 F6 B7⟩
        · rintro σ H6 ⟨p6, k6, ns6, v6, rfl, hp6, kl6, nl6, l6, K6, F6, tb6⟩
          have kk6 := (kk4.trans k5).trans K6
          exact ⟨eD, f, c, r, tp, p6, hs, bs, k6, ns6, _, _, _, _, rfl, hR.keep kk6, rk, hp6, kl6, nl6, by omega, F6, tb6, fun σ2 H9 e9 k9 F9 tb9 => ⟨e9, kk6.trans k9, F9, tb9⟩⟩
      · exact ⟨eD, f, c, r, tp, p4, hs, bs, k4, ns4, _, _, _, _, rfl, hR.keep kk4, rk, ⟨g, ew, eg⟩, kl4, nl4, by omega, F4, tb4, fun σ2 H9 e9 k9 F9 tb9 => ⟨e9, kk4.trans k9, F9, tb9⟩⟩
    · rintro σ H3 ⟨⟨v4, v5, v6, v7, v8, rfl⟩, k3, F3, tb3⟩
      refine ⟨_, rfl, _, rfl, tp, _, _, _, rfl, rfl, SqT.of (k3 _ _ htp), atI_nat (j := 0) rfl, _, rfl, tp, _, _, _, rfl, rfl, SqT.of (k3 _ _ htp), atI_nat (j := 1) rfl, r, bp, wp, hs, bs, x, y, k, ns, rfl, hR.keep k3, rk.ok, k3 _ _ hbp, hwp.keep k3, B.kl, B.nl, l60, fun tt H4 e s4 => ?_⟩
      obtain rfl : tt = true := e.mpr hN
      refine ⟨_, _, rfl, rfl, ?_⟩
      rw [eD]
      exact q _
  refine ⟨_, rfl, a, ns, rfl, hS, fun f c H1 nf nc F1 s1 => ?_⟩
  refine ⟨_, rfl, f, c, rfl, F1, fun r hs bs H2 hR ok0 h0 F2 B2 => ?_⟩
  have ok := bok_of ok0
  have tb2 := tabs_but (tabs_same tabs s1) F1 B2
  have no : hs = [] → False := fun z => by rw [z] at h0; exact absurd h0 (Nat.not_lt_zero _)
  refine ⟨_, rfl, r, hs, bs, rfl, hR, ok, tb2, fun z => (no z).elim, fun _ p x y k ns lv H3 hp B D ext tb3 => ?_⟩
  have K3 := ExtN.tk ext
  refine ⟨_, rfl, r, hs, bs, rfl, hR.keep K3, ok, tb3, fun z => (no z).elim, fun _ p2 x2 y2 k2 ns2 lv2 H4 hp2 B2' D2 ext4 tb4 => ⟨(by show 2 ≤ sizeLine; decide), fun tp ntp => ?_⟩⟩
  have K4 := ExtN.tk ext4
  have s5 := same_new (H := H4) (o := .tup [.ref p, .ref p2]) ntp
  obtain ⟨ex, ey⟩ := beat_one ok B D B2' D2
  subst ex ey
  exact ⟨rfl, f, c, r, tp, p, p2, hs, bs, x, y, k2, ns2, rfl, ((hR.keep K3).keep K4).keep (TK.same s5), ⟨ok, h0, count_le ok0⟩, upd_same, s5 _ _ (K4 _ _ hp), hp2.keep (TK.same s5), B2', (ExtN.flow ext4 (ExtN.flow ext F2)).same s5, tabs_same tb4 s5⟩
end
theorem fun_of_D {K : PySem.W.Frag} {x q : Str} {st : Stmt} {f : Addr} {fd : FuncData} (D : FunD K x q (defArgs st) (defBody st) (defScope st) [] [] f fd) : Fun K x q st f fd := by
  obtain ⟨⟨oc, od, dV, kV, doc, pm, an, cdv, ct, osl, e, lk, ci, dfl, _⟩, kp⟩ := D
  have z : dV = .none := by
    rcases dfl with ⟨_, h⟩ | ⟨h, _⟩
    · exact h
    · exact absurd rfl h
  subst z
  exact ⟨⟨oc, od, kV, doc, pm, an, cdv, ct, osl, e, lk, ci⟩, kp⟩
def hd_levels_or_ring : He.DefD := ⟨("levels_or_ring", none), "levels_or_ring", "levels_or_ring", defArgs s_levels_or_ring, defBody s_levels_or_ring, defScope s_levels_or_ring, [], []⟩
def hd_raise_levels : He.DefD := ⟨("raise_levels", none), "raise_levels", "raise_levels", defArgs s_raise_levels, defBody s_raise_levels, defScope s_raise_levels, [], []⟩
def hd_ring_behind : He.DefD := ⟨("ring_behind", none), "ring_behind", "ring_behind", defArgs s_ring_behind, defBody s_ring_behind, defScope s_ring_behind, [], []⟩
def hd_trays_on : He.DefD := ⟨("trays_on", none), "trays_on", "trays_on", defArgs s_trays_on, defBody s_trays_on, defScope s_trays_on, [], []⟩
def hd_moments_on : He.DefD := ⟨("moments_on", none), "moments_on", "moments_on", defArgs s_moments_on, defBody s_moments_on, defScope s_moments_on, [], []⟩
def hd_way_end : He.DefD := ⟨("way_end", none), "way_end", "way_end", defArgs s_way_end, defBody s_way_end, defScope s_way_end, [], []⟩
def hd_beat : He.DefD := ⟨("beat", none), "beat", "beat", defArgs s_beat, defBody s_beat, defScope s_beat, [], []⟩
def hd_holder : He.DefD := ⟨("holder", none), "holder", "holder", defArgs s_holder, defBody s_holder, defScope s_holder, [], []⟩
def hd_beat_papers : He.DefD := ⟨("beat_papers", none), "beat_papers", "beat_papers", defArgs s_beat_papers, defBody s_beat_papers, defScope s_beat_papers, [], []⟩
def hd_beat_steps : He.DefD := ⟨("beat_steps", none), "beat_steps", "beat_steps", defArgs s_beat_steps, defBody s_beat_steps, defScope s_beat_steps, [], []⟩
def hd_ring_moments : He.DefD := ⟨("ring_moments", none), "ring_moments", "ring_moments", defArgs s_ring_moments, defBody s_ring_moments, defScope s_ring_moments, [], []⟩
def hd_in_least_terms : He.DefD := ⟨("in_least_terms", none), "in_least_terms", "in_least_terms", defArgs s_in_least_terms, defBody s_in_least_terms, defScope s_in_least_terms, [], []⟩
def hd_holder_holds : He.DefD := ⟨("holder_holds", none), "holder_holds", "holder_holds", defArgs s_holder_holds, defBody s_holder_holds, defScope s_holder_holds, [], []⟩
def hd_law_flow : He.DefD := ⟨("_law_flow", none), "_law_flow", "_law_flow", defArgs s_law_flow, defBody s_law_flow, defScope s_law_flow, [], []⟩
def hd_law_pick : He.DefD := ⟨("_law_pick", none), "_law_pick", "_law_pick", defArgs s_law_pick, defBody s_law_pick, defScope s_law_pick, [], []⟩
def hd_law_thing : He.DefD := ⟨("_law_thing", none), "_law_thing", "_law_thing", defArgs s_law_thing, defBody s_law_thing, defScope s_law_thing, [], []⟩
def hd_law_needs : He.DefD := ⟨("_law_needs", none), "_law_needs", "_law_needs", defArgs s_law_needs, defBody s_law_needs, defScope s_law_needs, [], []⟩
def hd_law_rule : He.DefD := ⟨("_law_rule", none), "_law_rule", "_law_rule", defArgs s_law_rule, defBody s_law_rule, defScope s_law_rule, [], []⟩
def hd_law_shuffled : He.DefD := ⟨("_law_shuffled", none), "_law_shuffled", "_law_shuffled", defArgs s_law_shuffled, defBody s_law_shuffled, defScope s_law_shuffled, [], []⟩
def hd_law_hands : He.DefD := ⟨("_law_hands", none), "_law_hands", "_law_hands", defArgs s_law_hands, defBody s_law_hands, defScope s_law_hands, [], []⟩
def hd_law_room : He.DefD := ⟨("_law_room", none), "_law_room", "_law_room", defArgs s_law_room, defBody s_law_room, defScope s_law_room, [], []⟩
def hd_law_alike : He.DefD := ⟨("_law_alike", none), "_law_alike", "_law_alike", defArgs s_law_alike, defBody s_law_alike, defScope s_law_alike, [], []⟩
def hd_law_doors_room : He.DefD := ⟨("_law_doors_room", none), "_law_doors_room", "_law_doors_room", defArgs s_law_doors_room, defBody s_law_doors_room, defScope s_law_doors_room, [], []⟩
def hd_law_any_room : He.DefD := ⟨("_law_any_room", none), "_law_any_room", "_law_any_room", defArgs s_law_any_room, defBody s_law_any_room, defScope s_law_any_room, [], []⟩
def hd_law_end : He.DefD := ⟨("_law_end", none), "_law_end", "_law_end", defArgs s_law_end, defBody s_law_end, defScope s_law_end, [], []⟩
def hd_law_trays : He.DefD := ⟨("_law_trays", none), "_law_trays", "_law_trays", defArgs s_law_trays, defBody s_law_trays, defScope s_law_trays, [], []⟩
def hd_law_moments : He.DefD := ⟨("_law_moments", none), "_law_moments", "_law_moments", defArgs s_law_moments, defBody s_law_moments, defScope s_law_moments, [], []⟩
def hd_law_any_way : He.DefD := ⟨("_law_any_way", none), "_law_any_way", "_law_any_way", defArgs s_law_any_way, defBody s_law_any_way, defScope s_law_any_way, [], []⟩
def hd_law_way_otherwise : He.DefD := ⟨("_law_way_otherwise", none), "_law_way_otherwise", "_law_way_otherwise", defArgs s_law_way_otherwise, defBody s_law_way_otherwise, defScope s_law_way_otherwise, [], []⟩
def hd_law_rings : He.DefD := ⟨("_law_rings", none), "_law_rings", "_law_rings", defArgs s_law_rings, defBody s_law_rings, defScope s_law_rings, [], []⟩
def hd_law_ring_moments : He.DefD := ⟨("_law_ring_moments", none), "_law_ring_moments", "_law_ring_moments", defArgs s_law_ring_moments, defBody s_law_ring_moments, defScope s_law_ring_moments, [], []⟩
def hd_law_holder_holds : He.DefD := ⟨("_law_holder_holds", none), "_law_holder_holds", "_law_holder_holds", defArgs s_law_holder_holds, defBody s_law_holder_holds, defScope s_law_holder_holds, [], []⟩
def hd_law_some_way : He.DefD := ⟨("_law_some_way", none), "_law_some_way", "_law_some_way", defArgs s_law_some_way, defBody s_law_some_way, defScope s_law_some_way, [], []⟩
def hd_law_some_fraction : He.DefD := ⟨("_law_some_fraction", none), "_law_some_fraction", "_law_some_fraction", defArgs s_law_some_fraction, defBody s_law_some_fraction, defScope s_law_some_fraction, [], []⟩
def hd_law : He.DefD := ⟨("law", none), "law", "law", defArgs s_law, defBody s_law, defScope s_law, [], []⟩
def hFn : List He.DefD := [hd_levels_or_ring, hd_raise_levels, hd_ring_behind, hd_trays_on, hd_moments_on, hd_way_end, hd_beat, hd_holder, hd_beat_papers, hd_beat_steps, hd_ring_moments, hd_in_least_terms, hd_holder_holds, hd_law_flow, hd_law_pick, hd_law_thing, hd_law_needs, hd_law_rule, hd_law_shuffled, hd_law_hands, hd_law_room, hd_law_alike, hd_law_doors_room, hd_law_any_room, hd_law_end, hd_law_trays, hd_law_moments, hd_law_any_way, hd_law_way_otherwise, hd_law_rings, hd_law_ring_moments, hd_law_holder_holds, hd_law_some_way, hd_law_some_fraction, hd_law]
def hFa : List He.Fa := [.glo "levels_or_ring", .glo "raise_levels", .glo "ring_behind", .glo "trays_on", .glo "moments_on", .glo "way_end", .glo "beat", .glo "holder", .glo "beat_papers", .glo "beat_steps", .glo "ring_moments", .glo "in_least_terms", .glo "holder_holds", .glo "_law_flow", .glo "_law_pick", .glo "_law_thing", .glo "_law_needs", .glo "_law_rule", .glo "_law_shuffled", .glo "_law_hands", .glo "_law_room", .glo "_law_alike", .glo "_law_doors_room", .glo "_law_any_room", .glo "_law_end", .glo "_law_trays", .glo "_law_moments", .glo "_law_any_way", .glo "_law_way_otherwise", .glo "_law_rings", .glo "_law_ring_moments", .glo "_law_holder_holds", .glo "_law_some_way", .glo "_law_some_fraction", .glo "law", .free "all", .free "bool", .free "enumerate", .free "int", .free "isinstance", .free "len", .free "list", .free "max", .free "min", .free "range", .free "sum", .free "tuple", .free "zip"]
def hEx (K : PySem.W.Frag) : Bool := true
def hTf : List (Str × Option Str) := [("beat_papers", none)]
abbrev hR : PySem.W.OpenRow := PySem.W.OpenLaw.row PySem.Challenge.rw_beltshift_k65_holders_looked_at
abbrev hk : PySem.W.Hook := He.hookX 4 hFa hFn [] hTf hEx
def hOb (s : PySem.W.SharedT) : He.AlX := He.obsX 4 hFa hFn [] hTf hEx (HandSHeadRun.getT s)
theorem hOb_eq (s : PySem.W.SharedT) : hOb s = hk.obs s.abs := He.obsX_eq (HandSHeadRun.getT_eq s)
def hN0 : List Str := ["levels_or_ring", "raise_levels", "ring_behind", "trays_on", "moments_on", "way_end", "beat", "holder", "beat_papers", "beat_steps", "ring_moments", "in_least_terms", "holder_holds", "_law_flow", "_law_pick", "_law_thing", "_law_needs", "_law_rule", "_law_shuffled", "_law_hands", "_law_room", "_law_alike", "_law_doors_room", "_law_any_room", "_law_end", "_law_trays", "_law_moments", "_law_any_way", "_law_way_otherwise", "_law_rings"]
def hN1 : List Str := ["_law_ring_moments", "_law_holder_holds", "_law_some_way", "_law_some_fraction"]
def hNames : List Str := hN0 ++ hN1
set_option maxHeartbeats 0 in
theorem hRun (w : World) : HandSHeadRun.RunEq hR (PySem.W.view hR.prog [38]) hk hOb 40000 hNames w := by
  intro os
  kernel_rfl
set_option maxHeartbeats 0 in
theorem all_mkX {w : World} {K : PySem.W.Frag} {h : Heap} {mg : Str → Option Value} {fa : Addr} (X : K.In h) (G : h.Ns mainGlobals mg) (hfa : mg "law" = some (.ref fa)) (c : He.SaysX hFa hFn [] hTf hEx w h K) : LamX.LawAtS PySem.Challenge.rw_beltshift_k65_holders_looked_at w K CX0 7 63 "_law_script" mg fa h := by
  have cd := c.t.d
  obtain ⟨fd0, D0⟩ := cd.def_ 0 (d := hd_levels_or_ring) rfl
  have F0 : Fun K "levels_or_ring" "levels_or_ring" s_levels_or_ring (He.ga K "levels_or_ring") fd0 := fun_of_D D0
  have g0 : mg "levels_or_ring" = some (.ref (He.ga K "levels_or_ring")) := He.glo_ok X G (cd.fact 0 (f := .glo "levels_or_ring") rfl)
  have b0 := F0.binds (ps := ["many", "steps"]) fun _ _ _ _ _ _ us hl => match us, hl with | [_, _], _ => rfl
  obtain ⟨fd1, D1⟩ := cd.def_ 1 (d := hd_raise_levels) rfl
  have F1 : Fun K "raise_levels" "raise_levels" s_raise_levels (He.ga K "raise_levels") fd1 := fun_of_D D1
  have g1 : mg "raise_levels" = some (.ref (He.ga K "raise_levels")) := He.glo_ok X G (cd.fact 1 (f := .glo "raise_levels") rfl)
  have b1 := F1.binds (ps := ["levels", "last", "steps"]) fun _ _ _ _ _ _ us hl => match us, hl with | [_, _, _], _ => rfl
  obtain ⟨fd2, D2⟩ := cd.def_ 2 (d := hd_ring_behind) rfl
  have F2 : Fun K "ring_behind" "ring_behind" s_ring_behind (He.ga K "ring_behind") fd2 := fun_of_D D2
  have g2 : mg "ring_behind" = some (.ref (He.ga K "ring_behind")) := He.glo_ok X G (cd.fact 2 (f := .glo "ring_behind") rfl)
  have b2 := F2.binds (ps := ["place", "last", "steps"]) fun _ _ _ _ _ _ us hl => match us, hl with | [_, _, _], _ => rfl
  obtain ⟨fd3, D3⟩ := cd.def_ 3 (d := hd_trays_on) rfl
  have F3 : Fun K "trays_on" "trays_on" s_trays_on (He.ga K "trays_on") fd3 := fun_of_D D3
  have g3 : mg "trays_on" = some (.ref (He.ga K "trays_on")) := He.glo_ok X G (cd.fact 3 (f := .glo "trays_on") rfl)
  have b3 := F3.binds (ps := ["room", "way"]) fun _ _ _ _ _ _ us hl => match us, hl with | [_, _], _ => rfl
  obtain ⟨fd4, D4⟩ := cd.def_ 4 (d := hd_moments_on) rfl
  have F4 : Fun K "moments_on" "moments_on" s_moments_on (He.ga K "moments_on") fd4 := fun_of_D D4
  have g4 : mg "moments_on" = some (.ref (He.ga K "moments_on")) := He.glo_ok X G (cd.fact 4 (f := .glo "moments_on") rfl)
  have b4 := F4.binds (ps := ["room", "way"]) fun _ _ _ _ _ _ us hl => match us, hl with | [_, _], _ => rfl
  obtain ⟨fd5, D5⟩ := cd.def_ 5 (d := hd_way_end) rfl
  have F5 : Fun K "way_end" "way_end" s_way_end (He.ga K "way_end") fd5 := fun_of_D D5
  have g5 : mg "way_end" = some (.ref (He.ga K "way_end")) := He.glo_ok X G (cd.fact 5 (f := .glo "way_end") rfl)
  have b5 := F5.binds (ps := ["room", "pair"]) fun _ _ _ _ _ _ us hl => match us, hl with | [_, _], _ => rfl
  obtain ⟨fd6, D6⟩ := cd.def_ 6 (d := hd_beat) rfl
  have F6 : Fun K "beat" "beat" s_beat (He.ga K "beat") fd6 := fun_of_D D6
  have g6 : mg "beat" = some (.ref (He.ga K "beat")) := He.glo_ok X G (cd.fact 6 (f := .glo "beat") rfl)
  have b6 := F6.binds (ps := ["room"]) fun _ _ _ _ _ _ us hl => match us, hl with | [_], _ => rfl
  obtain ⟨fd7, D7⟩ := cd.def_ 7 (d := hd_holder) rfl
  have F7 : Fun K "holder" "holder" s_holder (He.ga K "holder") fd7 := fun_of_D D7
  have g7 : mg "holder" = some (.ref (He.ga K "holder")) := He.glo_ok X G (cd.fact 7 (f := .glo "holder") rfl)
  have b7 := F7.binds (ps := ["room"]) fun _ _ _ _ _ _ us hl => match us, hl with | [_], _ => rfl
  obtain ⟨fd8, D8⟩ := cd.def_ 8 (d := hd_beat_papers) rfl
  have F8 : Fun K "beat_papers" "beat_papers" s_beat_papers (He.ga K "beat_papers") fd8 := fun_of_D D8
  have g8 : mg "beat_papers" = some (.ref (He.ga K "beat_papers")) := He.glo_ok X G (cd.fact 8 (f := .glo "beat_papers") rfl)
  have b8 := F8.binds (ps := ["room"]) fun _ _ _ _ _ _ us hl => match us, hl with | [_], _ => rfl
  obtain ⟨fd9, D9⟩ := cd.def_ 9 (d := hd_beat_steps) rfl
  have F9 : Fun K "beat_steps" "beat_steps" s_beat_steps (He.ga K "beat_steps") fd9 := fun_of_D D9
  have g9 : mg "beat_steps" = some (.ref (He.ga K "beat_steps")) := He.glo_ok X G (cd.fact 9 (f := .glo "beat_steps") rfl)
  have b9 := F9.binds (ps := ["room", "fraction"]) fun _ _ _ _ _ _ us hl => match us, hl with | [_, _], _ => rfl
  obtain ⟨fd10, D10⟩ := cd.def_ 10 (d := hd_ring_moments) rfl
  have F10 : Fun K "ring_moments" "ring_moments" s_ring_moments (He.ga K "ring_moments") fd10 := fun_of_D D10
  have g10 : mg "ring_moments" = some (.ref (He.ga K "ring_moments")) := He.glo_ok X G (cd.fact 10 (f := .glo "ring_moments") rfl)
  have b10 := F10.binds (ps := ["room", "way"]) fun _ _ _ _ _ _ us hl => match us, hl with | [_, _], _ => rfl
  obtain ⟨fd11, D11⟩ := cd.def_ 11 (d := hd_in_least_terms) rfl
  have F11 : Fun K "in_least_terms" "in_least_terms" s_in_least_terms (He.ga K "in_least_terms") fd11 := fun_of_D D11
  have g11 : mg "in_least_terms" = some (.ref (He.ga K "in_least_terms")) := He.glo_ok X G (cd.fact 11 (f := .glo "in_least_terms") rfl)
  have b11 := F11.binds (ps := ["a", "b"]) fun _ _ _ _ _ _ us hl => match us, hl with | [_, _], _ => rfl
  obtain ⟨fd12, D12⟩ := cd.def_ 12 (d := hd_holder_holds) rfl
  have F12 : Fun K "holder_holds" "holder_holds" s_holder_holds (He.ga K "holder_holds") fd12 := fun_of_D D12
  have g12 : mg "holder_holds" = some (.ref (He.ga K "holder_holds")) := He.glo_ok X G (cd.fact 12 (f := .glo "holder_holds") rfl)
  have b12 := F12.binds (ps := ["room", "fraction", "way"]) fun _ _ _ _ _ _ us hl => match us, hl with | [_, _, _], _ => rfl
  obtain ⟨fd13, D13⟩ := cd.def_ 13 (d := hd_law_flow) rfl
  have F13 : Fun K "_law_flow" "_law_flow" s_law_flow (He.ga K "_law_flow") fd13 := fun_of_D D13
  have g13 : mg "_law_flow" = some (.ref (He.ga K "_law_flow")) := He.glo_ok X G (cd.fact 13 (f := .glo "_law_flow") rfl)
  have b13 := F13.binds (ps := ["_law_script"]) fun _ _ _ _ _ _ us hl => match us, hl with | [_], _ => rfl
  obtain ⟨fd14, D14⟩ := cd.def_ 14 (d := hd_law_pick) rfl
  have F14 : Fun K "_law_pick" "_law_pick" s_law_pick (He.ga K "_law_pick") fd14 := fun_of_D D14
  have g14 : mg "_law_pick" = some (.ref (He.ga K "_law_pick")) := He.glo_ok X G (cd.fact 14 (f := .glo "_law_pick") rfl)
  have b14 := F14.binds (ps := ["_law_flow_here", "_law_many"]) fun _ _ _ _ _ _ us hl => match us, hl with | [_, _], _ => rfl
  obtain ⟨fd15, D15⟩ := cd.def_ 15 (d := hd_law_thing) rfl
  have F15 : Fun K "_law_thing" "_law_thing" s_law_thing (He.ga K "_law_thing") fd15 := fun_of_D D15
  have g15 : mg "_law_thing" = some (.ref (He.ga K "_law_thing")) := He.glo_ok X G (cd.fact 15 (f := .glo "_law_thing") rfl)
  have b15 := F15.binds (ps := ["_law_flow_here"]) fun _ _ _ _ _ _ us hl => match us, hl with | [_], _ => rfl
  obtain ⟨fd16, D16⟩ := cd.def_ 16 (d := hd_law_needs) rfl
  have F16 : Fun K "_law_needs" "_law_needs" s_law_needs (He.ga K "_law_needs") fd16 := fun_of_D D16
  have g16 : mg "_law_needs" = some (.ref (He.ga K "_law_needs")) := He.glo_ok X G (cd.fact 16 (f := .glo "_law_needs") rfl)
  have b16 := F16.binds (ps := ["_law_rule_here"]) fun _ _ _ _ _ _ us hl => match us, hl with | [_], _ => rfl
  obtain ⟨fd17, D17⟩ := cd.def_ 17 (d := hd_law_rule) rfl
  have F17 : Fun K "_law_rule" "_law_rule" s_law_rule (He.ga K "_law_rule") fd17 := fun_of_D D17
  have g17 : mg "_law_rule" = some (.ref (He.ga K "_law_rule")) := He.glo_ok X G (cd.fact 17 (f := .glo "_law_rule") rfl)
  have b17 := F17.binds (ps := ["_law_flow_here", "_law_most"]) fun _ _ _ _ _ _ us hl => match us, hl with | [_, _], _ => rfl
  obtain ⟨fd18, D18⟩ := cd.def_ 18 (d := hd_law_shuffled) rfl
  have F18 : Fun K "_law_shuffled" "_law_shuffled" s_law_shuffled (He.ga K "_law_shuffled") fd18 := fun_of_D D18
  have g18 : mg "_law_shuffled" = some (.ref (He.ga K "_law_shuffled")) := He.glo_ok X G (cd.fact 18 (f := .glo "_law_shuffled") rfl)
  have b18 := F18.binds (ps := ["_law_flow_here", "_law_some"]) fun _ _ _ _ _ _ us hl => match us, hl with | [_, _], _ => rfl
  obtain ⟨fd19, D19⟩ := cd.def_ 19 (d := hd_law_hands) rfl
  have F19 : Fun K "_law_hands" "_law_hands" s_law_hands (He.ga K "_law_hands") fd19 := fun_of_D D19
  have g19 : mg "_law_hands" = some (.ref (He.ga K "_law_hands")) := He.glo_ok X G (cd.fact 19 (f := .glo "_law_hands") rfl)
  have b19 := F19.binds (ps := ["_law_flow_here", "_law_many"]) fun _ _ _ _ _ _ us hl => match us, hl with | [_, _], _ => rfl
  obtain ⟨fd20, D20⟩ := cd.def_ 20 (d := hd_law_room) rfl
  have F20 : Fun K "_law_room" "_law_room" s_law_room (He.ga K "_law_room") fd20 := fun_of_D D20
  have g20 : mg "_law_room" = some (.ref (He.ga K "_law_room")) := He.glo_ok X G (cd.fact 20 (f := .glo "_law_room") rfl)
  have b20 := F20.binds (ps := ["_law_flow_here", "_law_most"]) fun _ _ _ _ _ _ us hl => match us, hl with | [_, _], _ => rfl
  obtain ⟨fd21, D21⟩ := cd.def_ 21 (d := hd_law_alike) rfl
  have F21 : Fun K "_law_alike" "_law_alike" s_law_alike (He.ga K "_law_alike") fd21 := fun_of_D D21
  have g21 : mg "_law_alike" = some (.ref (He.ga K "_law_alike")) := He.glo_ok X G (cd.fact 21 (f := .glo "_law_alike") rfl)
  have b21 := F21.binds (ps := ["_law_found", "_law_due"]) fun _ _ _ _ _ _ us hl => match us, hl with | [_, _], _ => rfl
  obtain ⟨fd22, D22⟩ := cd.def_ 22 (d := hd_law_doors_room) rfl
  have F22 : Fun K "_law_doors_room" "_law_doors_room" s_law_doors_room (He.ga K "_law_doors_room") fd22 := fun_of_D D22
  have g22 : mg "_law_doors_room" = some (.ref (He.ga K "_law_doors_room")) := He.glo_ok X G (cd.fact 22 (f := .glo "_law_doors_room") rfl)
  have b22 := F22.binds (ps := ["_law_flow_here"]) fun _ _ _ _ _ _ us hl => match us, hl with | [_], _ => rfl
  obtain ⟨fd23, D23⟩ := cd.def_ 23 (d := hd_law_any_room) rfl
  have F23 : Fun K "_law_any_room" "_law_any_room" s_law_any_room (He.ga K "_law_any_room") fd23 := fun_of_D D23
  have g23 : mg "_law_any_room" = some (.ref (He.ga K "_law_any_room")) := He.glo_ok X G (cd.fact 23 (f := .glo "_law_any_room") rfl)
  have b23 := F23.binds (ps := ["_law_flow_here"]) fun _ _ _ _ _ _ us hl => match us, hl with | [_], _ => rfl
  obtain ⟨fd24, D24⟩ := cd.def_ 24 (d := hd_law_end) rfl
  have F24 : Fun K "_law_end" "_law_end" s_law_end (He.ga K "_law_end") fd24 := fun_of_D D24
  have g24 : mg "_law_end" = some (.ref (He.ga K "_law_end")) := He.glo_ok X G (cd.fact 24 (f := .glo "_law_end") rfl)
  have b24 := F24.binds (ps := ["_law_room_here", "_law_pair"]) fun _ _ _ _ _ _ us hl => match us, hl with | [_, _], _ => rfl
  obtain ⟨fd25, D25⟩ := cd.def_ 25 (d := hd_law_trays) rfl
  have F25 : Fun K "_law_trays" "_law_trays" s_law_trays (He.ga K "_law_trays") fd25 := fun_of_D D25
  have g25 : mg "_law_trays" = some (.ref (He.ga K "_law_trays")) := He.glo_ok X G (cd.fact 25 (f := .glo "_law_trays") rfl)
  have b25 := F25.binds (ps := ["_law_room_here", "_law_way"]) fun _ _ _ _ _ _ us hl => match us, hl with | [_, _], _ => rfl
  obtain ⟨fd26, D26⟩ := cd.def_ 26 (d := hd_law_moments) rfl
  have F26 : Fun K "_law_moments" "_law_moments" s_law_moments (He.ga K "_law_moments") fd26 := fun_of_D D26
  have g26 : mg "_law_moments" = some (.ref (He.ga K "_law_moments")) := He.glo_ok X G (cd.fact 26 (f := .glo "_law_moments") rfl)
  have b26 := F26.binds (ps := ["_law_room_here", "_law_way"]) fun _ _ _ _ _ _ us hl => match us, hl with | [_, _], _ => rfl
  obtain ⟨fd27, D27⟩ := cd.def_ 27 (d := hd_law_any_way) rfl
  have F27 : Fun K "_law_any_way" "_law_any_way" s_law_any_way (He.ga K "_law_any_way") fd27 := fun_of_D D27
  have g27 : mg "_law_any_way" = some (.ref (He.ga K "_law_any_way")) := He.glo_ok X G (cd.fact 27 (f := .glo "_law_any_way") rfl)
  have b27 := F27.binds (ps := ["_law_flow_here", "_law_room_here", "_law_most"]) fun _ _ _ _ _ _ us hl => match us, hl with | [_, _, _], _ => rfl
  obtain ⟨fd28, D28⟩ := cd.def_ 28 (d := hd_law_way_otherwise) rfl
  have F28 : Fun K "_law_way_otherwise" "_law_way_otherwise" s_law_way_otherwise (He.ga K "_law_way_otherwise") fd28 := fun_of_D D28
  have g28 : mg "_law_way_otherwise" = some (.ref (He.ga K "_law_way_otherwise")) := He.glo_ok X G (cd.fact 28 (f := .glo "_law_way_otherwise") rfl)
  have b28 := F28.binds (ps := ["_law_flow_here", "_law_room_here", "_law_way"]) fun _ _ _ _ _ _ us hl => match us, hl with | [_, _, _], _ => rfl
  obtain ⟨fd29, D29⟩ := cd.def_ 29 (d := hd_law_rings) rfl
  have F29 : Fun K "_law_rings" "_law_rings" s_law_rings (He.ga K "_law_rings") fd29 := fun_of_D D29
  have g29 : mg "_law_rings" = some (.ref (He.ga K "_law_rings")) := He.glo_ok X G (cd.fact 29 (f := .glo "_law_rings") rfl)
  have b29 := F29.binds (ps := ["_law_room_here"]) fun _ _ _ _ _ _ us hl => match us, hl with | [_], _ => rfl
  obtain ⟨fd30, D30⟩ := cd.def_ 30 (d := hd_law_ring_moments) rfl
  have F30 : Fun K "_law_ring_moments" "_law_ring_moments" s_law_ring_moments (He.ga K "_law_ring_moments") fd30 := fun_of_D D30
  have g30 : mg "_law_ring_moments" = some (.ref (He.ga K "_law_ring_moments")) := He.glo_ok X G (cd.fact 30 (f := .glo "_law_ring_moments") rfl)
  have b30 := F30.binds (ps := ["_law_room_here", "_law_way"]) fun _ _ _ _ _ _ us hl => match us, hl with | [_, _], _ => rfl
  obtain ⟨fd31, D31⟩ := cd.def_ 31 (d := hd_law_holder_holds) rfl
  have F31 : Fun K "_law_holder_holds" "_law_holder_holds" s_law_holder_holds (He.ga K "_law_holder_holds") fd31 := fun_of_D D31
  have g31 : mg "_law_holder_holds" = some (.ref (He.ga K "_law_holder_holds")) := He.glo_ok X G (cd.fact 31 (f := .glo "_law_holder_holds") rfl)
  have b31 := F31.binds (ps := ["_law_room_here", "_law_fraction", "_law_way"]) fun _ _ _ _ _ _ us hl => match us, hl with | [_, _, _], _ => rfl
  obtain ⟨fd32, D32⟩ := cd.def_ 32 (d := hd_law_some_way) rfl
  have F32 : Fun K "_law_some_way" "_law_some_way" s_law_some_way (He.ga K "_law_some_way") fd32 := fun_of_D D32
  have g32 : mg "_law_some_way" = some (.ref (He.ga K "_law_some_way")) := He.glo_ok X G (cd.fact 32 (f := .glo "_law_some_way") rfl)
  have b32 := F32.binds (ps := ["_law_flow_here", "_law_room_here"]) fun _ _ _ _ _ _ us hl => match us, hl with | [_, _], _ => rfl
  obtain ⟨fd33, D33⟩ := cd.def_ 33 (d := hd_law_some_fraction) rfl
  have F33 : Fun K "_law_some_fraction" "_law_some_fraction" s_law_some_fraction (He.ga K "_law_some_fraction") fd33 := fun_of_D D33
  have g33 : mg "_law_some_fraction" = some (.ref (He.ga K "_law_some_fraction")) := He.glo_ok X G (cd.fact 33 (f := .glo "_law_some_fraction") rfl)
  have b33 := F33.binds (ps := ["_law_flow_here", "_law_room_here", "_law_way"]) fun _ _ _ _ _ _ us hl => match us, hl with | [_, _, _], _ => rfl
  obtain ⟨fd34, D34⟩ := cd.def_ 34 (d := hd_law) rfl
  have F34 : Fun K "law" "law" s_law (He.ga K "law") fd34 := fun_of_D D34
  have g34 : mg "law" = some (.ref (He.ga K "law")) := He.glo_ok X G (cd.fact 34 (f := .glo "law") rfl)
  have T : Top K mg := ⟨⟨_, fd0, F0, b0, g0⟩, ⟨_, fd1, F1, b1, g1⟩, ⟨_, fd2, F2, b2, g2⟩, ⟨_, fd3, F3, b3, g3⟩, ⟨_, fd4, F4, b4, g4⟩, ⟨_, fd5, F5, b5, g5⟩, ⟨_, fd6, F6, b6, g6⟩, ⟨_, fd7, F7, b7, g7⟩, ⟨_, fd8, F8, b8, g8⟩, ⟨_, fd9, F9, b9, g9⟩, ⟨_, fd10, F10, b10, g10⟩, ⟨_, fd11, F11, b11, g11⟩, ⟨_, fd12, F12, b12, g12⟩, ⟨_, fd13, F13, b13, g13⟩, ⟨_, fd14, F14, b14, g14⟩, ⟨_, fd15, F15, b15, g15⟩, ⟨_, fd16, F16, b16, g16⟩, ⟨_, fd17, F17, b17, g17⟩, ⟨_, fd18, F18, b18, g18⟩, ⟨_, fd19, F19, b19, g19⟩, ⟨_, fd20, F20, b20, g20⟩, ⟨_, fd21, F21, b21, g21⟩, ⟨_, fd22, F22, b22, g22⟩, ⟨_, fd23, F23, b23, g23⟩, ⟨_, fd24, F24, b24, g24⟩, ⟨_, fd25, F25, b25, g25⟩, ⟨_, fd26, F26, b26, g26⟩, ⟨_, fd27, F27, b27, g27⟩, ⟨_, fd28, F28, b28, g28⟩, ⟨_, fd29, F29, b29, g29⟩, ⟨_, fd30, F30, b30, g30⟩, ⟨_, fd31, F31, b31, g31⟩, ⟨_, fd32, F32, b32, g32⟩, ⟨_, fd33, F33, b33, g33⟩, He.free_ok X G (cd.fact 35 (f := .free "all") rfl), He.free_ok X G (cd.fact 36 (f := .free "bool") rfl), He.free_ok X G (cd.fact 37 (f := .free "enumerate") rfl), He.free_ok X G (cd.fact 38 (f := .free "int") rfl), He.free_ok X G (cd.fact 39 (f := .free "isinstance") rfl), He.free_ok X G (cd.fact 40 (f := .free "len") rfl), He.free_ok X G (cd.fact 41 (f := .free "list") rfl), He.free_ok X G (cd.fact 42 (f := .free "max") rfl), He.free_ok X G (cd.fact 43 (f := .free "min") rfl), He.free_ok X G (cd.fact 44 (f := .free "range") rfl), He.free_ok X G (cd.fact 45 (f := .free "sum") rfl), He.free_ok X G (cd.fact 46 (f := .free "tuple") rfl), He.free_ok X G (cd.fact 47 (f := .free "zip") rfl)⟩
  have e := hfa.symm.trans g34
  cases e
  have law_b : ∀ (s : Shared) (v : Value), BindsTo s fd34 ⟨[v], []⟩ [("_law_script", v)] := fun s v => by
    obtain ⟨_, _, _, _, _, _, _, _, _, rfl, _, _⟩ := F34.ex
    exact .of_eq rfl
  refine ⟨fd34, [He.cT K ("beat_papers", none)], sp_law K (He.cT K ("beat_papers", none)).2, fun p hp => ?_, fun p hp => ?_, fun p hp => ?_, law_b, fun H a ns hl _ hT hS => ⟨a, ns, rfl, hS, hl, (fun p hp => by rw [List.mem_singleton.mp hp]; exact LamX.TabS.nil (hT _ (List.mem_cons_self ..))), fun _ => rfl⟩, fun base _ _ TB => ?_⟩
  · have hin : ∀ p ∈ [He.cT K ("beat_papers", none)], ∃ q ∈ hTf, p = He.cT K q := fun p hp => by
      rcases List.mem_cons.mp hp with rfl | hp
      · exact ⟨_, List.mem_cons_self .., rfl⟩
      cases hp
    obtain ⟨q, hq, rfl⟩ := hin p hp
    exact c.empty _ hq
  · have hin : ∀ p ∈ [He.cT K ("beat_papers", none)], ∃ q ∈ hTf, p = He.cT K q := fun p hp => by
      rcases List.mem_cons.mp hp with rfl | hp
      · exact ⟨_, List.mem_cons_self .., rfl⟩
      cases hp
    obtain ⟨q, hq, rfl⟩ := hin p hp
    exact c.out _ hq
  · have hin : ∀ p ∈ [He.cT K ("beat_papers", none)], ∃ q ∈ hTf, p = He.cT K q := fun p hp => by
      rcases List.mem_cons.mp hp with rfl | hp
      · exact ⟨_, List.mem_cons_self .., rfl⟩
      cases hp
    obtain ⟨q, hq, rfl⟩ := hin p hp
    exact PySem.W.codeHd_of_K X (c.hd _ hq)
  have TB0 := TB _ (List.mem_cons_self ..)
  have TC0 := TB0
  haveI : TabL K mg base _ _ := ⟨TC0, fun f fd F m => by
    have e := m.symm.trans g8
    cases e
    obtain ⟨_, _, _, _, _, _, cdv, _, _, rfl, lk, ci⟩ := F.ex
    obtain ⟨c0, rfl⟩ := He.codeIn_ref ci
    exact congrArg Value.ref (He.codeOf_eq (p := ("beat_papers", none)) lk rfl).symm⟩
  exact ok_law F34 T
end Mine
open PySem PySem.W PySem.Calls PyProof.Rows
set_option maxRecDepth 100000 in
set_option maxHeartbeats 0 in
theorem PySem.Challenge.cw_beltshift_k65_holders_looked_at_holds : PySem.Challenge.rw_beltshift_k65_holders_looked_at.Holds := by
  w_on; o_law
  refine HandSHeadRun.head_any (r := Mine.hR) (q := view Mine.hR.prog [38]) (H := Mine.hk) (ob := Mine.hOb) (M := 40000) (loose := Mine.hNames) (d := HandSHeadRun.topDef Mine.hR.prog 38) (kwd := []) Mine.hOb_eq (by kernel_rfl) (fun s => by kernel_rfl) Mine.hRun (by kernel_rfl) (by kernel_rfl) (by kernel_rfl) (by rfl) (by first | assumption | decide +kernel) (by decide +kernel) ⟨rfl, rfl, rfl, rfl, rfl, by decide +kernel⟩ ?hw ?hc
  case hw => w_witness2
  case hc =>
    refine LamX.walk_ofTsE (l := PySem.Challenge.rw_beltshift_k65_holders_looked_at) (n := 63) (k := 7) (x := "_law_script") (CX := fun _ => L2.CX0) rfl (by decide) (by kernel_rfl) ⟨rfl, by decide, by decide⟩ ?F (fun _ _ _ _ _ z => z)
    intro w mg fa h Y G hmg0
    obtain ⟨K, KX, c⟩ := Y
    have hmg : mg ("law" : PySem.Str) = some (.ref fa) := by
      have e : (HandSHeadRun.topDef Mine.hR.prog 38).name = ("law" : PySem.Str) := by kernel_rfl
      rw [← e]
      exact hmg0
    exact ⟨K, KX, Mine.all_mkX KX G hmg c⟩
