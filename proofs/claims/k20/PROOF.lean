import PyProof.Rows.All
import Wide.All
import OpenK.AllK
import Wide.FinOn
import HandS.ForMost
import HandS.DictComp
import HandS.Wide
import HandS.Style
import HandS.IsInst
import HandS.TupAny
import HandS.NoneIn
import HandS.SetFor
import HandS.Conv
import HandS.Zip
import HandS.SortKw
import HandS.Deep
import KE.DataMinMax
import KE.GoesMore
import KE.KDictZip
import KE.GoesZip
import KE.GoesEnum
import HandS.AnyAll
import HandS.GenOver
import HandS.Strs
import HandS.TupLen
import KE.KeyNested
import PyProof.Rows.TupTab
import HandS.TupMul
import HandS.Words
import HandS.EndTab
import HandS.HeadWalk
import HandS.Defaults
import HandS.Head0
import HandS.Head1
import HandS.Head2
import HandS.HeadEnd
import HandS.HeadHook1
import HandS.HeadHook2
import HandS.HeadHook3
import HandS.HeadHook4
import KE.KStateDown
import KE.KIsAll
import KE.KNestM
import PyProof.GenCompD
import PyProof.WalksMore
import PyProof.ReprRoads
import PySem.Challenge.RW_beltshift_k20_the_first_of_several_names
import HandS.Lambda
import KE.KLam
import KE.DataMinKey
import HandS.TryOnly
import HandS.ExcInit
import HandS.WordsExc
import HandS.ExcIs
import HandS.ExcField
import HandS.ExcOwn
import HandS.SetKeys
set_option Elab.async false
set_option linter.all false
set_option maxRecDepth 100000
namespace Mine
open PySem PyProof.Rows L2
def topS (i : Nat) : Stmt := PySem.Challenge.pw_beltshift_k20_the_first_of_several_names.main.body.getD i (.Pass ⟨0, 0, 0, 0⟩)
abbrev s_first_on_ring : Stmt := topS 9
abbrev N_first_on_ring : List Str := ["places", "steps", "place"]
theorem sc_first_on_ring : FnScope N_first_on_ring ["places", "steps"] (defScope s_first_on_ring) := ⟨rfl, rfl, rfl, by decide +kernel, rfl, by decide +kernel, by decide +kernel⟩
abbrev s_comes_back : Stmt := topS 10
abbrev N_comes_back : List Str := ["place", "steps", "seen", "left", "here"]
theorem sc_comes_back : FnScope N_comes_back ["place", "steps"] (defScope s_comes_back) := ⟨rfl, rfl, rfl, by decide +kernel, rfl, by decide +kernel, by decide +kernel⟩
abbrev s_tree_parts : Stmt := topS 12
abbrev N_tree_parts : List Str := ["tree", "found", "left", "part", "branch"]
theorem sc_tree_parts : FnScope N_tree_parts ["tree"] (defScope s_tree_parts) := ⟨rfl, rfl, rfl, by decide +kernel, rfl, by decide +kernel, by decide +kernel⟩
abbrev s_leanings : Stmt := topS 13
abbrev N_leanings : List Str := ["tree", "part"]
theorem sc_leanings : FnScope N_leanings ["tree"] (defScope s_leanings) := ⟨rfl, rfl, rfl, by decide +kernel, rfl, by decide +kernel, by decide +kernel⟩
abbrev s_look_formulas : Stmt := topS 15
abbrev N_look_formulas : List Str := ["formulas", "ins", "was", "rules", "outs", "told", "name", "tree", "things"]
theorem sc_look_formulas : FnScope N_look_formulas ["formulas"] (defScope s_look_formulas) := ⟨rfl, rfl, rfl, by decide +kernel, rfl, by decide +kernel, by decide +kernel⟩
abbrev s_refuse_formula : Stmt := topS 16
abbrev N_refuse_formula : List Str := ["word", "name"]
theorem sc_refuse_formula : FnScope N_refuse_formula ["word", "name"] (defScope s_refuse_formula) := ⟨rfl, rfl, rfl, by decide +kernel, rfl, by decide +kernel, by decide +kernel⟩
abbrev s_first_again : Stmt := topS 17
abbrev N_first_again : List Str := ["names", "seen", "name"]
theorem sc_first_again : FnScope N_first_again ["names"] (defScope s_first_again) := ⟨rfl, rfl, rfl, by decide +kernel, rfl, by decide +kernel, by decide +kernel⟩
abbrev s_first_lost : Stmt := topS 18
abbrev N_first_lost : List Str := ["formulas", "told", "ins", "was", "rules", "outs", "names", "name", "things", "rule", "tree", "ago", "known"]
theorem sc_first_lost : FnScope N_first_lost ["formulas", "told"] (defScope s_first_lost) := ⟨rfl, rfl, rfl, by decide +kernel, rfl, by decide +kernel, by decide +kernel⟩
abbrev s_rule_on_ring : Stmt := topS 19
abbrev N_rule_on_ring : List Str := ["rules", "steps", "rule", "tree", "name", "ago"]
theorem sc_rule_on_ring : FnScope N_rule_on_ring ["rules"] (defScope s_rule_on_ring) := ⟨rfl, rfl, rfl, by decide +kernel, rfl, by decide +kernel, by decide +kernel⟩
abbrev s_law_flow : Stmt := topS 21
abbrev N_law_flow : List Str := ["_law_script"]
theorem sc_law_flow : FnScope N_law_flow ["_law_script"] (defScope s_law_flow) := ⟨rfl, rfl, rfl, by decide +kernel, rfl, by decide +kernel, by decide +kernel⟩
abbrev s_law_pick : Stmt := topS 22
abbrev N_law_pick : List Str := ["_law_flow_here", "_law_many", "_law_cell", "_law_digit"]
theorem sc_law_pick : FnScope N_law_pick ["_law_flow_here", "_law_many"] (defScope s_law_pick) := ⟨rfl, rfl, rfl, by decide +kernel, rfl, by decide +kernel, by decide +kernel⟩
abbrev s_law_thing : Stmt := topS 23
abbrev N_law_thing : List Str := ["_law_flow_here"]
theorem sc_law_thing : FnScope N_law_thing ["_law_flow_here"] (defScope s_law_thing) := ⟨rfl, rfl, rfl, by decide +kernel, rfl, by decide +kernel, by decide +kernel⟩
abbrev s_law_shuffled : Stmt := topS 24
abbrev N_law_shuffled : List Str := ["_law_flow_here", "_law_some", "_law_left", "_law_k"]
theorem sc_law_shuffled : FnScope N_law_shuffled ["_law_flow_here", "_law_some"] (defScope s_law_shuffled) := ⟨rfl, rfl, rfl, by decide +kernel, rfl, by decide +kernel, by decide +kernel⟩
abbrev s_law_word : Stmt := topS 25
abbrev N_law_word : List Str := ["_law_flow_here", "_law_most", "_law_letters", "_law_k"]
theorem sc_law_word : FnScope N_law_word ["_law_flow_here", "_law_most"] (defScope s_law_word) := ⟨rfl, rfl, rfl, by decide +kernel, rfl, by decide +kernel, by decide +kernel⟩
abbrev s_law_taken : Stmt := topS 26
abbrev N_law_taken : List Str := []
theorem sc_law_taken : FnScope N_law_taken [] (defScope s_law_taken) := ⟨rfl, rfl, rfl, by decide +kernel, rfl, by decide +kernel, by decide +kernel⟩
abbrev s_law_names : Stmt := topS 27
abbrev N_law_names : List Str := ["_law_flow_here", "_law_many", "_law_names_here", "_law_stem", "_law_k", "_law_name", "_law_spare"]
theorem sc_law_names : FnScope N_law_names ["_law_flow_here", "_law_many"] (defScope s_law_names) := ⟨rfl, rfl, rfl, by decide +kernel, rfl, by decide +kernel, by decide +kernel⟩
abbrev s_law_leaf : Stmt := topS 28
abbrev N_law_leaf : List Str := ["_law_flow_here", "_law_now", "_law_names_here"]
theorem sc_law_leaf : FnScope N_law_leaf ["_law_flow_here", "_law_now", "_law_names_here"] (defScope s_law_leaf) := ⟨rfl, rfl, rfl, by decide +kernel, rfl, by decide +kernel, by decide +kernel⟩
abbrev s_law_tree : Stmt := topS 29
abbrev N_law_tree : List Str := ["_law_flow_here", "_law_room", "_law_now", "_law_names_here", "_law_word_here", "_law_one", "_law_parts_here"]
theorem sc_law_tree : FnScope N_law_tree ["_law_flow_here", "_law_room", "_law_now", "_law_names_here"] (defScope s_law_tree) := ⟨rfl, rfl, rfl, by decide +kernel, rfl, by decide +kernel, by decide +kernel⟩
abbrev s_law_formulas : Stmt := topS 30
abbrev N_law_formulas : List Str := ["_law_flow_here", "_law_most", "_law_names_here", "_law_ins", "_law_own", "_law_every", "_law_trees", "_law_k", "_law_name", "_law_rules", "_law_was", "_law_outs"]
theorem sc_law_formulas : FnScope N_law_formulas ["_law_flow_here", "_law_most"] (defScope s_law_formulas) := ⟨rfl, rfl, rfl, by decide +kernel, rfl, by decide +kernel, by decide +kernel⟩
abbrev s_law_put : Stmt := topS 31
abbrev N_law_put : List Str := ["_law_flow_here", "_law_some", "_law_one", "_law_way", "_law_at"]
theorem sc_law_put : FnScope N_law_put ["_law_flow_here", "_law_some", "_law_one"] (defScope s_law_put) := ⟨rfl, rfl, rfl, by decide +kernel, rfl, by decide +kernel, by decide +kernel⟩
abbrev s_law_parts : Stmt := topS 32
abbrev N_law_parts : List Str := ["_law_tree_here", "_law_part"]
theorem sc_law_parts : FnScope N_law_parts ["_law_tree_here"] (defScope s_law_parts) := ⟨rfl, rfl, rfl, by decide +kernel, rfl, by decide +kernel, by decide +kernel⟩
abbrev s_law_hangs : Stmt := topS 33
abbrev N_law_hangs : List Str := ["_law_formulas_here", "_law_own", "_law_name", "_law_tree_here", "_law_many", "_law_hung", "_law_now", "_law_other", "_law_ago", "_law_k", "_law_one", "_law_to"]
theorem sc_law_hangs : FnScope N_law_hangs ["_law_formulas_here"] (defScope s_law_hangs) := ⟨rfl, rfl, rfl, by decide +kernel, rfl, by decide +kernel, by decide +kernel⟩
abbrev s_law_uses : Stmt := topS 34
abbrev N_law_uses : List Str := ["_law_tree_here", "_law_found", "_law_part"]
theorem sc_law_uses : FnScope N_law_uses ["_law_tree_here"] (defScope s_law_uses) := ⟨rfl, rfl, rfl, by decide +kernel, rfl, by decide +kernel, by decide +kernel⟩
abbrev s_law_due : Stmt := topS 35
abbrev N_law_due : List Str := ["_law_formulas_here", "_law_ins", "_law_was", "_law_rules", "_law_outs", "_law_own", "_law_name", "_law_tree_here", "_law_kept", "_law_things", "_law_word_here", "_law_names_here", "_law_k", "_law_used", "_law_other", "_law_ago"]
theorem sc_law_due : FnScope N_law_due ["_law_formulas_here"] (defScope s_law_due) := ⟨rfl, rfl, rfl, by decide +kernel, rfl, by decide +kernel, by decide +kernel⟩
abbrev s_law_told : Stmt := topS 36
abbrev N_law_told : List Str := ["_law_formulas_here", "_law_told_here", "_law_copied", "e"]
theorem sc_law_told : FnScope N_law_told ["_law_formulas_here"] (defScope s_law_told) := ⟨rfl, rfl, rfl, by decide +kernel, rfl, by decide +kernel, by decide +kernel⟩
abbrev s_law_put_leaf : Stmt := topS 37
abbrev N_law_put_leaf : List Str := ["_law_tree_here", "_law_spot", "_law_leaf_here", "_law_told_here", "_law_part"]
theorem sc_law_put_leaf : FnScope N_law_put_leaf ["_law_tree_here", "_law_spot", "_law_leaf_here"] (defScope s_law_put_leaf) := ⟨rfl, rfl, rfl, by decide +kernel, rfl, by decide +kernel, by decide +kernel⟩
abbrev s_law_changed : Stmt := topS 38
abbrev N_law_changed : List Str := ["_law_flow_here", "_law_formulas_here", "_law_ins", "_law_was", "_law_rules", "_law_outs", "_law_part", "_law_way", "_law_every", "_law_name", "_law_tree_here", "_law_k", "_law_own", "_law_ago", "_law_spot"]
theorem sc_law_changed : FnScope N_law_changed ["_law_flow_here", "_law_formulas_here"] (defScope s_law_changed) := ⟨rfl, rfl, rfl, by decide +kernel, rfl, by decide +kernel, by decide +kernel⟩
abbrev s_law_round : Stmt := topS 39
abbrev N_law_round : List Str := ["_law_flow_here", "_law_names_here", "_law_rules", "_law_name", "_law_leaf_here", "_law_other"]
theorem sc_law_round : FnScope N_law_round ["_law_flow_here"] (defScope s_law_round) := ⟨rfl, rfl, rfl, by decide +kernel, rfl, by decide +kernel, by decide +kernel⟩
abbrev s_law : Stmt := topS 40
abbrev N_law : List Str := ["_law_script", "_law_flow_here", "_law_formulas_here", "_law_wrong", "_law_k", "_law_asked", "_law_one"]
theorem sc_law : FnScope N_law ["_law_script"] (defScope s_law) := ⟨rfl, rfl, rfl, by decide +kernel, rfl, by decide +kernel, by decide +kernel⟩

/-- a def of the text stands, binds and is bound -/
def Dd (K : PySem.W.Frag) (mg : Str → Option Value) (name : Str) (st : Stmt) (ps : List Str) : Prop :=
  ∃ (f : Addr) (fd : FuncData), Fun K name name st f fd ∧ Binds K fd ps [] ∧ mg name = some (.ref f)
/-! ### an own error with fields -/
abbrev s_NoFormula_init : Stmt := inClass (topS 4) 0
abbrev N_NoFormula_init : List Str := ["self", "word", "name"]
theorem sc_NoFormula_init : FnScope N_NoFormula_init ["self", "word", "name"] (defScope s_NoFormula_init) := ⟨rfl, rfl, rfl, by decide +kernel, rfl, by decide +kernel, by decide +kernel⟩
structure NsC (K : PySem.W.Frag) (mg : Str → Option Value) (C CB fI : Addr) (fd : FuncData) : Prop where
  gC : mg "NoFormula" = some (.ref C)
  gB : mg "BeltError" = some (.ref CB)
  T : OexC K C
  nw : PySem.W.findIn K (.ref C) "word" = some none
  na : PySem.W.findIn K (.ref C) "name" = some none
  iC : PySem.W.findIn K (.ref C) "__init__" = some (some (.ref fI))
  tI : PySem.W.typeIn K (.ref fI) = some (.type "function")
  F : Fun K "__init__" "NoFormula.__init__" s_NoFormula_init fI fd
  b : Binds K fd ["self", "word", "name"] []
  te : PySem.W.exmOne K (.ref C) (.ref CB) = some true
  xf : XfC K C
  is_ : ExcC K C
  tc : PySem.W.exmOne K (.ref C) (.ref C) = some true
  kb : PySem.W.kitOne K (.ref C) (.ref CB) = some true
  ko : PySem.W.kitAny K (.ref C) [.ref (He.ga K "NoText"), .ref (He.ga K "NoRoom"), .ref (He.ga K "NoShift"), .ref (He.ga K "NoName"), .ref (He.ga K "NoRow")] = some false
structure Top (w : World) (K : PySem.W.Frag) (mg : Str → Option Value) : Prop where
  d_first_on_ring : Dd K mg "first_on_ring" s_first_on_ring ["places", "steps"]
  d_comes_back : Dd K mg "comes_back" s_comes_back ["place", "steps"]
  d_tree_parts : Dd K mg "tree_parts" s_tree_parts ["tree"]
  d_leanings : Dd K mg "leanings" s_leanings ["tree"]
  d_look_formulas : Dd K mg "look_formulas" s_look_formulas ["formulas"]
  d_refuse_formula : Dd K mg "refuse_formula" s_refuse_formula ["word", "name"]
  d_first_again : Dd K mg "first_again" s_first_again ["names"]
  d_first_lost : Dd K mg "first_lost" s_first_lost ["formulas", "told"]
  d_rule_on_ring : Dd K mg "rule_on_ring" s_rule_on_ring ["rules"]
  d_law_flow : Dd K mg "_law_flow" s_law_flow ["_law_script"]
  d_law_pick : Dd K mg "_law_pick" s_law_pick ["_law_flow_here", "_law_many"]
  d_law_thing : Dd K mg "_law_thing" s_law_thing ["_law_flow_here"]
  d_law_shuffled : Dd K mg "_law_shuffled" s_law_shuffled ["_law_flow_here", "_law_some"]
  d_law_word : Dd K mg "_law_word" s_law_word ["_law_flow_here", "_law_most"]
  d_law_taken : Dd K mg "_law_taken" s_law_taken []
  d_law_names : Dd K mg "_law_names" s_law_names ["_law_flow_here", "_law_many"]
  d_law_leaf : Dd K mg "_law_leaf" s_law_leaf ["_law_flow_here", "_law_now", "_law_names_here"]
  d_law_tree : Dd K mg "_law_tree" s_law_tree ["_law_flow_here", "_law_room", "_law_now", "_law_names_here"]
  d_law_formulas : Dd K mg "_law_formulas" s_law_formulas ["_law_flow_here", "_law_most"]
  d_law_put : Dd K mg "_law_put" s_law_put ["_law_flow_here", "_law_some", "_law_one"]
  d_law_parts : Dd K mg "_law_parts" s_law_parts ["_law_tree_here"]
  d_law_hangs : Dd K mg "_law_hangs" s_law_hangs ["_law_formulas_here"]
  d_law_uses : Dd K mg "_law_uses" s_law_uses ["_law_tree_here"]
  d_law_due : Dd K mg "_law_due" s_law_due ["_law_formulas_here"]
  d_law_told : Dd K mg "_law_told" s_law_told ["_law_formulas_here"]
  d_law_put_leaf : Dd K mg "_law_put_leaf" s_law_put_leaf ["_law_tree_here", "_law_spot", "_law_leaf_here"]
  d_law_changed : Dd K mg "_law_changed" s_law_changed ["_law_flow_here", "_law_formulas_here"]
  d_law_round : Dd K mg "_law_round" s_law_round ["_law_flow_here"]
  m_enumerate : mg "enumerate" = none
  m_int : mg "int" = none
  m_isinstance : mg "isinstance" = none
  m_len : mg "len" = none
  m_list : mg "list" = none
  m_max : mg "max" = none
  m_range : mg "range" = none
  m_repr : mg "repr" = none
  m_set : mg "set" = none
  m_tuple : mg "tuple" = none
  x_ns : ∃ fd : FuncData, NsC K mg (He.ga K "NoFormula") (He.ga K "BeltError") (He.fAd K ("NoFormula", some "__init__")) fd
  x_NoText : mg "NoText" = some (.ref (He.ga K "NoText"))
  x_NoRoom : mg "NoRoom" = some (.ref (He.ga K "NoRoom"))
  x_NoShift : mg "NoShift" = some (.ref (He.ga K "NoShift"))
  x_NoName : mg "NoName" = some (.ref (He.ga K "NoName"))
  x_NoRow : mg "NoRow" = some (.ref (He.ga K "NoRow"))

/-! ### heaps -/
def But (f : Addr) (H H' : Hp) : Prop := ∀ b o, H b = some o → b ≠ f → H' b = some o
theorem But.refl {f : Addr} {H : Hp} : But f H H := fun _ _ e _ => e
theorem But.trans {f : Addr} {H H1 H2 : Hp} (a : But f H H1) (b : But f H1 H2) : But f H H2 := fun x o e n => b x o (a x o e n) n
theorem But.upd {f : Addr} {H H1 : Hp} {o : HO} (a : But f H H1) : But f H (upd H1 f o) := fun x u e n => by rw [upd_ne n]; exact a x u e n
theorem But.new {f p : Addr} {H H1 : Hp} {o : HO} (a : But f H H1) (h : H1 p = none) : But f H (L2.upd H1 p o) := fun x u e n => by
  have e1 := a x u e n
  rw [upd_ne (ne_of_none e1 h)]
  exact e1
theorem same_new {H : Hp} {p : Addr} {o : HO} (h : H p = none) : Same H (upd H p o) := fun b u q => by rw [upd_ne (ne_of_none q h)]; exact q
theorem But.same {f : Addr} {H H1 H2 : Hp} (a : But f H H1) (b : Same H1 H2) : But f H H2 := fun x o e n => b x o (a x o e n)
theorem But.seqT {K : PySem.W.Frag} {f a : Addr} {H H1 : Hp} {xs : List V} (b : But f H H1) (h : SqT K H a xs) (n : a ≠ f) : SqT K H1 a xs := by
  rcases h with h | h
  · left
    rcases h with h | ⟨o, h⟩
    · exact .inl (b _ _ h n)
    · exact .inr ⟨o, b _ _ h n⟩
  · exact .inr h
/-- a comprehension without a test -/
theorem yes_in {σ : L2.St} {H : Hp} {A B : Hp → Prop} (h : A H) : tYes σ H (fun b H3 => if b = true then A H3 else B H3) := by
  show (if true = true then A H else B H)
  rw [if_pos rfl]
  exact h
/-! ### the draw -/
/-- the list of the law's draws at f, the script's copy at c -/
def Flow (H : Hp) (f c : Addr) : Prop := ∃ (ns : List Int) (i p q r : Int), H f = some (.lst [.ref c, .int i, .int p, .int q, .int r]) ∧ H c = some (.lst (ns.map V.int)) ∧ 0 ≤ i ∧ 0 ≤ p ∧ 0 ≤ q ∧ q < 2147483647
theorem Flow.new {H : Hp} {f c p : Addr} {o : HO} (h : Flow H f c) (n : H p = none) : Flow (upd H p o) f c := by
  obtain ⟨ns, i, a, q, r, e1, e2, e⟩ := h
  exact ⟨ns, i, a, q, r, same_new n _ _ e1, same_new n _ _ e2, e⟩
theorem Flow.ne {H : Hp} {f c p : Addr} (h : Flow H f c) (n : H p = none) : p ≠ f := by
  obtain ⟨ns, i, a, q, r, e1, _⟩ := h
  exact fun e => by rw [e, e1] at n; cases n
theorem Flow.nec {H : Hp} {f c p : Addr} (h : Flow H f c) (n : H p = none) : p ≠ c := by
  obtain ⟨ns, i, a, q, r, _, e1, _⟩ := h
  exact fun e => by rw [e, e1] at n; cases n
theorem Flow.lst {H : Hp} {f c p : Addr} {o : HO} (h : Flow H f c) (n1 : p ≠ f) (n2 : p ≠ c) : Flow (upd H p o) f c := by
  obtain ⟨ns, i, a, q, r, e1, e2, e⟩ := h
  exact ⟨ns, i, a, q, r, by rw [upd_ne n1.symm]; exact e1, by rw [upd_ne n2.symm]; exact e2, e⟩
theorem Flow.same {H H' : Hp} {f c : Addr} (h : Flow H f c) (s : Same H H') : Flow H' f c := by
  obtain ⟨ns, i, a, q, r, e1, e2, e⟩ := h
  exact ⟨ns, i, a, q, r, s _ _ e1, s _ _ e2, e⟩
theorem Flow.tup {H : Hp} {f c p : Addr} {xs : List V} (h : Flow H f c) (e : H p = some (.tup xs)) : p ≠ f := by
  obtain ⟨ns, i, a, q, r, e1, _⟩ := h
  exact ne_of e e1 (by intro z; cases z)
theorem at_ints {ns : List Int} {i : Int} (h0 : 0 ≤ i) (h1 : i < (ns.length : Int)) : ∃ v : Int, atI (ns.map V.int) i = some (.int v) := by
  have hk : i.toNat < ns.length := by omega
  have ek : i = ((i.toNat : Nat) : Int) := by omega
  have q : atI (ns.map V.int) ((i.toNat : Nat) : Int) = some (.int ns[i.toNat]) := atI_nat (by rw [List.getElem?_map, List.getElem?_eq_getElem hk]; rfl)
  rw [← ek] at q
  exact ⟨_, q⟩
/-- a block by less than it asks -/
theorem PSs.to {X : Cx} {ss : List Stmt} {t : TS} (h : PSs X ss t) (u : TS) (k : ∀ D σ H, u D σ H → t D σ H) : PSs X ss u := ⟨fun pins s σ H D I q => h.run pins s σ H D I (k D σ H q)⟩
theorem if_bl {b : Bool} {A B : Prop} (h1 : b = true → A) (h2 : b = false → B) : if b = true then A else B := by
  cases b
  · rw [if_neg Bool.false_ne_true]; exact h2 rfl
  · rw [if_pos rfl]; exact h1 rfl
/-! ### defs whose callers are showing nothing: a promise that may lean on it (repr of a list or tuple asks) -/
structure FnG (P : Program) (w : World) (K : PySem.W.Frag) (mg : Str → Option Value) (base : Heap) (CX : CXT) (lv : Nat) (fn : Addr) (dat : FuncData) (names : List Str) (sp : Sp) : Prop where
  many : ∀ xs H Q E, sp xs H Q E → xs.length = names.length
  goes : ∀ (A : Around) (outer : List Env) (st : Shared) (H : Hp) (given : Args) (us : List Value) (xs : List V) (Q : VK) (E : XK), Room lv A → A.guards = some [] →
    Env0 P w K mg base A outer st H → BindsTo st dat given (names.zip us) → Vals xs us → sp xs H Q E → codeAny (model P w) A (.call (.ref fn) given) (CR CX outer P w H st Q E) st
theorem FnG.of {P : Program} {w : World} {K : PySem.W.Frag} {mg : Str → Option Value} {base : Heap} {CX : CXT} {lv : Nat} {fn : Addr} {dat : FuncData} {names : List Str} {sp : Sp} (h : FnOk P w K mg base CX lv fn dat names sp) : FnG P w K mg base CX lv fn dat names sp :=
  ⟨h.len, fun A o st H g us xs Q E r _ e b v q => h.run A o st H g us xs Q E r e b v q⟩
section
variable {P : Program} {w : World} {K : PySem.W.Frag} {mg : Str → Option Value} {base : Heap} {CX : CXT} {lv : Nat}
theorem fnG_of {fn : Addr} {nm ql : Str} {pr : Arguments} {bd : List Stmt} {sc : Scope} {d1 d2 d3 d4 d5 d6 d7 : Value} {o1 o2 : Option Addr} {o3 : Array (Option Value)} {N names : List Str} {sp : Sp}
    (at_ : K.lookup fn = some ⟨d7, o2, .func (PySem.W.fnOf nm ql pr bd sc d1 d2 d3 d4 o1 d5 d6), o3⟩) (code : PySem.W.codeIn K d5 ql = true) (S : FnScope N names sc) (many : ∀ xs H Q E, sp xs H Q E → xs.length = names.length)
    (body : ∀ (A : Around) (outer : List Env) (st : Shared) (H : Hp) (xs : List V) (Q : VK) (E : XK), Room lv (A.deeper (envOfC ql sc st.heap.objs.size fn d5)) → (A.deeper (envOfC ql sc st.heap.objs.size fn d5)).guards = some [] → sp xs H Q E →
      ∃ t, PSs (cxOf CX P w K mg base N ql sc fn d5 A outer st H E) bd t ∧ t { nx := fun _ H' => Q .non H', rt := Q } (start N xs) H) :
    FnG P w K mg base CX (lv + 1) fn (PySem.W.fnOf nm ql pr bd sc d1 d2 d3 d4 o1 d5 d6) names sp := by
  refine ⟨many, fun A outer st H given us xs Q E rm gd e0 bnd rel asked => ?_⟩
  have inK : K.In st.heap := e0.mod.kin.keeps fun z u e => (e0.bs z u e).1
  have noL : st.heap.NoLimit := e0.mod.nolimit.keeps fun z u e => (e0.bs z u e).1
  have kinds : ∀ z ∈ names.zip us, sc.names.lookup z.1 = some .local ∨ (sc.names.lookup z.1 = some .cell ∧ ((cellsFrom (st.heap.objs.size + 1) sc.names []).lookup z.1).isSome = true) := by
    intro z hz
    rcases S.par z.1 (List.of_mem_zip (a := z.1) (b := z.2) hz).1 with k | k
    · left; exact k
    · right; exact ⟨k, PySem.W.cellsFrom_some _ _ _ (.inl k)⟩
  refine codeAny_call_function rm.depth (inK _ _ at_) rfl S.co S.gen rfl (PySem.W.codeRec_of inK code) (bnd _ _ _ _ ?_)
  refine wpAny_newFunctionEnv_cells S.kind kinds fun env eenv st1 inn => ?_
  subst eenv
  refine ⟨noL.keeps inn.toInCall.keep, codeAny_func ?_⟩
  obtain ⟨t, der, now⟩ := body A outer st H xs Q E (rm.deeper _) gd asked
  have J0 := inv_start (CX := CX) (E := E) S rm.hd e0 (many _ _ _ _ asked) rel inn
  refine wpAny_mono (der.run [] st1 (start N xs) H _ J0 now) (fun flow st' got => ?_) fun _ _ z => z
  cases flow with
  | ret u =>
    obtain ⟨v, σ', H', J, rv, fine⟩ := got
    exact ⟨v, H', J.os, J.bare, J.base, J.hok, rv, fine⟩
  | next =>
    obtain ⟨σ', H', J, fine⟩ := got
    exact ⟨V.non, H', J.os, J.bare, J.base, J.hok, rfl, fine⟩
  | brk =>
    obtain ⟨_, _, _, no⟩ := got
    exact no.elim
  | cont =>
    obtain ⟨_, _, _, no⟩ := got
    exact no.elim
theorem Fun.okG {nm ql : Str} {st : Stmt} {fn : Addr} {dat : FuncData} {N names : List Str} {sp : Sp} (F : L2.Fun K nm ql st fn dat) (S : FnScope N names (defScope st)) (many : ∀ xs H Q E, sp xs H Q E → xs.length = names.length)
    (body : ∀ (cdv : Value) (A : Around) (outer : List Env) (s : Shared) (H : Hp) (xs : List V) (Q : VK) (E : XK), Room lv (A.deeper (envOfC ql (defScope st) s.heap.objs.size fn cdv)) → (A.deeper (envOfC ql (defScope st) s.heap.objs.size fn cdv)).guards = some [] → sp xs H Q E →
      ∃ t, PSs (cxOf CX0 P w K mg base N ql (defScope st) fn cdv A outer s H E).nox (defBody st) t ∧ t { nx := fun _ H' => Q .non H', rt := Q } (start N xs) H) : FnG P w K mg base CX0 (lv + 1) fn dat names sp := by
  obtain ⟨c1, c2, c3, c4, c5, c6, cdv, c8, c9, rfl, at_, code⟩ := F.ex
  refine fnG_of at_ code S many fun A outer s H xs Q E rm gd asked => ?_
  obtain ⟨t, der, now⟩ := body cdv A outer s H xs Q E rm gd asked
  exact ⟨t, der.nox, now⟩
end
section
variable {X : Cx} {CX : CXT} {lv : Nat} {fn : Addr} {dat : FuncData} {names : List Str} {sp : Sp} {more : List V} {ds : List Value} {E : XK}
theorem goesG {pins : List (Addr × Obj)} {σ : L2.St} {H : Hp} {st : Shared} {Q : VK} {us : List Value} {xs : List V} (F : FnG X.prog X.w X.K X.mg X.base CX lv fn dat names sp) (rm : Room lv X.A) (gd : X.A.guards = some []) (bnd : Binds X.K dat names ds) (dv : Vals more ds) (out : Passes CX X E)
    (J : Inv X pins σ H st) (rel : Vals xs us) (asked : sp (xs ++ more) H Q E) : wpAny (model X.prog X.w) X.A (call (.ref fn) us) (EP X pins σ Q) X.xe st := by
  have rel2 := rel.append dv
  have len2 : (us ++ ds).length = names.length := by
    rw [← rel2.length]
    exact F.many _ _ _ _ asked
  refine wpAny_call (codeAny_mono (F.goes X.A X.stack st H ⟨us, []⟩ (us ++ ds) (xs ++ more) Q E rm gd J.env0 (bnd st us J.kIn len2) rel2 asked) fun res st' got => ?_)
  cases res with
  | error e => exact out pins σ H st e st' J got
  | ok flow =>
    cases flow with
    | ret u => exact J.after got
    | next => exact got.elim
    | brk => exact got.elim
    | cont => exact got.elim
theorem pe_callG {x : Str} {p pos : Pos} {e : Expr} {es : List Expr} {t : TA} (F : FnG X.prog X.w X.K X.mg X.base CX lv fn dat names sp) (rm : Room lv X.A) (gd : X.A.guards = some []) (glob : Gl X x) (here : X.mg x = some (.ref fn)) (kept : PySem.W.keepIn X.K (.ref fn) = true)
    (bnd : Binds X.K dat names ds) (dv : Vals more ds) (out : Passes CX X E) (args : PA X (e :: es) t) (n1 : (x == ("__debug__" : Str)) = false := by decide)
    (n2 : starEach (e :: es) X.env = (false, eval e X.env) :: starEach es X.env := by rfl) (n3 : (backTo pos (starEach es X.env)).any (·.1) = false := by rfl) : PE X (.Call (.Name x p) (e :: es) [] pos) (tCall sp more E t) := by
  refine ⟨fun pins st σ H Q J asked => ?_⟩
  refine wpAny_Call_Name_kw (ld_glob J glob here ?_ n1)
  exact PySem.W.callWith_K (h₀ := X.base) J.ok.mod.kin kept (thn (args.run pos pins st σ H _ J asked) fun us st1 ⟨xs, H1, J1, rel, now⟩ => ⟨J1.kIn, goesG F rm gd bnd dv out J1 rel now⟩) n2 n3
theorem pe_call0G {x : Str} {p pos : Pos} (F : FnG X.prog X.w X.K X.mg X.base CX lv fn dat names sp) (rm : Room lv X.A) (gd : X.A.guards = some []) (glob : Gl X x) (here : X.mg x = some (.ref fn)) (kept : PySem.W.keepIn X.K (.ref fn) = true)
    (bnd : Binds X.K dat names ds) (dv : Vals more ds) (out : Passes CX X E) (n1 : (x == ("__debug__" : Str)) = false := by decide) : PE X (.Call (.Name x p) [] [] pos) (tCall sp more E tNil) := by
  refine ⟨fun pins st σ H Q J asked => ?_⟩
  refine wpAny_Call_Name_kw (ld_glob J glob here ?_ n1)
  exact PySem.W.callWith_K0 J.kIn kept (goesG (us := []) F rm gd bnd dv out J .nil asked)
/-- repr of data -/
def rReprD (K : PySem.W.Frag) : List V → Hp → VK → Prop := fun xs H Q => ∃ (a : Addr) (d : PyData), xs = [.ref a] ∧ Dp K H (.ref a) d ∧ d.showable = true ∧ d.hasDict = false ∧ d.depth ≤ 60 ∧ d.shown.length ≤ sizeLine ∧ Q (.str d.shown) H
theorem call_reprD (gd : X.A.guards = some []) (un : X.A.units + 64 < cLine) : CallR X (.builtin "repr") (rReprD X.K) := by
  intro pins st σ H xs us Q J rel asked
  obtain ⟨a, d, rfl, hd, h1, h2, h3, h4, now⟩ := asked
  obtain ⟨u, rfl, ru⟩ := vals1 rel
  obtain rfl : u = Value.ref a := ru
  obtain ⟨as, rd⟩ := Dp.reads J d _ _ hd rfl
  exact repr_of_reads' rd h1 (PyData.noDict_hsm h2) gd (by omega) (fun _ _ e => e) (fun h' u tk kp => ⟨.str d.shown, H, J.kept (t' := tk) kp, ⟨_, rfl⟩, now⟩) h4
end
/-! ### the law's own call, its code objects' tables told, by a promise that leans on nothing being shown -/
theorem endGT {P : Program} {w : World} {K : PySem.W.Frag} {mg mb : Str → Option Value} {CX : CXT} {lv : Nat} {fn a : Addr} {dat : FuncData} {x : Str} {sp : Sp} {st : Shared} {us : List Value} {ns : List Int} {cs : List (Addr × Addr)}
    (inK : K.In st.heap) (gl : st.heap.Ns mainGlobals mg) (bl : st.heap.Ns builtinsNs mb) (boot : ∀ z : Str, z ≠ "__name__" → mb z = bootBuiltins z) (noL : st.heap.NoLimit) (gens : st.gens = #[])
    (bm : ∃ (m : Addr) (o : Obj), mg "__builtins__" = some (.ref m) ∧ m ≠ builtinsNs ∧ st.heap.get? m = some o ∧ o.cls = .type "module" ∧ o.dict = some builtinsNs ∧ o.data = .plain)
    (tabs : ∀ p ∈ cs, st.heap.get? p.2 = some { cls := .none, data := .fields #[] }) (free : ∀ p ∈ cs, K.lookup p.2 = none) (codes : ∀ p ∈ cs, PySem.W.CodeHd st.heap p.1 p.2)
    (obj : st.heap.get? a = some { cls := .type "list", data := .seq us.toArray }) (iv : IntsAre us ns) (short : ns.length ≤ sizeLine) (rm : Room lv callerA)
    (F : ∀ bs : Heap, K.In bs → bs.Ns mainGlobals mg → (∀ p ∈ cs, LamX.TabB bs mg p.1 p.2) → FnG P w K mg bs CX lv fn dat [x] sp) (bnd : ∀ (z : Shared) (u : Value), BindsTo z dat ⟨[u], []⟩ [(x, u)])
    (asked : ∀ H : Hp, (∀ p ∈ cs, H p.2 = some (.tbl #[])) → SqL K H a (ns.map V.int) → sp [.ref a] H (fun v _ => v = .bl true) fun _ _ _ => False)
    (never : ∀ H e st', CX [] H st (fun _ _ _ => False) e st' → False) :
    codeAny (model P w) callerA (.call (.ref fn) ⟨[.ref a], []⟩) (fun res st' => res = .ok (.ret (.bool true)) ∧ OldK st.heap st'.heap ∧ st'.os = st.os ∧ AllBare st'.gens) st := by
  classical
  have rel := vals_ints iv
  have many := iv.length
  let tb : Addr → Prop := fun b => ∃ p ∈ cs, p.2 = b
  have tObj : ∀ {b : Addr}, tb b → st.heap.get? b = some { cls := .none, data := .fields #[] } := fun {b} ⟨p, hp, e⟩ => e ▸ tabs p hp
  have aT : ¬ tb a := fun h => by
    have z : Data.fields #[] = Data.seq us.toArray _ := congrArg Obj.data (Option.some.inj ((tObj h).symm.trans obj))
    cases z
  have main : ∀ H : Hp, (∀ b, tb b → H b = some (.tbl #[])) → (∀ b, H b = none ∨ tb b ∨ (b = a ∧ K.lookup a = none ∧ ∃ o xs, H b = some (.frz o (.lst xs)))) → SqL K H a (ns.map V.int) → HOk P w H st.heap →
      codeAny (model P w) callerA (.call (.ref fn) ⟨[.ref a], []⟩) (fun res st' => res = .ok (.ret (.bool true)) ∧ OldK st.heap st'.heap ∧ st'.os = st.os ∧ AllBare st'.gens) st := by
    intro H ht trk sq ok
    have kClear : ∀ {b : Addr} {o : Obj}, K.lookup b = some o → H b = none := fun {b o} e => by
      rcases trk b with h | ⟨p, hp, rfl⟩ | ⟨rfl, h, _⟩
      · exact h
      · rw [free p hp] at e; cases e
      · rw [h] at e; cases e
    have dClear : ∀ {b : Addr} {o : Obj}, st.heap.get? b = some o → o.data ≠ .fields #[] → (∀ vs n, o.data ≠ .seq vs n) → H b = none := fun {b o} e n1 n2 => by
      rcases trk b with h | h | ⟨rfl, _⟩
      · exact h
      · rw [tObj h] at e; cases e; exact (n1 rfl).elim
      · rw [obj] at e; cases e; exact (n2 _ _ rfl).elim
    have names : ∀ {b : Addr} {m : Str → Option Value}, st.heap.Ns b m → (hidT st.heap H).Ns b m := by
      rintro b m ⟨u, es, ep, e, d, r⟩
      exact ⟨u, es, ep, hidT_get e (dClear e (by rw [d]; exact fun z => nomatch z) (by rw [d]; exact fun _ _ z => nomatch z)), d, r⟩
    have inB : K.In (hidT st.heap H) := fun b u e => hidT_get (inK b u e) (kClear e)
    have TB : ∀ p ∈ cs, LamX.TabB (hidT st.heap H) mg p.1 p.2 := fun p hp => by
      obtain ⟨o, vs, file, tf, flags, tg, inF, text, tt, e1, r1, r2, r3, rest⟩ := codes p hp
      obtain ⟨m, ob, b1, b2, b3, b4, b5, b6⟩ := bm
      obtain ⟨og, es, ep, eg, dg, _⟩ := gl
      have nG : m ≠ mainGlobals := fun z => by
        rw [z, eg] at b3; cases b3; rw [dg] at b6; cases b6
      have nP : m ≠ p.2 := fun z => by
        rw [z, tabs p hp] at b3; cases b3; cases b6
      refine ⟨⟨o, vs, file, tf, flags, tg, inF, text, tt, hidT_get e1 (dClear e1 (fun z => ?_) (by rw [r2]; exact fun _ _ z => nomatch z)), r1, r2, r3, rest⟩, ⟨m, ob, b1, b2, nG, nP, hidT_get b3 (dClear b3 (by rw [b6]; exact fun z => nomatch z) (by rw [b6]; exact fun _ _ z => nomatch z)), b4, b5, b6⟩, fun z => ?_⟩
      · rw [r2] at z; cases z; simp at r3
      · rw [z, tabs p hp] at eg; cases eg; cases dg
    obtain ⟨mc, l1, l2⟩ := noL
    have env : Env0 P w K mg (hidT st.heap H) callerA [] st H :=
      ⟨rfl, ⟨inB, names gl, ⟨mb, names bl, boot⟩, ⟨mc, names l1, l2⟩⟩, fun b u e => of_hidT e, Nat.le_of_eq (hidT_size _ _), trivial, (fun b z => nomatch z), ok, .of_eq gens⟩
    refine codeAny_mono ((F _ inB (names gl) TB).goes callerA [] st H ⟨[.ref a], []⟩ [.ref a] [.ref a] _ _ rm rfl env (bnd st (.ref a)) (.cons rfl .nil) (asked H (fun p hp => ht _ ⟨p, hp, rfl⟩) sq)) fun res st' got => ?_
    cases res with
    | error e => exact (never H e st' got).elim
    | ok flow =>
      cases flow with
      | next => exact got.elim
      | brk => exact got.elim
      | cont => exact got.elim
      | ret u =>
        obtain ⟨v, H', os, bare, un, ok', rv, now⟩ := got
        obtain rfl : v = V.bl true := now
        obtain rfl : u = Value.bool true := rv
        have stay : ∀ b o, ¬ tb b → st.heap.get? b = some o → st'.heap.get? b = some o := fun b o nb e => by
          rcases trk b with h | h | ⟨_, _, ob, xs, h⟩
          · exact un.keep b o e h (fun z => by cases z) (by simp)
          · exact absurd h nb
          · obtain ⟨f1, _⟩ := ok b _ h
            obtain ⟨f2, _⟩ := ok' b _ (un.frzs b ob _ h)
            rw [e] at f1
            cases f1
            exact f2
        have grown : ∀ p ∈ cs, ∃ more : Array Value, st'.heap.get? p.2 = some { cls := .none, data := .fields more } := fun p hp => by
          obtain ⟨more, z⟩ := un.tbls p.2 #[] (ht _ ⟨p, hp, rfl⟩)
          exact ⟨_, ok' p.2 _ z⟩
        refine ⟨rfl, ⟨fun b o e => ?_, fun b o e => ?_⟩, os, bare⟩
        · by_cases h : tb b
          · obtain ⟨p, hp, rfl⟩ := h
            obtain ⟨more, g⟩ := grown p hp
            rw [tabs p hp] at e
            cases e
            exact .inr (.inl ⟨((codes p hp).tab (tabs p hp)).isCodeTable, rfl, #[], more, rfl, by rw [Array.empty_append]; exact g⟩)
          · exact .inl (stay b o h e)
        · by_cases h : tb b
          · obtain ⟨p, hp, rfl⟩ := h
            obtain ⟨more, g⟩ := grown p hp
            exact ⟨_, g⟩
          · exact ⟨o, stay b o h e⟩
  cases hk : K.lookup a with
  | some u =>
    have e := inK a u hk
    rw [obj] at e
    cases e
    refine main (fun b => if tb b then some (.tbl #[]) else none) (fun b h => if_pos h) (fun b => ?_) (.inr ⟨_, us.toArray, _, hk, rfl, rfl, rfl, by rw [List.size_toArray, many]; exact short, by simpa using rel⟩) fun b z k => ?_
    · by_cases h : tb b
      · exact .inr (.inl h)
      · exact .inl (if_neg h)
    · by_cases h : tb b
      · have k2 := (if_pos h).symm.trans k
        cases k2
        exact tObj h
      · have k2 := (if_neg h).symm.trans k
        cases k2
  | none =>
    refine main (fun b => if b = a then some (.frz { cls := .type "list", data := .seq us.toArray } (.lst (ns.map V.int))) else if tb b then some (.tbl #[]) else none) (fun b h => (if_neg (fun (z : b = a) => aT (by rw [← z]; exact h))).trans (if_pos h)) (fun b => ?_) (.inl (.inr ⟨_, if_pos rfl⟩)) fun b z k => ?_
    · by_cases j : b = a
      · exact .inr (.inr ⟨j, hk, _, _, if_pos j⟩)
      · by_cases h : tb b
        · exact .inr (.inl h)
        · exact .inl ((if_neg j).trans (if_neg h))
    · by_cases j : b = a
      · have k2 := (if_pos j).symm.trans k
        cases k2
        subst j
        exact ⟨obj, by rw [List.length_map]; exact short, us, _, rel, obj⟩
      · have k1 := (if_neg j).symm.trans k
        by_cases h : tb b
        · have k2 := (if_pos h).symm.trans k1
          cases k2
          exact tObj h
        · have k2 := (if_neg h).symm.trans k1
          cases k2
/-- what is known of such a law's promise at the head's heap -/
def LawAtG (l : PySem.W.OpenLaw) (w : World) (K : PySem.W.Frag) (CX : CXT) (lv n : Nat) (x : Str) (mg : Str → Option Value) (fn : Addr) (h : Heap) : Prop :=
  ∃ (dat : FuncData) (cs : List (Addr × Addr)) (sp : Sp), (∀ p ∈ cs, h.get? p.2 = some { cls := .none, data := .fields #[] }) ∧ (∀ p ∈ cs, K.lookup p.2 = none) ∧ (∀ p ∈ cs, PySem.W.CodeHd h p.1 p.2) ∧ (∀ (z : Shared) (u : Value), BindsTo z dat ⟨[u], []⟩ [(x, u)]) ∧
    (∀ (H : Hp) (a : Addr) (ns : List Int), ns.length ≤ n → (∀ z ∈ ns, Builtin.Int.intBits z ≤ 1048576) → (∀ p ∈ cs, H p.2 = some (.tbl #[])) → SqL K H a (ns.map V.int) → sp [.ref a] H (fun v _ => v = .bl true) fun _ _ _ => False) ∧
    ∀ bs : Heap, K.In bs → bs.Ns mainGlobals mg → (∀ p ∈ cs, LamX.TabB bs mg p.1 p.2) → FnG l.prog w K mg bs CX lv fn dat [x] sp
theorem walkGT {l : PySem.W.OpenLaw} {n k : Nat} {q : Program} {loose : List Str} {XP : (Str → Option Value) → Heap → Prop} {YP : World → Heap → Prop} {d : DefRec} {CX : World → CXT} {x : Str}
    (h1 : l.most = some n) (h2 : n ≤ sizeLine) (h3 : d.params.defaults = []) (rm : Room k callerA)
    (F : ∀ (w : World) (mg : Str → Option Value) (fn : Addr) (h : Heap), YP w h → h.Ns mainGlobals mg → mg d.name = some (.ref fn) → ∃ K : PySem.W.Frag, K.In h ∧ LawAtG l w K (CX w) k n x mg fn h)
    (h6 : ∀ (w : World) (H : Hp) (s : Shared) (e : Value) (s' : Shared), CX w [] H s (fun _ _ _ => False) e s' → False) :
    PySem.W.WalkO q loose XP YP l.row.toRowW d [] (fun f vs => PySem.call f vs) := by
  refine Att.attach_callB h1 h3 fun w s₀ s₁ mg mb fn o pm cd doc a us ns G Y ho hd hcd hmg hobj hints hlen hbits hg => ?_
  obtain ⟨K, inK, dat, cs, sp, t1, t2, t3, bnd, ask, got⟩ := F w mg fn _ Y G.T.g hmg
  exact endGT inK G.T.g G.T.b G.T.builtins G.T.nolimit hg G.T.bmain t1 t2 t3 hobj hints (Nat.le_trans hlen h2) rm got bnd (fun H t o => ask H a ns hlen hbits t o) fun H e s' => h6 w H s₁ e s'
/-! ### lists, two by two -/
inductive All2 {α β : Type} (R : α → β → Prop) : List α → List β → Prop
  | nil : All2 R [] []
  | cons {a b as bs} : R a b → All2 R as bs → All2 R (a :: as) (b :: bs)
theorem All2.imp {α β : Type} {R S : α → β → Prop} (h : ∀ a b, R a b → S a b) : ∀ {as bs}, All2 R as bs → All2 S as bs
  | _, _, .nil => .nil
  | _, _, .cons a b => .cons (h _ _ a) (All2.imp h b)
theorem All2.length {α β : Type} {R : α → β → Prop} : ∀ {as bs}, All2 R as bs → as.length = bs.length
  | _, _, .nil => rfl
  | _, _, .cons _ b => congrArg (· + 1) (All2.length b)
theorem All2.snoc {α β : Type} {R : α → β → Prop} {a b} (r : R a b) : ∀ {as bs}, All2 R as bs → All2 R (as ++ [a]) (bs ++ [b])
  | _, _, .nil => .cons r .nil
  | _, _, .cons h t => .cons h (All2.snoc r t)
theorem All2.get {α β : Type} {R : α → β → Prop} {as : List α} {bs : List β} (h : All2 R as bs) : ∀ {i : Nat} {b : β}, bs[i]? = some b → ∃ a, as[i]? = some a ∧ R a b := by
  induction h with
  | nil => intro i b e; cases e
  | cons r t ih =>
    intro i b e
    cases i with
    | zero => cases e; exact ⟨_, rfl, r⟩
    | succ i => exact ih e
theorem All2.getL {α β : Type} {R : α → β → Prop} {as : List α} {bs : List β} (h : All2 R as bs) : ∀ {i : Nat} {a : α}, as[i]? = some a → ∃ b, bs[i]? = some b ∧ R a b := by
  induction h with
  | nil => intro i b e; cases e
  | cons r t ih =>
    intro i b e
    cases i with
    | zero => cases e; exact ⟨_, rfl, r⟩
    | succ i => exact ih e
/-! ### tuples stay -/
def TK (H H' : Hp) : Prop := ∀ b xs, H b = some (.tup xs) → H' b = some (.tup xs)
theorem TK.refl {H : Hp} : TK H H := fun _ _ e => e
theorem TK.trans {H H1 H2 : Hp} (a : TK H H1) (b : TK H1 H2) : TK H H2 := fun x xs e => b x xs (a x xs e)
theorem TK.same {H H' : Hp} (s : Same H H') : TK H H' := fun x xs e => s _ _ e
theorem TK.new {H : Hp} {p : Addr} {o : HO} (n : H p = none) : TK H (upd H p o) := fun x xs e => same_new n _ _ e
theorem TK.lst {H : Hp} {p : Addr} {xs ys : List V} (h : H p = some (.lst xs)) : TK H (upd H p (.lst ys)) := fun x zs e => by
  rw [upd_ne (ne_of e h (by intro z; cases z))]
  exact e
theorem TK.but {H H' : Hp} {f c : Addr} (F : Flow H f c) (b : But f H H') : TK H H' := fun x xs e => b _ _ e (F.tup e)
theorem same_none {H H' : Hp} {p : Addr} (s : Same H H') (n : H' p = none) : H p = none := by
  cases e : H p with
  | none => rfl
  | some o => rw [s _ _ e] at n; cases n
theorem But.none {f p : Addr} {H H' : Hp} (b : But f H H') (n : H' p = Option.none) (h : p ≠ f) : H p = Option.none := by
  cases e : H p with
  | none => rfl
  | some o => rw [b _ _ e h] at n; cases n
theorem But.of {f : Addr} {H H' : Hp} (s : Same H H') : But f H H' := fun _ _ e _ => s _ _ e
/-- a list that was not there is written: what was stays -/
theorem But.own {f p : Addr} {H H1 : Hp} {o : HO} (a : But f H H1) (h : H p = Option.none) : But f H (L2.upd H1 p o) := fun x u e n => by
  rw [upd_ne (ne_of_none e h)]
  exact a x u e n
theorem Same.own {p : Addr} {H H1 : Hp} {o : HO} (a : Same H H1) (h : H p = Option.none) : Same H (L2.upd H1 p o) := fun x u e => by
  rw [upd_ne (ne_of_none e h)]
  exact a x u e
/-! ### loops over any iterator -/
theorem for_it {J : It} {n : Nat} {g : TG} {tb : TS} {D : Ends} {σ : L2.St} {H : Hp} (Pv : Nat → L2.St → Hp → Prop) (h0 : Pv 0 σ H) (go : ∀ i σ H, i < n → Pv i σ H → J.go i H) (st : ∀ σ H, Pv n σ H → J.stop n H)
    (hs : ∀ i x σ H H', i < n → Pv i σ H → J.yld i H x H' → g x σ H' fun σ2 H2 => tb { D with nx := Pv (i + 1), ct := Pv (i + 1), bk := D.nx } σ2 H2) (hd : ∀ σ H, Pv n σ H → D.nx σ H) :
    ∃ W : Nat → Nat → L2.St → Hp → Prop, (∃ m, W 0 m σ H) ∧ ∀ i m σ H, W i m σ H →
      (J.stop i H ∧ D.nx σ H) ∨ (J.go i H ∧ ∃ N : L2.St → Hp → Prop, (∀ σ' H', N σ' H' → ∃ m', m' < m ∧ W (i + 1) m' σ' H') ∧ ∀ x H', J.yld i H x H' → g x σ H' fun σ2 H2 => tb { D with nx := N, ct := N, bk := D.nx } σ2 H2) := by
  refine ⟨fun i m σ H => i + m = n ∧ Pv i σ H, ⟨n, by omega, h0⟩, fun i m σ H ⟨e, p⟩ => ?_⟩
  by_cases k : i < n
  · exact .inr ⟨go i σ H k p, Pv (i + 1), fun σ' H' p' => ⟨m - 1, by omega, by omega, p'⟩, fun x H' y => hs i x σ H H' k p y⟩
  · have z : i = n := by omega
    subst z
    exact .inl ⟨st σ H p, hd σ H p⟩
theorem lc_it {J : It} {n : Nat} {g : TG} {tt : TT} {te : TE} {vs : List Nat} {σ : L2.St} {H1 : Hp} {D : Addr} {Qd : Hp → Prop} (Pv : Nat → Hp → Prop) (h0 : Pv 0 (upd H1 D (.lst []))) (go : ∀ i H, i < n → Pv i H → J.go i H) (st : ∀ H, Pv n H → J.stop n H)
    (hs : ∀ i x H H', i < n → Pv i H → J.yld i H x H' → g x (wipe σ vs) H' fun σ2 H2 => wipe σ2 vs = wipe σ vs ∧ tt σ2 H2 fun b H3 =>
      if b = true then te σ2 H3 fun y H4 => ∃ acc, H4 D = some (.lst acc) ∧ acc.length < sizeLine ∧ Pv (i + 1) (upd H4 D (.lst (acc ++ [y]))) else Pv (i + 1) H3) (hd : ∀ H, Pv n H → Qd H) :
    ∃ W : Nat → Nat → Hp → Prop, (∃ m, W 0 m (upd H1 D (.lst []))) ∧ ∀ i m H, W i m H →
      (J.stop i H ∧ Qd H) ∨ (J.go i H ∧ ∃ Nx : Hp → Prop, (∀ H', Nx H' → ∃ m', m' < m ∧ W (i + 1) m' H') ∧ ∀ x H', J.yld i H x H' → g x (wipe σ vs) H' fun σ2 H2 => wipe σ2 vs = wipe σ vs ∧ tt σ2 H2 fun b H3 =>
        if b = true then te σ2 H3 fun y H4 => ∃ acc, H4 D = some (.lst acc) ∧ acc.length < sizeLine ∧ Nx (upd H4 D (.lst (acc ++ [y]))) else Nx H3) := by
  refine ⟨fun i m H => i + m = n ∧ Pv i H, ⟨n, by omega, h0⟩, fun i m H ⟨e, p⟩ => ?_⟩
  by_cases k : i < n
  · exact .inr ⟨go i H k p, Pv (i + 1), fun H' p' => ⟨m - 1, by omega, by omega, p'⟩, fun x H' y => hs i x H H' k p y⟩
  · have z : i = n := by omega
    subst z
    exact .inl ⟨st H p, hd H p⟩
/-! ### tests -/
theorem if_str {x z : Str} {A B : Prop} (h1 : x = z → A) (h2 : x ≠ z → B) : if decide (V.str x = V.str z) = true then A else B :=
  if_bl (fun e => h1 (V.str.inj (of_decide_eq_true e))) (fun e => h2 (fun q => of_decide_eq_false e (congrArg V.str q)))
theorem inV_strs {x : Str} {zs : List Str} : inV (.str x) (zs.map V.str) = true ↔ x ∈ zs := by
  unfold inV
  induction zs with
  | nil => simp
  | cons z zs ih =>
    rw [List.map_cons, List.any_cons, Bool.or_eq_true, ih, List.mem_cons]
    constructor
    · rintro (h | h)
      · exact .inl (by simpa [eqV] using (show (z == x) = true from h) |> fun k => (eq_of_beq k).symm)
      · exact .inr h
    · rintro (h | h)
      · exact .inl (show (z == x) = true by rw [h]; exact beq_self_eq_true z)
      · exact .inr h
theorem if_in {x : Str} {zs : List Str} {A B : Prop} (h1 : x ∈ zs → A) (h2 : x ∉ zs → B) : if (if false = true then !inV (.str x) (zs.map V.str) else inV (.str x) (zs.map V.str)) = true then A else B := by
  have e : (if false = true then !inV (.str x) (zs.map V.str) else inV (.str x) (zs.map V.str)) = inV (.str x) (zs.map V.str) := if_neg Bool.false_ne_true
  rw [e]
  exact if_bl (fun c => h1 (inV_strs.mp c)) (fun c => h2 (fun k => by rw [inV_strs.mpr k] at c; cases c))
theorem same_seqT {K : PySem.W.Frag} {a : Addr} {H H1 : Hp} {xs : List V} (b : Same H H1) (h : SqT K H a xs) : SqT K H1 a xs := by
  rcases h with h | h
  · left
    rcases h with h | ⟨o, h⟩
    · exact .inl (b _ _ h)
    · exact .inr ⟨o, b _ _ h⟩
  · exact .inr h
theorem little {n : Nat} (h : n ≤ 1000) : n ≤ sizeLine := Nat.le_of_lt (small1000 h)
/-! ### xs[i] op= e -/
def rGetL (K : PySem.W.Frag) : V → V → Hp → VK → Prop := fun o i H Q => ∃ (p : Addr) (xs : List V) (j : Nat) (v : V), o = .ref p ∧ i = .int (j : Nat) ∧ SqL K H p xs ∧ xs[j]? = some v ∧ Q v H
theorem get_list {X : Cx} : PGet X (rGetL X.K) := by
  intro pins st σ H o i ov iv Q J ro ri asked
  obtain ⟨p, xs, j, v, rfl, rfl, hq, hj, now⟩ := asked
  cases ro
  obtain ⟨t, rfl⟩ := ri
  obtain ⟨its, r, pl, hz⟩ := J.list hq
  obtain ⟨u, eu, ru⟩ := r.get hj
  have n1 := (List.getElem?_eq_some_iff.mp hj).1
  have n2 := line63
  exact wpAny_getItem_list pl.isList (by omega) (by omega) (by simpa using eu) ⟨v, H, J, ru, now⟩
/-! ### the same rules, the written part named (so that they fit within comprehensions) -/
section
variable {X : Cx}
theorem ix_listK (K : PySem.W.Frag) (h : X.K = K) : IxR X (rIxL K) := by subst h; exact ix_list
theorem ix_tupK (K : PySem.W.Frag) (h : X.K = K) : IxR X (rIxT K) := by subst h; exact ix_tup
def rLenK (K : PySem.W.Frag) : List V → Hp → VK → Prop := fun xs H Q => ∃ (p : Addr) (ys : List V), xs = [.ref p] ∧ (SqL K H p ys ∨ SqT K H p ys) ∧ Q (.int (ys.length : Nat)) H
theorem call_len_seqK (K : PySem.W.Frag) (h : X.K = K) : CallR X (.builtin "len") (rLenK K) := by subst h; exact call_len_seq
def rListOfK (K : PySem.W.Frag) : List V → Hp → VK → Prop := fun xs H Q => ∃ (p : Addr) (ys : List V), xs = [.ref p] ∧ (SqL K H p ys ∨ SqT K H p ys) ∧ ∀ l, H l = none → Q (.ref l) (upd H l (.lst ys))
theorem call_list_ofK (K : PySem.W.Frag) (h : X.K = K) : CallR X (.type "list") (rListOfK K) := by subst h; exact call_list_of
def rTupOfK (K : PySem.W.Frag) : List V → Hp → VK → Prop := fun xs H Q => ∃ (p : Addr) (ys : List V), xs = [.ref p] ∧ ((SqL K H p ys ∧ ∀ l, H l = none → Q (.ref l) (upd H l (.tup ys))) ∨ (SqT K H p ys ∧ Q (.ref p) H))
theorem call_tuple_ofK (K : PySem.W.Frag) (h : X.K = K) : CallR X (.type "tuple") (rTupOfK K) := by subst h; exact call_tuple_of
theorem op_in_seqK (K : PySem.W.Frag) (h : X.K = K) : OpR X (compareOp .In) (rIn K false) := by subst h; exact op_in_seq
theorem op_notIn_seqK (K : PySem.W.Frag) (h : X.K = K) : OpR X (compareOp .NotIn) (rIn K true) := by subst h; exact op_notIn_seq
theorem sl_listK (K : PySem.W.Frag) (h : X.K = K) : SlR X (rSlL K) := by subst h; exact sl_list
theorem sl_tupAK (K : PySem.W.Frag) (h : X.K = K) : SlR X (rSlA K) := by subst h; exact sl_tupA
theorem op_eqDK (K : PySem.W.Frag) (h : X.K = K) (hu : X.A.units + 64 < cLine) : OpR X (compareOp .Eq) (rEqD K) := by subst h; exact op_eqD hu
theorem op_neDK (K : PySem.W.Frag) (h : X.K = K) (hu : X.A.units + 64 < cLine) : OpR X (compareOp .NotEq) (rNeD K) := by subst h; exact op_neD hu
theorem call_isiKK (K : PySem.W.Frag) (h : X.K = K) : CallR X (.builtin "isinstance") (rIsi K) := by subst h; exact call_isi
theorem cr_allK (K : PySem.W.Frag) (h : X.K = K) (hc : X.calm = true) : CallR X (.builtin "all") (rAll K) := by subst h; exact cr_all hc
theorem cr_anyK (K : PySem.W.Frag) (h : X.K = K) (hc : X.calm = true) : CallR X (.builtin "any") (rAny K) := by subst h; exact cr_any hc
theorem cr_minKK (K : PySem.W.Frag) (h : X.K = K) (hc : X.calm = true) : CallR X (.builtin "min") (rMin K) := by subst h; exact cr_min hc
theorem cr_maxKK (K : PySem.W.Frag) (h : X.K = K) (hc : X.calm = true) : CallR X (.builtin "max") (rMax K) := by subst h; exact cr_max hc
def tTruK (K : PySem.W.Frag) (ta : TE) : TT := fun σ H Q => ta σ H fun x H' => ∃ k, TruV K x H' k ∧ Q k H'
theorem pt_truthK (K : PySem.W.Frag) (h : X.K = K) {a : Expr} {ta : TE} (ha : PE X a ta) (he : ∀ whole, isTrue a X.env whole = (do let v ← whole; standAt a.pos; holding [v] (truthy v))) : PT X a (tTruK K ta) := by subst h; exact pt_truth ha he
theorem get_listK (K : PySem.W.Frag) (h : X.K = K) : PGet X (rGetL K) := by subst h; exact get_list
theorem pg_tupK (K : PySem.W.Frag) (h : X.K = K) {es : List Expr} {k n : Nat} {t : TGs} {pos : Pos} (hc : X.calm = true) (g : PGs X es t)
    (hn : (assignEach es X.env).length = n := by rfl) (hst : (assignEach es X.env).findIdx? (·.1) = none := by rfl) : PG X (.Tuple es k pos) (gTup K n t) := by subst h; exact pg_tup hc g hn hst
theorem pg_unlK (K : PySem.W.Frag) (h : X.K = K) {es : List Expr} {k n : Nat} {t : TGs} {pos : Pos} (hc : X.calm = true) (g : PGs X es t)
    (hn : (assignEach es X.env).length = n := by rfl) (hst : (assignEach es X.env).findIdx? (·.1) = none := by rfl) : PG X (.Tuple es k pos) (gUnl K n t) := by subst h; exact pg_unl hc g hn hst
theorem pi_listK (K : PySem.W.Frag) (h : X.K = K) {tg e : Expr} {te : TE} (he : PE X e te) : PI X tg e (iList K te) := by subst h; exact pi_list he
theorem pi_tupK (K : PySem.W.Frag) (h : X.K = K) {tg e : Expr} {te : TE} (he : PE X e te) : PI X tg e (iTup K te) := by subst h; exact pi_tup he
theorem pe_revLK (K : PySem.W.Frag) (h : X.K = K) {e : Expr} {te : TE} {k : Nat} {p1 p2 p3 pos : Pos} (he : PE X e te) : PE X (.Subscript e (.Slice none none (some (.UnaryOp .USub (.Constant (.int 1) k p1) p2)) p3) pos) (tRevL K te) := by subst h; exact pe_revL he
theorem pe_bmK (K : PySem.W.Frag) (h : X.K = K) {o e : Expr} {es : List Expr} {to : TE} {t : TA} {name : Str} {apos cpos : Pos} {T id : String} {r : V → List V → Hp → VK → Prop}
    (pa : PlainAttrs T) (slot : Slot T name id) (hty : typeOf (.builtin id) = pure (.type "method_descriptor")) (hm : MtR X id r) (ho : PE X o to) (ha : PA X (e :: es) t)
    (n1 : attributeBase o name X.env (eval o X.env) = eval o X.env := by rfl)
    (n2 : ((backTo cpos (starEach (e :: es) X.env)).all (fun x => !x.1) && (backToKw cpos (keywordEach [] X.env)).all (fun x => x.1.isSome) && decide ((e :: es).length + ([] : List Keyword).length + (if ([] : List Keyword).isEmpty then 0 else 1) < 30)) = true := by rfl)
    (n3 : (apos.endLine == cpos.line) = true := by rfl) (n4 : starEach (e :: es) X.env = (false, eval e X.env) :: starEach es X.env := by rfl) (n5 : (backTo cpos (starEach es X.env)).any (·.1) = false := by rfl) :
    PE X (.Call (.Attribute o name apos) (e :: es) [] cpos) (tBM K T r to t) := by subst h; exact pe_bm pa slot hty hm ho ha n1 n2 n3 n4 n5
theorem pe_bm0K (K : PySem.W.Frag) (h : X.K = K) {o : Expr} {to : TE} {name : Str} {apos cpos : Pos} {T id : String} {r : V → List V → Hp → VK → Prop}
    (pa : PlainAttrs T) (slot : Slot T name id) (hty : typeOf (.builtin id) = pure (.type "method_descriptor")) (hm : MtR X id r) (ho : PE X o to)
    (n1 : attributeBase o name X.env (eval o X.env) = eval o X.env := by rfl) (n3 : (apos.endLine == cpos.line) = true := by rfl) : PE X (.Call (.Attribute o name apos) [] [] cpos) (tBM0 K T r to) := by subst h; exact pe_bm0 pa slot hty hm ho n1 n3
theorem op_catAK (K : PySem.W.Frag) (h : X.K = K) : OpR X (binaryOp .Add) (rCatA K) := by subst h; exact op_catA
theorem call_isiTK (K : PySem.W.Frag) (h : X.K = K) : CallR X (.builtin "isinstance") (rIsiT K) := by subst h; exact call_isiT
theorem pi_zipAK (K : PySem.W.Frag) (h : X.K = K) {e e2 : Expr} {ta : TA} {p pos tpos : Pos} {elts : List Expr} {kk : Nat} (hg : Gl X "zip") (hm : X.mg "zip" = none) (ha : PA X [e, e2] ta)
    (hs : starEach [e, e2] X.env = (false, eval e X.env) :: starEach [e2] X.env := by rfl) (hpl : (backTo pos (starEach [e2] X.env)).any (·.1) = false := by rfl) :
    PI X (.Tuple elts kk tpos) (.Call (.Name "zip" p) [e, e2] [] pos) (RZ.iZipA K ta) := by subst h; exact RZ.pi_zipA hg hm ha hs hpl
theorem pi_or {tg e : Expr} {t1 t2 : TI} (h1 : PI X tg e t1) (h2 : PI X tg e t2) : PI X tg e (fun σ H R => t1 σ H R ∨ t2 σ H R) := ⟨fun pins s σ H R I h => h.elim (h1.run pins s σ H R I) (h2.run pins s σ H R I)⟩
theorem pe_fldK (K : PySem.W.Frag) (h : X.K = K) {e : Expr} {ta : TE} {f : Str} {pos : Pos} (he : PE X e ta) (hb : attributeBase e f X.env (eval e X.env) = eval e X.env) : PE X (.Attribute e f pos) (tFld K ta f) := by subst h; exact pe_fld he hb
theorem ps_fldK (K : PySem.W.Frag) (h : X.K = K) {o value : Expr} {ta tv : TE} {f : Str} {pos pos' : Pos} (ha : PE X o ta) (hv : PE X value tv) (hs : swapsWith value (some (.Attribute o f pos')) pos.line X.env = pure false) : PS X (.Assign [.Attribute o f pos'] value pos) (sFld K ta tv f) := by subst h; exact ps_fld ha hv hs
theorem ps_fldaugK (K : PySem.W.Frag) (h : X.K = K) {o value : Expr} {ta tv : TE} {f : Str} {pos tpos : Pos} {op : Operator} {rd : V → V → Hp → VK → Prop} (ha : PE X o ta) (hv : PE X value tv) (hop : InOp X op rd) : PS X (.AugAssign (.Attribute o f tpos) op value pos) (sFldAug K ta tv rd f) := by subst h; exact ps_fldaug ha hv hop
end
section
variable {X : Cx}
theorem cr_sumK (K : PySem.W.Frag) (h : X.K = K) (hc : X.calm = true) : CallR X (.builtin "sum") (rSum K) := by subst h; exact cr_sum hc
end
section
variable {X : Cx}
theorem op_ltTK (K : PySem.W.Frag) (h : X.K = K) (hu : X.A.units < cLine) : OpR X (compareOp .Lt) (rLtT K) := by subst h; exact op_ltT hu
end
section
variable {X : Cx}
theorem cr_sortedRevK (K : PySem.W.Frag) (h : X.K = K) {b : Bool} : CallRK X (.builtin "sorted") [Str.ofString "reverse"] (rSortedKw K b [.bl b]) := by subst h; exact cr_sortedRev
theorem op_inDK (K : PySem.W.Frag) (h : X.K = K) (hu : X.A.units + 65 < cLine) : OpR X (compareOp .In) (rInD K) := by subst h; exact op_inD hu
end
theorem hu65 {A : Around} {k : Nat} (hr : Room k A) : A.units + 65 < cLine := by have := hr.un; omega
section
variable {X : Cx}
/-- x not in t, t a tuple of data of any depth -/
def rNotInDT (K : PySem.W.Frag) : R2 := fun x y H Q => ∃ d ds, Dp K H x d ∧ Dp K H y (.tuple ds) ∧ SeqAt.shaped d = true ∧ SeqAt.shaped (.tuple ds) = true ∧ Q (.bl (!ds.any fun z => PyData.eqv z d)) H
theorem op_notInDTK (K : PySem.W.Frag) (same : X.K = K) (room : X.A.units + 65 < cLine) : OpR X (compareOp .NotIn) (rNotInDT K) := by
  subst same
  intro pins st σ H one many ov mv Q J ro rm asked
  have ⟨d, ds, dpO, dpM, shO, shM, done⟩ := asked
  have ⟨_, readO⟩ := Dp.reads J d one ov dpO ro
  have ⟨_, readM⟩ := Dp.reads J (.tuple ds) many mv dpM rm
  exact SeqAt.notIn_tuple_reads readM readO (SeqAt.canLay_of_shaped shM) (SeqAt.canLay_of_shaped shO) (room_in_shaped shO room) ⟨.bl _, H, J, rfl, done⟩
end
section
variable {X : Cx}
/-- x in t, t a tuple of data of any depth -/
def rInDT (K : PySem.W.Frag) : R2 := fun x y H Q => ∃ d ds, Dp K H x d ∧ Dp K H y (.tuple ds) ∧ SeqAt.shaped d = true ∧ SeqAt.shaped (.tuple ds) = true ∧ Q (.bl (ds.any fun z => PyData.eqv z d)) H
theorem op_inDTK (K : PySem.W.Frag) (same : X.K = K) (room : X.A.units + 65 < cLine) : OpR X (compareOp .In) (rInDT K) := by
  subst same
  intro pins st σ H one many ov mv Q J ro rm asked
  have ⟨d, ds, dpO, dpM, shO, shM, done⟩ := asked
  have ⟨_, readO⟩ := Dp.reads J d one ov dpO ro
  have ⟨_, readM⟩ := Dp.reads J (.tuple ds) many mv dpM rm
  exact SeqAt.in_tuple_reads readM readO (SeqAt.canLay_of_shaped shM) (SeqAt.canLay_of_shaped shO) (room_in_shaped shO room) ⟨.bl _, H, J, rfl, done⟩
end
section
variable {X : Cx}
def rReprG (K : PySem.W.Frag) : List V → Hp → VK → Prop := fun xs H Q => ∃ (x : V) (d : PyData), xs = [x] ∧ Dp K H x d ∧ d.showable = true ∧ d.hasDict = false ∧ d.depth ≤ 60 ∧ d.shown.length ≤ sizeLine ∧ Q (.str d.shown) H
theorem call_reprG (K : PySem.W.Frag) (hk : X.K = K) (gd : X.A.guards = some []) (un : X.A.units + 64 < cLine) : CallR X (.builtin "repr") (rReprG K) := by
  subst hk
  intro pins st σ H xs us Q J rel asked
  obtain ⟨x, d, rfl, hd, h1, h2, h3, h4, now⟩ := asked
  obtain ⟨u, rfl, ru⟩ := vals1 rel
  cases hd with
  | non =>
    obtain rfl : u = Value.none := ru
    exact PySem.P.repr_of_none ⟨.str _, H, J.tok _, ⟨_, rfl⟩, now⟩
  | bl b =>
    obtain rfl : u = Value.bool b := ru
    refine PySem.P.repr_of_bool ⟨.str (PyData.bool b).shown, H, J.tok _, ⟨st.toks, ?_⟩, now⟩
    cases b <;> rfl
  | int i =>
    obtain ⟨t, rfl⟩ := ru
    refine PySem.P.repr_of_int (by simpa [PyData.showable] using h1) ⟨.str (PyData.int i).shown, H, J.tok _, ⟨st.toks, ?_⟩, now⟩
    first | rfl | (simp only [PyData.shown]; rfl)
  | str z =>
    obtain ⟨t, rfl⟩ := ru
    refine PySem.P.repr_of_str ⟨.str (PyData.str z).shown, H, J.tok _, ⟨st.toks, ?_⟩, now⟩ (by simpa only [PyData.shown] using h4)
    first | rfl | (simp only [PyData.shown])
  | lst a b =>
    obtain rfl : u = Value.ref _ := ru
    obtain ⟨as, rd⟩ := Dp.reads J _ _ _ (.lst a b) rfl
    exact repr_of_reads' rd h1 (PyData.noDict_hsm h2) gd (by omega) (fun _ _ e => e) (fun h' u tk kp => ⟨.str _, H, J.kept (t' := tk) kp, ⟨_, rfl⟩, now⟩) h4
  | tup a b =>
    obtain rfl : u = Value.ref _ := ru
    obtain ⟨as, rd⟩ := Dp.reads J _ _ _ (.tup a b) rfl
    exact repr_of_reads' rd h1 (PyData.noDict_hsm h2) gd (by omega) (fun _ _ e => e) (fun h' u tk kp => ⟨.str _, H, J.kept (t' := tk) kp, ⟨_, rfl⟩, now⟩) h4
end
/-! ### for i, x in enumerate(t), t a tuple -/
section
open Sem (wp)
open AutoSeq1 (wpAny_loadPart')
theorem enum_of_tup (t : Addr) (its : Array Value) (n : Nat) (dct : Option Addr) (sl : Array (Option Value)) :
    Meets (Builtin.«enumerate.__new__» ⟨[.type "enumerate", .ref t], []⟩) (fun _ R st => st.heap.get? t = some { cls := .type "tuple", dict := dct, data := .seq its n, slots := sl } ∧
      R (.ok (.ret (.ref (st.heap.push { cls := .type "tuple_iterator", data := .fields #[.ref t, .int 0 0] }).objs.size)))
        { st with heap := (st.heap.push { cls := .type "tuple_iterator", data := .fields #[.ref t, .int 0 0] }).push { cls := .type "enumerate", data := .fields #[.none, .bool false, .ref st.heap.objs.size, rawInt 0, .none, .none] } }) :=
  .of_wp fun prog w A R st asked => by
    obtain ⟨hp, g, d, tk, os⟩ := st; obtain ⟨at_, asked⟩ := asked
    have sub := sub_enumerate
    have hT : Heap.IsTuple (Shared.heap ⟨hp, g, d, tk, os⟩) t its := ⟨_, at_, rfl, n, rfl⟩
    wp_walk using wpAny_loadPart' at_
    refine wpAny_stack_any fun stk => wpAny_pure ?_
    split
    · rename_i c _ _ _ _ _
      cases (c == Value.type "enumerate")
      · wp_walk using wpAny_loadPart' at_, wpAny_pyIter_tuple hT
        exact ⟨_, rfl, asked⟩
      · wp_walk using wpAny_loadPart' at_, wpAny_pyIter_tuple hT
        exact ⟨_, rfl, asked⟩
    · wp_walk using wpAny_loadPart' at_, wpAny_pyIter_tuple hT
      exact ⟨_, rfl, asked⟩
theorem call_enum_tup {prog : Program} {w : World} {A : Around} {E : Value → Shared → Prop} {st : Shared} {t : Addr} {its : Array Value} {Q : Value → Shared → Prop} (hT : st.heap.IsTuple t its)
    (now : ∀ h', IsEnum h' (st.heap.objs.size + 1) st.heap.objs.size 0 .none → h'.IsTupleIter st.heap.objs.size t 0 → h'.objs.size = st.heap.objs.size + 2 →
      (∀ b o, st.heap.get? b = some o → h'.get? b = some o) → Q (.ref (st.heap.objs.size + 1)) { st with heap := h' }) :
    wpAny (model prog w) A (call (.type "enumerate") [.ref t]) Q E st := by
  obtain ⟨⟨c, dct, dt, sl⟩, at_, hc, n, hd⟩ := hT
  replace hc : c = .type "tuple" := hc
  replace hd : dt = .seq its n := hd
  subst hc hd
  refine callType_new F.called_enumerate (by decide) (F.typeCall_enumerate_1 _) (F.newCall_enumerate_1 _) (fun obj => F.args_object_init_2 obj _) F.entry_enumerate_new (enum_of_tup t its n dct sl) ⟨at_, ?_⟩
  have size1 : (st.heap.push { cls := .type "tuple_iterator", data := .fields #[.ref t, .int 0 0] }).objs.size = st.heap.objs.size + 1 := Heap.size_push ..
  show _ ∧ _
  rw [size1]
  have made := Heap.get?_push_size (st.heap.push { cls := .type "tuple_iterator", data := .fields #[.ref t, .int 0 0] }) (o := { cls := .type "enumerate", data := .fields #[.none, .bool false, .ref st.heap.objs.size, rawInt 0, .none, .none] }) rfl
  rw [size1] at made
  exact ⟨⟨_, made, rfl⟩, now _ made ⟨_, Heap.get?_push_of_some _ (Heap.get?_push_size _ rfl), rfl, rfl⟩ (by rw [Heap.size_push, size1]) fun b o e => Heap.get?_push_of_some _ (Heap.get?_push_of_some _ e)⟩
end
/-- the tuple at a, each item in a new pair -/
def IteT (K : PySem.W.Frag) (a : Addr) (xs : List V) : It :=
  ⟨fun i H => SqT K H a xs ∧ i < xs.length, fun i H v H' => ∃ T x, v = .ref T ∧ H T = none ∧ H' = upd H T (.tup [.int (i : Nat), x]) ∧ xs[i]? = some x, fun i H => SqT K H a xs ∧ i = xs.length⟩
theorem turn_enumT {P : Program} {w : World} {K : PySem.W.Frag} {elts : List Expr} {kk : Nat} {tpos : Pos} (a e it : Addr) (xs : List V) :
    Turn P w K (.Tuple elts kk tpos) (IteT K a xs) [e, it] e (fun i h => (∃ old, IsEnum h e it ((i : Nat) : Int) old) ∧ h.IsTupleIter it a i ∧ e ≠ it ∧ a ≠ it ∧ a ≠ e) where
  mem := by simp
  obj := fun i h st b hb => by
    obtain ⟨⟨old, he⟩, ⟨o, ho, hc, hd⟩, _⟩ := st
    have either : b = e ∨ b = it := by simpa using hb
    rcases either with z | z
    · rw [z]; exact ⟨_, he, fun v q => nomatch q⟩
    · rw [z]; exact ⟨o, ho, fun v q => by rw [hd] at q; cases q⟩
  keep := fun i h h' st k => let ⟨⟨old, he⟩, hi, apart⟩ := st; ⟨⟨old, k e (by simp) _ he⟩, hi.at fun o q => k it (by simp) o q, apart⟩
  item := by
    intro X hP hw hK hc i pins st σ H E J hf stt going
    subst hP hw hK
    obtain ⟨⟨old, he⟩, hit, n1, n2, n3⟩ := stt
    obtain ⟨hq, hi⟩ := going
    obtain ⟨its, rv, tup, hz⟩ := J.tuple hq
    have len := rv.length
    have el : e < st.heap.objs.size := Heap.lt_size he
    have il : it < st.heap.objs.size := by obtain ⟨_, q, _⟩ := hit; exact Heap.lt_size q
    have D := Draws.tuple (prog := X.prog) (w := X.w) (A := X.A.in1) (J.ok.hd hc) it a n2 its.toArray
    refine wpAny_pyNext_enum_itemD D he ⟨hit, tup⟩ (by rw [List.size_toArray]; omega) n1 (by simp [n1, n3.symm]) fun u h' tk px out stt' new size kp => ?_
    refine ⟨_, rfl, wpAny_letOwnedTupleGo_enum (s := { st with heap := h', toks := tk + 1 }) out fun h'' he' sb => ?_⟩
    obtain ⟨x, hx⟩ : ∃ x, xs[i]? = some x := ⟨_, List.getElem?_eq_getElem hi⟩
    obtain ⟨u', hu', ru⟩ := rv.get hx
    have eu : u' = u := by
      have px : its.toArray[i]? = some u := px
      rw [List.getElem?_toArray, hu'] at px
      exact Option.some.inj px
    subst eu
    have there : h''.get? st.heap.objs.size = some { cls := .type "tuple", data := .seq #[.int i tk, u'] } := (sb.2 _ (Nat.ne_of_gt el)).trans new
    have ok2 : ObjOk X.prog X.w (upd H st.heap.objs.size (.tup [.int (i : Nat), x])) h'' st.heap.objs.size (.tup [.int (i : Nat), x]) :=
      ⟨by show 2 ≤ sizeLine; decide, [.int i tk, u'], .cons ⟨_, rfl⟩ (.cons ru .nil), ⟨_, there, rfl, _, rfl⟩⟩
    have J1 : Inv X pins σ (upd H st.heap.objs.size (.tup [.int (i : Nat), x])) { st with heap := h'', toks := tk + 1 } :=
      J.turnedNew (ch := [e, it]) (fun b ob hb q => (sb.2 b (fun z => hb (by simp [z]))).trans (kp b ob (fun z => hb (by simp [z])) (fun z => hb (by simp [z])) q)) hf (Nat.le_refl _) ok2
    refine ⟨.ref st.heap.objs.size, _, J1, rfl, ⟨_, x, rfl, J.hok.fresh (Nat.le_refl _), rfl, hx⟩, ⟨⟨u', ?_⟩, stt'.1.at fun o q => (sb.2 it (Ne.symm n1)).trans q, n1, n2, n3⟩, fun b hb => ?_⟩
    · rw [show ((i + 1 : Nat) : Int) = (i : Int) + 1 by omega]
      exact he'
    · have bl : b < st.heap.objs.size := by
        have either : b = e ∨ b = it := by simpa using hb
        rcases either with z | z
        · rw [z]; exact el
        · rw [z]; exact il
      rw [upd_ne (Nat.ne_of_lt bl)]
      exact (hf b hb).1
  done := by
    intro X hP hw hK hc i pins st σ H E J hf stt over
    subst hP hw hK
    obtain ⟨⟨old, he⟩, hit, n1, n2, n3⟩ := stt
    obtain ⟨hq, hi⟩ := over
    obtain ⟨its, rv, tup, hz⟩ := J.tuple hq
    obtain ⟨f0, f1, f2, f3, f4, f5⟩ := hf it (by simp)
    have len := rv.length
    have D := Draws.tuple (prog := X.prog) (w := X.w) (A := X.A.in1) (J.ok.hd hc) it a n2 its.toArray
    have ei : its.toArray.size = i := by rw [List.size_toArray]; omega
    exact wpAny_pyNext_enum_endD D he ⟨by rw [ei]; exact hit, tup⟩ fun h' eb => ⟨rfl, J.turned (t' := st.toks) (fun b o hb q => eb b o hb q) f0 f1 f3 f4 f5⟩
  self := fun A i st Q E stt now => let ⟨⟨_, he⟩, _⟩ := stt; wpAny_pyIter_enum he now
def iEnumT (K : PySem.W.Frag) (ta : TA) : TI := fun σ H R => ta σ H fun vs H1 => ∃ a xs, vs = [.ref a] ∧ SqT K H1 a xs ∧ R (IteT K a xs) H1
theorem pi_enumT (K : PySem.W.Frag) {X : Cx} (hk : X.K = K) {e : Expr} {ta : TA} {p pos tpos : Pos} {elts : List Expr} {kk : Nat} (hg : Gl X "enumerate") (hm : X.mg "enumerate" = none) (ha : PA X [e] ta) (hs : starEach [e] X.env = [(false, eval e X.env)] := by rfl) :
    PI X (.Tuple elts kk tpos) (.Call (.Name "enumerate" p) [e] [] pos) (iEnumT K ta) := by
  subst hk
  refine ⟨fun pins st σ H R J asked => ?_⟩
  refine Call_ (ld_blt J hg hm boot_enumerate (PyProof.Rows.callWith_type1 (thn (ha.run pos pins st σ H _ J asked) fun us st1 ⟨vs, H1, J1, rel, now⟩ => ?_) hs rfl))
  obtain ⟨a, xs, ex, hq, now⟩ := now
  subst ex
  obtain ⟨u, rfl, ru⟩ := vals1 rel
  obtain rfl : u = Value.ref a := ru
  obtain ⟨its, rv, tup, hz⟩ := J1.tuple hq
  have al : a < st1.heap.objs.size := by obtain ⟨o, ho, _⟩ := tup; exact Heap.lt_size ho
  refine call_enum_tup tup fun h' he hit size kp => wpAny_pyIter_enum he ?_
  have J2 : Inv X pins σ H1 { st1 with heap := h' } := J1.kept (t' := st1.toks) kp
  refine ⟨st1.heap.objs.size + 1, [st1.heap.objs.size + 1, st1.heap.objs.size], _, _, H1, rfl, J2, turn_enumT a (st1.heap.objs.size + 1) st1.heap.objs.size xs, ⟨⟨.none, he⟩, hit, Nat.succ_ne_self _, Nat.ne_of_lt al, Nat.ne_of_lt (Nat.lt_succ_of_lt al)⟩, fun b hb => ?_, now⟩
  have either : b = st1.heap.objs.size + 1 ∨ b = st1.heap.objs.size := by simpa using hb
  have low : st1.heap.objs.size ≤ b := by
    rcases either with z | z
    · rw [z]; exact Nat.le_add_right _ _
    · rw [z]; exact Nat.le_refl _
  exact J1.fpOk low (J1.hok.fresh low)
theorem pi_enumK (K : PySem.W.Frag) (h : X.K = K) {e : Expr} {ta : TA} {p pos tpos : Pos} {elts : List Expr} {kk : Nat} (hg : Gl X "enumerate") (hm : X.mg "enumerate" = none) (ha : PA X [e] ta) (hs : starEach [e] X.env = [(false, eval e X.env)] := by rfl) :
    PI X (.Tuple elts kk tpos) (.Call (.Name "enumerate" p) [e] [] pos) (iEnum K ta) := by subst h; exact pi_enum hg hm ha hs
/-! ### dict(zip(xs, ys)), xs a list, ys a tuple -/
section
open Sem (wp)
variable {prog : Program} {w : World} {A : Around} {E : Value → Shared → Prop} {st : Shared} {z TI TO T i1 i2 : Addr} {fp1 fp2 : List Addr} {n1 n2 i : Nat} {P1 P2 : Nat → Value → Prop} {S1 S2 : Nat → Heap → Prop} {f : Bool} {oT : Obj}
theorem out_next (S : ZipSep2 z TI TO i1 i2 fp1 fp2) (D1 : Draws prog w A i1 fp1 n1 P1 S1) (D2 : Draws prog w A i2 fp2 n2 P2 S2) {Q : Value → Shared → Prop}
    (out : IsZipHeld st.heap z TI TO T f) (hT : st.heap.get? T = some oT) (both : IsTupOf2 st.heap TI (.ref i1) (.ref i2)) (at1 : S1 i st.heap) (at2 : S2 i st.heap) (l1 : i < n1) (l2 : i < n2)
    (now : ∀ x y h' tk, P1 i x → P2 i y → IsZipHeld h' z TI TO T true → S1 (i + 1) h' → S2 (i + 1) h' → IsTupOf2 h' st.heap.objs.size x y → (∀ c o, c ≠ z → c ≠ i1 → c ≠ i2 → st.heap.get? c = some o → h'.get? c = some o) → Q (.ref st.heap.objs.size) { st with heap := h', toks := tk }) :
    wpAny (model prog w) A (Builtin.«zip.__next__» ⟨[.ref z], []⟩) (fun fin s' => ∃ v, fin = .done (.ret v) ∧ Q v s') E st := by
  obtain ⟨hp, g, d, tk0, os⟩ := st
  show wpAny _ _ (field (.ref z) 2 >>= _) _ _ _; refine wpAny_bind (wpAny_field out rfl (x := .bool false) rfl ?_)
  show wpAny _ _ (field (.ref z) 3 >>= _) _ _ _; refine wpAny_bind (wpAny_field out rfl (x := .ref TI) rfl ?_)
  refine wpAny_bind (wpAny_seqItems both rfl ?_); show wpAny _ _ (Builtin.SmallTypes.ownedTupleIsFree (.ref z) >>= _) _ _ _
  refine wpAny_bind (wpAny_tupleHeld_zip out hT fun g1 out1 b1 => ?_)
  replace b1 : Heap.SameBut z hp g1 := b1
  simp only [Bool.false_eq_true, if_false]; refine wpAny_bind ?_; rw [← Array.forIn_toList]; simp only [List.forIn_cons, List.forIn_nil]
  refine wpAny_bind (wpAny_bind (wpAny_holding ?_)); show wpAny _ _ (Builtin.SmallTypes.nextOf (.ref i1) >>= _) _ _ ⟨g1, g, d, tk0, os⟩
  refine wpAny_bind (D1.item i _ _ _ l1 (D1.over at1 b1 S.zf1) fun x g2 tk1 px n1' b2 => wpAny_pure ?_)
  replace b2 : Heap.SameBut i1 g1 g2 := b2
  refine wpAny_pure ?_; refine wpAny_bind (wpAny_bind (wpAny_holding ?_)); show wpAny _ _ (Builtin.SmallTypes.nextOf (.ref i2) >>= _) _ _ ⟨g2, g, d, tk1, os⟩
  refine wpAny_bind (D2.item i _ _ _ l2 (D2.over (D2.over at2 b1 S.zf2) b2 S.sep1_2) fun y g3 tk2 py n2' b3 => wpAny_pure ?_)
  replace b3 : Heap.SameBut i2 g2 g3 := b3
  refine wpAny_pure (wpAny_pure ?_); show wpAny _ _ (newTuple [x, y] >>= _) _ _ ⟨g3, g, d, tk2, os⟩
  refine wpAny_bind (wpAny_newTuple ?_); refine wpAny_pure ⟨_, rfl, ?_⟩
  have size : g3.objs.size = hp.objs.size := by rw [b3.1, b2.1, b1.1]
  have out3 : IsZipHeld g3 z TI TO T true := b3.extBut _ _ S.zi2 (b2.extBut _ _ S.zi1 out1)
  have new : IsTupOf2 (g3.push { cls := .type "tuple", data := .seq #[x, y] }) g3.objs.size x y := Heap.get?_push_size _ rfl
  show Q (.ref g3.objs.size) _
  rw [size] at new ⊢
  exact now x y _ tk2 px py (Heap.get?_push_of_some _ out3) (D1.frame _ _ _ (D1.over n1' b3 S.sep2_1) fun _ _ _ q => Heap.get?_push_of_some _ q) (D2.frame _ _ _ n2' fun _ _ _ q => Heap.get?_push_of_some _ q) new
    fun c o c1 c2 c3 q => Heap.get?_push_of_some _ (b3.extBut _ _ c3 (b2.extBut _ _ c2 (b1.extBut _ _ c1 q)))
theorem out_end (S : ZipSep2 z TI TO i1 i2 fp1 fp2) (D1 : Draws prog w A i1 fp1 n1 P1 S1) (D2 : Draws prog w A i2 fp2 n2 P2 S2) {Q : Fin → Shared → Prop}
    (out : IsZipHeld st.heap z TI TO T f) (hT : st.heap.get? T = some oT) (both : IsTupOf2 st.heap TI (.ref i1) (.ref i2)) (at1 : S1 i st.heap) (at2 : S2 i st.heap) (l1 : i ≤ n1) (l2 : i ≤ n2) (last : i = n1 ∨ i = n2)
    (now : ∀ h' tk e, (∀ c o, c ≠ z → c ≠ i1 → c ≠ i2 → st.heap.get? c = some o → h'.get? c = some o) → (∃ o, h'.get? e = some o ∧ o.cls = .type "StopIteration") → E (.ref e) { st with heap := h', toks := tk }) :
    wpAny (model prog w) A (Builtin.«zip.__next__» ⟨[.ref z], []⟩) Q E st := by
  obtain ⟨hp, g, d, tk0, os⟩ := st
  show wpAny _ _ (field (.ref z) 2 >>= _) _ _ _; refine wpAny_bind (wpAny_field out rfl (x := .bool false) rfl ?_)
  show wpAny _ _ (field (.ref z) 3 >>= _) _ _ _; refine wpAny_bind (wpAny_field out rfl (x := .ref TI) rfl ?_)
  refine wpAny_bind (wpAny_seqItems both rfl ?_); show wpAny _ _ (Builtin.SmallTypes.ownedTupleIsFree (.ref z) >>= _) _ _ _
  refine wpAny_bind (wpAny_tupleHeld_zip out hT fun g1 out1 b1 => ?_)
  replace b1 : Heap.SameBut z hp g1 := b1
  simp only [Bool.false_eq_true, if_false]; refine wpAny_bind ?_; rw [← Array.forIn_toList]; simp only [List.forIn_cons, List.forIn_nil]
  refine wpAny_bind (wpAny_bind (wpAny_holding ?_)); show wpAny _ _ (Builtin.SmallTypes.nextOf (.ref i1) >>= _) _ _ ⟨g1, g, d, tk0, os⟩
  by_cases more : i < n1
  · refine wpAny_bind (D1.item i _ _ _ more (D1.over at1 b1 S.zf1) fun x g2 tk1 px n1' b2 => wpAny_pure ?_)
    replace b2 : Heap.SameBut i1 g1 g2 := b2
    refine wpAny_pure ?_; refine wpAny_bind (wpAny_bind (wpAny_holding ?_)); show wpAny _ _ (Builtin.SmallTypes.nextOf (.ref i2) >>= _) _ _ ⟨g2, g, d, tk1, os⟩
    have e2 : i = n2 := by omega
    subst e2
    refine wpAny_bind (D2.done _ _ _ (D2.over (D2.over at2 b1 S.zf2) b2 S.sep1_2) fun g3 e b3 he => ?_)
    exact now g3 tk1 e (fun c o c1 c2 c3 q => b3 _ _ c3 (b2.extBut _ _ c2 (b1.extBut _ _ c1 q))) he
  · have e1 : i = n1 := by omega
    subst e1
    refine wpAny_bind (D1.done _ _ _ (D1.over at1 b1 S.zf1) fun g3 e b3 he => ?_)
    exact now g3 tk0 e (fun c o c1 c2 c3 q => b3 _ _ c2 (b1.extBut _ _ c1 q)) he
theorem out_pyNext (S : ZipSep2 z TI TO i1 i2 fp1 fp2) (D1 : Draws prog w A.in1 i1 fp1 n1 P1 S1) (D2 : Draws prog w A.in1 i2 fp2 n2 P2 S2) {Q : Option Value → Shared → Prop}
    (out : IsZipHeld st.heap z TI TO T f) (hT : st.heap.get? T = some oT) (both : IsTupOf2 st.heap TI (.ref i1) (.ref i2)) (at1 : S1 i st.heap) (at2 : S2 i st.heap) (l1 : i < n1) (l2 : i < n2)
    (now : ∀ x y h' tk, P1 i x → P2 i y → IsZipHeld h' z TI TO T true → S1 (i + 1) h' → S2 (i + 1) h' → IsTupOf2 h' st.heap.objs.size x y → (∀ c o, c ≠ z → c ≠ i1 → c ≠ i2 → st.heap.get? c = some o → h'.get? c = some o) → Q (some (.ref st.heap.objs.size)) { st with heap := h', toks := tk }) :
    wpAny (model prog w) A (pyNext (.ref z)) Q E st := by
  have ty : st.TypeIs (.ref z) "zip" := ⟨_, out, rfl⟩
  unfold pyNext
  refine wpAny_bind (wpAny_attempt (wpAny_callSpecial?_slot (name := Str.ofString "__next__") ty F.slot_zip_next (wpAny_call_entry F.slot_zip_next ty F.entry_zip_next (out_next S D1 D2 out hT both at1 at2 l1 l2 ?_) (F.args_zip_next_1 _))))
  exact fun x y h' tk a b c d e g k => wpAny_pure (now x y h' tk a b c d e g k)
theorem out_pyNext_end (S : ZipSep2 z TI TO i1 i2 fp1 fp2) (D1 : Draws prog w A.in1 i1 fp1 n1 P1 S1) (D2 : Draws prog w A.in1 i2 fp2 n2 P2 S2) {Q : Option Value → Shared → Prop}
    (out : IsZipHeld st.heap z TI TO T f) (hT : st.heap.get? T = some oT) (both : IsTupOf2 st.heap TI (.ref i1) (.ref i2)) (at1 : S1 i st.heap) (at2 : S2 i st.heap) (l1 : i ≤ n1) (l2 : i ≤ n2) (last : i = n1 ∨ i = n2)
    (now : ∀ h' tk, (∀ c o, c ≠ z → c ≠ i1 → c ≠ i2 → st.heap.get? c = some o → h'.get? c = some o) → Q none { st with heap := h', toks := tk }) :
    wpAny (model prog w) A (pyNext (.ref z)) Q E st := by
  have ty : st.TypeIs (.ref z) "zip" := ⟨_, out, rfl⟩
  unfold pyNext
  refine wpAny_bind (wpAny_attempt (wpAny_callSpecial?_slot (name := Str.ofString "__next__") ty F.slot_zip_next (wpAny_call_entry F.slot_zip_next ty F.entry_zip_next (out_end S D1 D2 out hT both at1 at2 l1 l2 last ?_) (F.args_zip_next_1 _))))
  rintro h' tk e kp ⟨o, ho, hc⟩
  exact wpAny_bind (wpAny_isInstance (T := "StopIteration") (b := true) ⟨o, ho, hc⟩ isSubtype_stop (wpAny_pure (now _ _ kp)))
/-- the zip of the list l and the tuple t, begun -/
def ZipLT (h : Heap) (z TI TO i1 i2 l t : Addr) (xs ys : Array Value) (n : Nat) : Prop := IsTupOf2 h TI (.ref i1) (.ref i2) ∧ (h.IsListIter i1 l n ∧ h.IsList l xs) ∧ (h.IsTupleIter i2 t n ∧ h.IsTuple t ys)
theorem ZipLT.keep {h h' : Heap} {z TI TO i1 i2 l t : Addr} {xs ys : Array Value} {n : Nat} (q : ZipLT h z TI TO i1 i2 l t xs ys n) (k : ∀ b, b = TI ∨ b = i1 ∨ b = i2 ∨ b = l ∨ b = t → ∀ o, h.get? b = some o → h'.get? b = some o) : ZipLT h' z TI TO i1 i2 l t xs ys n :=
  ⟨k _ (.inl rfl) _ q.1, ⟨q.2.1.1.at fun o e => k _ (.inr (.inl rfl)) o e, q.2.1.2.at fun o e => k _ (.inr (.inr (.inr (.inl rfl)))) o e⟩, ⟨q.2.2.1.at fun o e => k _ (.inr (.inr (.inl rfl))) o e, q.2.2.2.at fun o e => k _ (.inr (.inr (.inr (.inr rfl)))) o e⟩⟩
theorem pairs_LT (z TI TO i1 i2 l t : Addr) (S : ZipSep2 z TI TO i1 i2 [i1, l] [i2, t]) (hl : l ≠ i1) (ht : t ≠ i2) (xs ys : Array Value) :
    PairArg prog w "zip" z [z, TI, TO, i1, i2, l, t] [z, TO, i1, i2] (min xs.size ys.size) (fun i k v => xs[i]? = some k ∧ ys[i]? = some v)
      (fun h => IsZip h z TI TO .none ∧ (∃ a b, IsTupOf2 h TO a b) ∧ ZipLT h z TI TO i1 i2 l t xs ys 0) where
  type := fun s ok => ⟨_, ok.1, rfl⟩
  notDict := by decide
  keep := fun h h' ok k => by
    obtain ⟨a1, ⟨a, b, a2⟩, a3⟩ := ok
    exact ⟨k _ _ a1, ⟨a, b, k _ _ a2⟩, a3.keep fun b _ o e => k b o e⟩
  there := fun h ok b hb => by
    obtain ⟨a1, ⟨a, c, a2⟩, a3, ⟨⟨o1, e1, _⟩, ⟨o2, e2, _⟩⟩, ⟨⟨o3, e3, _⟩, ⟨o4, e4, _⟩⟩⟩ := ok
    have either : b = z ∨ b = TI ∨ b = TO ∨ b = i1 ∨ b = i2 ∨ b = l ∨ b = t := by simpa using hb
    rcases either with q | q | q | q | q | q | q <;> subst q
    · exact ⟨_, a1⟩
    · exact ⟨_, a3⟩
    · exact ⟨_, a2⟩
    · exact ⟨_, e1⟩
    · exact ⟨_, e3⟩
    · exact ⟨_, e2⟩
    · exact ⟨_, e4⟩
  sub := fun b hb => by
    have either : b = z ∨ b = TO ∨ b = i1 ∨ b = i2 := by simpa using hb
    rcases either with q | q | q | q <;> subst q <;> simp
  noKeys := fun A s Q E hA ok now => getAttrOr_miss_zip ok.1 rfl rfl rfl zip_no_keys (by decide +kernel) hA now
  iter := fun A s d Q E hA ok dlt dfar now => by
    obtain ⟨a1, ⟨a, b, a2⟩, a3⟩ := ok
    have far : d ≠ z ∧ d ≠ TI ∧ d ≠ TO ∧ d ≠ i1 ∧ d ≠ i2 ∧ d ≠ l ∧ d ≠ t := by simpa using dfar
    obtain ⟨d1, d2, d3, d4, d5, d6, d7⟩ := far
    have D1 := Draws.list (prog := prog) (w := w) (A := A.in1) hA i1 l hl xs
    have D2 := Draws.tuple (prog := prog) (w := w) (A := A.in1) hA i2 t ht ys
    refine wpAny_pyIter_zip a1 (now z [z, TO, i1, i2] (fun n h => ZipLT h z TI TO i1 i2 l t xs ys n ∧ ((IsZip h z TI TO .none ∧ ∃ a b, IsTupOf2 h TO a b) ∨ ∃ T f oT, IsZipHeld h z TI TO T f ∧ h.get? T = some oT ∧ T ≠ z ∧ T ≠ i1 ∧ T ≠ i2 ∧ T ≠ d)) s.heap s.toks ?_ ⟨a3, .inl ⟨a1, a, b, a2⟩⟩ (fun _ _ e => e) fun b hb => .inl hb)
    refine ⟨fun hm => ?_, fun n h h' q k => ?_, fun n s1 Q1 E1 hn q dl now1 => ?_, fun s1 Q1 E1 q now1 => ?_⟩
    · have either : d = z ∨ d = TO ∨ d = i1 ∨ d = i2 := by simpa using hm
      rcases either with q | q | q | q
      · exact d1 q
      · exact d3 q
      · exact d4 q
      · exact d5 q
    · refine ⟨q.1.keep fun b hb o e => k b o (fun y => ?_) e, ?_⟩
      · rcases hb with q | q | q | q | q <;> rw [q] at y
        · exact d2 y.symm
        · exact d4 y.symm
        · exact d5 y.symm
        · exact d6 y.symm
        · exact d7 y.symm
      · rcases q.2 with ⟨q1, a, b, q2⟩ | ⟨T, f, oT, q1, q2, r1, r2, r3, r4⟩
        · exact .inl ⟨k _ _ (Ne.symm d1) q1, a, b, k _ _ (Ne.symm d3) q2⟩
        · exact .inr ⟨T, f, oT, k _ _ (Ne.symm d1) q1, k _ _ r4 q2, r1, r2, r3, r4⟩
    · obtain ⟨⟨both, at1, at2⟩, q⟩ := q
      have m1 : n < xs.size := Nat.lt_of_lt_of_le hn (Nat.min_le_left ..)
      have m2 : n < ys.size := Nat.lt_of_lt_of_le hn (Nat.min_le_right ..)
      have lt : ∀ {c o}, s1.heap.get? c = some o → s1.heap.objs.size ≠ c := fun e => Nat.ne_of_gt (Heap.lt_size e)
      have j1 : s1.heap.objs.size ≠ i1 := let ⟨_, e⟩ := D1.live _ _ at1; lt e
      have j2 : s1.heap.objs.size ≠ i2 := let ⟨_, e⟩ := D2.live _ _ at2; lt e
      rcases q with ⟨q1, a, b, q2⟩ | ⟨T, f, oT, q1, q2, r1, r2, r3, r4⟩
      · refine wpAny_pyNext_zipD2_item S D1 D2 q1 both q2 at1 at2 m1 m2 fun x y h' tk px py b1 b2 b3 b4 b5 b6 k => ?_
        exact now1 s1.heap.objs.size x y h' tk ⟨px, py⟩ (.inl ⟨_, b5, rfl, _, rfl⟩) ⟨⟨k _ _ S.TIz S.TITO S.TIi1 S.TIi2 both, b3, b4⟩, .inr ⟨_, false, _, b1, b5, lt q1, j1, j2, Nat.ne_of_gt dl⟩⟩
          fun c o hc e => k c o (fun y => hc (by simp [y])) (fun y => hc (by simp [y])) (fun y => hc (by simp [y])) (fun y => hc (by simp [y])) e
      · refine out_pyNext S D1 D2 q1 q2 both at1 at2 m1 m2 fun x y h' tk px py b1 b3 b4 b5 k => ?_
        exact now1 s1.heap.objs.size x y h' tk ⟨px, py⟩ (.inl ⟨_, b5, rfl, _, rfl⟩) ⟨⟨k _ _ S.TIz S.TIi1 S.TIi2 both, b3, b4⟩, .inr ⟨T, true, oT, b1, k _ _ r1 r2 r3 q2, r1, r2, r3, r4⟩⟩
          fun c o hc e => k c o (fun y => hc (by simp [y])) (fun y => hc (by simp [y])) (fun y => hc (by simp [y])) e
    · obtain ⟨⟨both, at1, at2⟩, q⟩ := q
      rcases q with ⟨q1, a, b, q2⟩ | ⟨T, f, oT, q1, q2, r1, r2, r3, r4⟩
      · exact wpAny_pyNext_zipD2_end S D1 D2 q1 both q2 at1 at2 (Nat.min_le_left ..) (Nat.min_le_right ..) (by omega) fun h' tk k => now1 h' tk fun c o hc e => k c o (fun y => hc (by simp [y])) (fun y => hc (by simp [y])) (fun y => hc (by simp [y])) (fun y => hc (by simp [y])) e
      · exact out_pyNext_end S D1 D2 q1 q2 both at1 at2 (Nat.min_le_left ..) (Nat.min_le_right ..) (by omega) fun h' tk k => now1 h' tk fun c o hc e => k c o (fun y => hc (by simp [y])) (fun y => hc (by simp [y])) (fun y => hc (by simp [y])) e
end
/-- dict(zip(e1, e2)): keys from a list, values from a tuple -/
def eDictZip (K : PySem.W.Frag) (ta : TA) : TE := fun σ H Q => ta σ H fun vs H1 => ∃ (a b : Addr) (ks : List Key) (xs : List V), vs = [.ref a, .ref b] ∧ SqL K H1 a (ks.map kV) ∧ SqT K H1 b xs ∧ ∀ p, H1 p = none → Q (.ref p) (upd H1 p (.dK (mergeK [] (ks.zip xs))))
theorem pe_dictZip (K : PySem.W.Frag) {X : Cx} (hk : X.K = K) (hcalm : X.calm = true) {e e2 : Expr} {ta : TA} {p p2 pos pos2 : Pos} (hd : Gl X "dict") (md : X.mg "dict" = none) (hg : Gl X "zip") (hm : X.mg "zip" = none) (ha : PA X [e, e2] ta)
    (hs : starEach [e, e2] X.env = (false, eval e X.env) :: starEach [e2] X.env := by rfl) (hpl : (backTo pos2 (starEach [e2] X.env)).any (·.1) = false := by rfl)
    (hs1 : starEach [.Call (.Name "zip" p2) [e, e2] [] pos2] X.env = [(false, eval (.Call (.Name "zip" p2) [e, e2] [] pos2) X.env)] := by rfl) :
    PE X (.Call (.Name "dict" p) [.Call (.Name "zip" p2) [e, e2] [] pos2] [] pos) (eDictZip K ta) := by
  subst hk
  refine ⟨fun pins st σ H Q J asked => ?_⟩
  refine Call_ (ld_blt J hd md boot_dict (PyProof.Rows.callWith_type1 (args_cons (Call_ (ld_blt J hg hm boot_zip (PyProof.Rows.callWith_type1 (thn (ha.run pos2 pins st σ H _ J asked) fun us st1 ⟨vs, H1, J1, rel, now⟩ => ?_) hs hpl))) hs1) hs1 rfl))
  obtain ⟨a, b, ks, xs, ex, hq1, hq2, now⟩ := now
  subst ex
  cases rel with
  | cons r1 rel =>
  cases rel with
  | cons r2 rel =>
  cases rel
  cases r1
  cases r2
  obtain ⟨its, rv, p1, z1⟩ := J1.list hq1
  obtain ⟨its2, rv2, p2, z2⟩ := J1.tuple hq2
  have al : a < st1.heap.objs.size := p1.lt
  have bl : b < st1.heap.objs.size := by obtain ⟨o, ho, _⟩ := p2; exact Heap.lt_size ho
  have B1 := begins_list a its.toArray
  have B2 := begins_tuple b its2.toArray
  refine zip_begins2 B1 B2 p1.isList p2 fun h' c1 c2 c3 c4 c5 size kp => args_nil ?_
  have S := zip_sep2 (N := st1.heap.objs.size) (fp1 := [a]) (fp2 := [b]) (by simpa using al) (by simpa using bl)
  have P := pairs_LT (prog := X.prog) (w := X.w) _ _ _ _ _ a b S (Nat.ne_of_lt al) (Nat.ne_of_lt (Nat.lt_succ_of_lt bl)) its.toArray its2.toArray
  have n1 := rv.length
  have n2 := rv2.length
  rw [List.length_map] at n1 z1
  have all : ∀ (ks : List Key) (xs : List V) (us vs : List Value), Vals (ks.map kV) us → Vals xs vs → ∃ rs : List (Key × Value), KV (ks.zip xs) rs ∧ rs.length = min us.length vs.length ∧ ∀ (i : Nat) (k v : Value), us[i]? = some k → vs[i]? = some v → ∃ q, rs[i]? = some (q, v) ∧ (mixKind X.prog X.w).is q k = true := by
    intro ks
    induction ks with
    | nil => intro xs us vs r1 r2; cases r1; exact ⟨[], .nil, by simp, fun i k v e => nomatch e⟩
    | cons k ks ih =>
      intro xs us vs r1 r2
      cases r1 with
      | cons h1 t1 =>
      cases r2 with
      | nil => exact ⟨[], .nil, by simp, fun i k v _ e => nomatch e⟩
      | cons h2 t2 =>
        obtain ⟨rs, e1, e2, e3⟩ := ih _ _ _ t1 t2
        refine ⟨(k, _) :: rs, .cons ⟨rfl, h2⟩ e1, by simp only [List.length_cons, e2]; omega, fun i q v e f => ?_⟩
        cases i with
        | zero => cases e; cases f; exact ⟨k, rfl, kV_is h1⟩
        | succ i => exact e3 i q v e f
  obtain ⟨rs, e1, e2, e3⟩ := all ks xs its its2 rv rv2
  have PH : PairsHave (mixKind X.prog X.w) (min its.toArray.size its2.toArray.size) (fun i k v => its.toArray[i]? = some k ∧ its2.toArray[i]? = some v) rs :=
    ⟨by simpa using e2, fun i k v q => e3 i k v (by simpa using q.1) (by simpa using q.2)⟩
  refine _root_.PySem.call_dict_pairs (s := { st1 with heap := h' }) P (J1.ok.hd hcalm) ⟨c1, ⟨_, _, c3⟩, c2, ⟨⟨_, c4, rfl, rfl⟩, B1.keeps _ _ p1.isList kp⟩, ⟨⟨_, c5, rfl, rfl⟩, B2.keeps _ _ p2 kp⟩⟩ PH (by have := n1; have := n2; simp only [List.size_toArray]; omega) fun h2 tk isd kp2 => ?_
  replace isd : h2.DictOf (mixKind X.prog X.w) h'.objs.size (merged [] rs) := isd
  have low : st1.heap.objs.size ≤ h'.objs.size := by rw [size]; exact Nat.le_add_right _ _
  have big : sysModules < h'.objs.size := Nat.lt_of_lt_of_le J1.big low
  have ne : (h'.objs.size == sysModules) = false := beq_eq_false_iff_ne.mpr (Nat.ne_of_gt big)
  have few : (mergeK [] (ks.zip xs)).length ≤ sizeLine := by
    refine Nat.le_trans (length_mergeK _ []) ?_
    rw [List.length_nil, Nat.zero_add, List.length_zip]
    omega
  refine ⟨.ref h'.objs.size, upd H1 h'.objs.size (.dK (mergeK [] (ks.zip xs))), J1.laid (t' := tk) (fun c o q => kp2 c o (fun hm => ?_) (kp c o q)) low (show ObjOk X.prog X.w _ _ _ (.dK (mergeK [] (ks.zip xs))) from ⟨few, ne, merged [] rs, KV.merge e1 .nil, isd⟩), rfl, now _ (J1.hok.fresh low)⟩
  have cl := Heap.lt_size q
  have either : c = st1.heap.objs.size + 4 ∨ c = st1.heap.objs.size + 3 ∨ c = st1.heap.objs.size ∨ c = st1.heap.objs.size + 1 := by simpa using hm
  rcases either with y | y | y | y <;> rw [y] at cl
  · exact absurd cl (Nat.not_lt.mpr (Nat.le_add_right _ _))
  · exact absurd cl (Nat.not_lt.mpr (Nat.le_add_right _ _))
  · exact absurd cl (Nat.lt_irrefl _)
  · exact absurd cl (Nat.not_lt.mpr (Nat.le_add_right _ _))
theorem one_at {K : PySem.W.Frag} {a : Addr} {od : Option Addr} {z : Str} {t1 : Tok} {n : Nat} {sl : Array (Option Value)} (l : K.lookup a = some ⟨.type "tuple", od, .seq #[.str z t1] n, sl⟩) (H : Hp) : SqT K H a [.str z] :=
  .inr ⟨_, _, _, l, rfl, rfl, (show 1 ≤ sizeLine by decide), .cons ⟨_, rfl⟩ .nil⟩
/-! ### dicts whose keys are tuples of tuples -/
mutual
/-- a value that is such a key -/
inductive NkV (H : Hp) : NestedKey → V → Prop
  | num (i : Int) : NkV H (.num i) (.int i)
  | text (x : Str) : NkV H (.text x) (.str x)
  | tup {a : Addr} {xs : List V} {ks : List NestedKey} : H a = some (.tup xs) → NkL H ks xs → NkV H (.tup ks) (.ref a)
inductive NkL (H : Hp) : List NestedKey → List V → Prop
  | nil : NkL H [] []
  | cons {k : NestedKey} {x : V} {ks : List NestedKey} {xs : List V} : NkV H k x → NkL H ks xs → NkL H (k :: ks) (x :: xs)
end
section
variable {P : Program} {w : World} {H H' : Hp} {h : Heap}
mutual
theorem NkV.keep (kp : TK H H') : ∀ {k : NestedKey} {x : V}, NkV H k x → NkV H' k x
  | _, _, .num i => .num i
  | _, _, .text x => .text x
  | _, _, .tup e l => .tup (kp _ _ e) (NkL.keep kp l)
theorem NkL.keep (kp : TK H H') : ∀ {ks : List NestedKey} {xs : List V}, NkL H ks xs → NkL H' ks xs
  | _, _, .nil => .nil
  | _, _, .cons a b => .cons (NkV.keep kp a) (NkL.keep kp b)
end
mutual
theorem NkV.is (ok : HOk P w H h) : ∀ {k : NestedKey} {x : V} {u : Value}, NkV H k x → RelV x u → NestedIs h k u
  | _, _, u, .num i, r => by
    obtain ⟨t, rfl⟩ := (show ∃ t, u = Value.int i t from r)
    exact .int i t
  | _, _, u, .text x, r => by
    obtain ⟨t, rfl⟩ := (show ∃ t, u = Value.str x t from r)
    exact .text x t
  | _, _, u, @NkV.tup _ a xs ks e l, r => by
    obtain rfl : u = Value.ref a := r
    obtain ⟨_, its, rv, o, e1, e2, n, e3⟩ := (show ObjOk P w H h a (.tup xs) from ok a _ e)
    exact .tup e1 e2 e3 (by simpa using NkL.is ok l rv)
theorem NkL.is (ok : HOk P w H h) : ∀ {ks : List NestedKey} {xs : List V} {us : List Value}, NkL H ks xs → Vals xs us → NestedAll h ks us
  | _, _, _, .nil, .nil => .nil
  | _, _, _, .cons a b, .cons r t => .cons (NkV.is ok a r) (NkL.is ok b t)
end
/-- what stands in the heap for a dict with the entries kas: key, the key's address, number -/
def nkRow (k : NestedKey × Addr × Int) (x : NestedKey × Addr × Value) : Prop := x.1 = k.1 ∧ x.2.1 = k.2.1 ∧ ∃ t, x.2.2 = .int k.2.2 t
def nkObj (P : Program) (w : World) (d : Addr) (kas : List (NestedKey × Addr × Int)) (h : Heap) : Prop :=
  (d == sysModules) = false ∧ kas.length ≤ sizeLine ∧ ∃ xs : List (NestedKey × Addr × Value), All2 nkRow kas xs ∧ ∃ o es ep, h.get? d = some o ∧ o.ExactDict ∧ o.data = .dict es ep ∧ es.toList = xs.map (entryOfKey (nestedKind P w)) ∧ (xs.map (·.1)).Nodup
def nkO (P : Program) (w : World) (d : Addr) (kas : List (NestedKey × Addr × Int)) : HO := .ext (nkObj P w d kas)
structure NkD (P : Program) (w : World) (H : Hp) (d : Addr) (kas : List (NestedKey × Addr × Int)) : Prop where
  at_ : H d = some (nkO P w d kas)
  key : ∀ q ∈ kas, NkV H q.1 (.ref q.2.1) ∧ q.1.depth ≤ 8
theorem nkO_tup {d : Addr} {kas : List (NestedKey × Addr × Int)} {xs : List V} : nkO P w d kas ≠ .tup xs := fun z => by
  have z' : HO.ext _ = HO.tup xs := z
  cases z'
theorem nkObj_ok {d : Addr} {kas : List (NestedKey × Addr × Int)} (q : nkObj P w d kas h) : ObjOk P w H h d (nkO P w d kas) := by
  have q0 := q
  obtain ⟨_, _, xs, _, o, es, ep, e, _⟩ := q0
  refine ⟨q, ⟨o, e⟩, fun h1 h2 q1 k => ?_⟩
  obtain ⟨a1, a2, xs, al, o, es, ep, e, r⟩ := q1
  exact ⟨a1, a2, xs, al, o, es, ep, k _ e, r⟩
theorem nk_names : ∀ {kas : List (NestedKey × Addr × Int)} {xs : List (NestedKey × Addr × Value)}, All2 nkRow kas xs → xs.map (·.1) = kas.map (·.1)
  | _, _, .nil => rfl
  | _, _, .cons r t => by rw [List.map_cons, List.map_cons, r.1, nk_names t]
/-- the number at a key -/
def nkAt (kas : List (NestedKey × Addr × Int)) (k : NestedKey) : Option Int := (kas.find? fun q => decide (q.1 = k)).map fun q => q.2.2
theorem nk_at {k : NestedKey} : ∀ {kas : List (NestedKey × Addr × Int)} {xs : List (NestedKey × Addr × Value)}, All2 nkRow kas xs → (nkAt kas k = none ∧ atKey xs k = none) ∨ ∃ n a t, nkAt kas k = some n ∧ atKey xs k = some (a, .int n t)
  | _, _, .nil => .inl ⟨rfl, rfl⟩
  | _, _, @All2.cons _ _ _ c x cs xs r t => by
    unfold nkAt atKey
    rw [List.find?_cons, List.find?_cons, r.1]
    by_cases e : c.1 = k
    · rw [decide_eq_true e]
      obtain ⟨tt, ht⟩ := r.2.2
      refine .inr ⟨c.2.2, x.2.1, tt, rfl, ?_⟩
      show some x.2 = _
      rw [← ht]
    · rw [decide_eq_false e]
      exact nk_at t
theorem NkD.get {d : Addr} {kas : List (NestedKey × Addr × Int)} (D : NkD P w H d kas) (ok : HOk P w H h) : (d == sysModules) = false ∧ kas.length ≤ sizeLine ∧ ∃ xs, All2 nkRow kas xs ∧ h.DictOfH (nestedKind P w) d xs := by
  obtain ⟨⟨a1, a2, xs, al, o, es, ep, e1, e2, e3, e4, e5⟩, _⟩ := (show ObjOk P w H h d (nkO P w d kas) from ok d _ D.at_)
  refine ⟨a1, a2, xs, al, o, es, ep, e1, e2, e3, e4, fun x hx => ?_, e5⟩
  have : ∀ {kas : List (NestedKey × Addr × Int)} {xs : List (NestedKey × Addr × Value)}, All2 nkRow kas xs → ∀ x ∈ xs, ∃ q ∈ kas, x.1 = q.1 ∧ x.2.1 = q.2.1 := by
    intro kas xs al
    induction al with
    | nil => intro x hx; cases hx
    | cons r t ih =>
      intro x hx
      rcases List.mem_cons.mp hx with rfl | hx
      · exact ⟨_, List.mem_cons_self .., r.1, r.2.1⟩
      · obtain ⟨q, hq, z⟩ := ih x hx
        exact ⟨q, List.mem_cons_of_mem _ hq, z⟩
  obtain ⟨q, hq, z1, z2⟩ := this al x hx
  obtain ⟨k1, k2⟩ := D.key q hq
  rw [z1, z2]
  exact ⟨NkV.is ok k1 rfl, k2⟩
theorem NkD.go {d : Addr} {kas : List (NestedKey × Addr × Int)} (D : NkD P w H d kas) (e : H' d = H d) (kp : TK H H') : NkD P w H' d kas := ⟨e.trans D.at_, fun q hq => ⟨(D.key q hq).1.keep kp, (D.key q hq).2⟩⟩
theorem NkD.same {d : Addr} {kas : List (NestedKey × Addr × Int)} (D : NkD P w H d kas) (s : Same H H') : NkD P w H' d kas := D.go ((s _ _ D.at_).trans D.at_.symm) (TK.same s)
end
section
variable {X : Cx} {o i e : Expr} {pos pos' : Pos} {td ty tv : TE}
theorem nk_room {X : Cx} (hu : X.A.units + 65 < cLine) : (nestedKind X.prog X.w).room X.A.in1 := by
  show X.A.in1.units + 8 < cLine
  show X.A.units + 1 + 8 < cLine
  omega
/-- {}, for such keys -/
def tNkNew (P : Program) (w : World) : TE := fun _ H Q => ∀ p, H p = none → NkD P w (upd H p (nkO P w p [])) p [] → Q (.ref p) (upd H p (nkO P w p []))
theorem pe_nknew (P : Program) (w : World) (h1 : X.prog = P) (h2 : X.w = w) : PE X (.Dict [] [] pos) (tNkNew P w) := by
  subst h1 h2
  refine ⟨fun pins s σ H Q I h => ?_⟩
  have hb := I.big
  have ob : nkObj X.prog X.w s.heap.objs.size [] (s.heap.push { cls := .type "dict", data := .dict #[] }) := ⟨beq_eq_false_iff_ne.mpr (Ne.symm (Nat.ne_of_lt hb)), Nat.zero_le _, [], .nil, _, #[], 0, Heap.get?_push_size _ rfl, ⟨rfl, rfl, rfl⟩, rfl, rfl, List.nodup_nil⟩
  exact wpAny_Dict_empty ⟨.ref s.heap.objs.size, _, I.laid (a := s.heap.objs.size) (o := nkO X.prog X.w s.heap.objs.size []) (t' := s.toks) (fun _ _ q => Heap.get?_push_of_some _ q) (Nat.le_refl _) (nkObj_ok ob), rfl, h _ (I.hok.fresh (Nat.le_refl _)) ⟨upd_same, fun q hq => by cases hq⟩⟩
/-- y not in d -/
def tNkOut (P : Program) (w : World) (ty td : TE) : TE := fun σ H Q => ty σ H fun y H1 => td σ H1 fun x H2 => ∃ (d b : Addr) (kas : List (NestedKey × Addr × Int)) (k : NestedKey), x = .ref d ∧ y = .ref b ∧ NkD P w H2 d kas ∧ NkV H2 k (.ref b) ∧ k.depth ≤ 8 ∧ Q (.bl (!(nkAt kas k).isSome)) H2
theorem pc_nkout (P : Program) (w : World) (h1 : X.prog = P) (h2 : X.w = w) (hu : X.A.units + 65 < cLine) (hi : PE X i ty) (ho : PE X o td) : PC X .NotIn i o (tNkOut P w ty td) := by
  subst h1 h2
  refine ⟨fun pins s σ H Q I h => ?_⟩
  refine thn (hi.run pins s σ H _ I h) fun iv s1 ⟨y, H1, I1, ry, q1⟩ => thn (ho.run pins s1 σ H1 _ I1 q1) fun u s2 ⟨x, H2, I2, rx, d, b, kas, k, ex, ey, D, kv, dp, q2⟩ => ?_
  subst ex ey
  obtain rfl : u = Value.ref d := rx
  obtain rfl : iv = Value.ref b := ry
  obtain ⟨a1, a2, xs, al, dd⟩ := D.get I2.hok
  refine wpAny_notIn_heap (nk_room hu) ⟨NkV.is I2.hok kv rfl, dp⟩ a1 dd ⟨.bl (!(nkAt kas k).isSome), H2, I2.tok _, ?_, q2⟩
  rcases nk_at (k := k) al with ⟨z1, z2⟩ | ⟨n, a, t, z1, z2⟩ <;> rw [z1, z2] <;> rfl
/-- d[y] -/
def tNkGet (P : Program) (w : World) (td ty : TE) : TE := fun σ H Q => td σ H fun x H1 => ty σ H1 fun y H2 => ∃ (d b : Addr) (kas : List (NestedKey × Addr × Int)) (k : NestedKey) (n : Int), x = .ref d ∧ y = .ref b ∧ NkD P w H2 d kas ∧ NkV H2 k (.ref b) ∧ k.depth ≤ 8 ∧ nkAt kas k = some n ∧ Q (.int n) H2
theorem pe_nkget (P : Program) (w : World) (h1 : X.prog = P) (h2 : X.w = w) (hu : X.A.units + 65 < cLine) (ho : PE X o td) (hi : PE X i ty) (hs : NoSl i) : PE X (.Subscript o i pos) (tNkGet P w td ty) := by
  subst h1 h2
  refine ⟨fun pins s σ H Q I h => ?_⟩
  refine subD_of PySem.F.slot_dict_getitem.lookup hs (thn (ho.run pins s σ H _ I h) fun u s1 ⟨x, H1, I1, rx, q1⟩ => thn (hi.run pins s1 σ H1 _ I1 q1) fun iv s2 ⟨y, H2, I2, ry, d, b, kas, k, n, ex, ey, D, kv, dp, hk, q2⟩ => ?_)
  subst ex ey
  obtain rfl : u = Value.ref d := rx
  obtain rfl : iv = Value.ref b := ry
  obtain ⟨a1, a2, xs, al, dd⟩ := D.get I2.hok
  refine ⟨dd.typeIs, ?_⟩
  rcases nk_at (k := k) al with ⟨z1, z2⟩ | ⟨m, a, t, z1, z2⟩
  · rw [z1] at hk; cases hk
  · rw [z1] at hk
    cases hk
    exact wpAny_getItem_heap (nk_room hu) ⟨NkV.is I2.hok kv rfl, dp⟩ dd z2 ⟨.int n, H2, I2.tok _, ⟨t, rfl⟩, q2⟩
/-- len(d) -/
theorem call_lenNk (P : Program) (w : World) (h1 : X.prog = P) (h2 : X.w = w) : CallR X (.builtin "len") (fun vs H Q => ∃ (d : Addr) (kas : List (NestedKey × Addr × Int)), vs = [.ref d] ∧ NkD P w H d kas ∧ Q (.int (kas.length : Nat)) H) := by
  subst h1 h2
  intro pins s σ H vs us Q I r asked
  obtain ⟨d, kas, rfl, D, q⟩ := asked
  obtain ⟨u, rfl, ru⟩ := vals1 r
  obtain rfl : u = Value.ref d := ru
  obtain ⟨a1, a2, xs, al, dd⟩ := D.get I.hok
  have l := al.length
  refine PySem.call_len_dictH a1 dd (by rw [← l]; rw [sizeLine_eq] at a2; omega) ?_
  exact ⟨.int (kas.length : Nat), H, I.tok _, ⟨_, by rw [l]⟩, q⟩
/-- d[y] = v, y not yet in d -/
def sNkPut (P : Program) (w : World) (td ty tv : TE) : TS := fun D σ H => tv σ H fun v H1 => td σ H1 fun x H2 => ty σ H2 fun y H3 => ∃ (d b : Addr) (kas : List (NestedKey × Addr × Int)) (k : NestedKey) (n : Int), x = .ref d ∧ y = .ref b ∧ v = .int n ∧ NkD P w H3 d kas ∧ NkV H3 k (.ref b) ∧ k.depth ≤ 8 ∧ nkAt kas k = none ∧ kas.length < sizeLine ∧
  (NkD P w (upd H3 d (nkO P w d (kas ++ [(k, b, n)]))) d (kas ++ [(k, b, n)]) → D.nx σ (upd H3 d (nkO P w d (kas ++ [(k, b, n)]))))
theorem ps_nkput {value : Expr} (P : Program) (w : World) (h1 : X.prog = P) (h2 : X.w = w) (hu : X.A.units + 65 < cLine) (ho : PE X o td) (hi : PE X i ty) (hv : PE X value tv) (hs : swapsWith value (some (.Subscript o i pos')) pos.line X.env = pure false) :
    PS X (.Assign [.Subscript o i pos'] value pos) (sNkPut P w td ty tv) := by
  subst h1 h2
  refine ⟨fun pins s σ H D I h => ?_⟩
  refine wpAny_Assign_Subscript (thn (hv.run pins s σ H _ I h) fun r s1 ⟨v, H1, I1, rv, q1⟩ => thn (ho.run pins s1 σ H1 _ I1 q1) fun u s2 ⟨x, H2, I2, rx, q2⟩ => thn (hi.run pins s2 σ H2 _ I2 q2) fun iv s3 ⟨y, H3, I3, ry, d, b, kas, k, n, ex, ey, ev, Dk, kv, dp, hk, hl, q3⟩ => ?_) hs
  subst ex ey ev
  obtain rfl : u = Value.ref d := rx
  obtain rfl : iv = Value.ref b := ry
  obtain ⟨t, rfl⟩ := (show ∃ t, r = Value.int n t from rv)
  obtain ⟨a1, a2, xs, al, dd⟩ := Dk.get I3.hok
  have l := al.length
  have z2 : atKey xs k = none := by
    rcases nk_at (k := k) al with ⟨z1, z2⟩ | ⟨m, a, t, z1, z2⟩
    · exact z2
    · rw [z1] at hk; cases hk
  refine wpAny_setItem_heap (hsz := by rw [← l]; exact a2) (nk_room hu) ⟨NkV.is I3.hok kv rfl, dp⟩ dd fun h' dd' hsb => ?_
  rw [storedH_new z2] at dd'
  obtain ⟨ob, es, ep, g1, g2, g3, g4, g5, g6⟩ := dd'
  have kp : TK H3 (upd H3 d (nkO X.prog X.w d (kas ++ [(k, b, n)]))) := fun a ys e => by
    rw [upd_ne (ne_of e Dk.at_ (fun z => nkO_tup z.symm))]
    exact e
  have new : nkObj X.prog X.w d (kas ++ [(k, b, n)]) h' := ⟨a1, by rw [List.length_append]; exact hl, _, al.snoc ⟨rfl, rfl, t, rfl⟩, ob, es, ep, g1, g2, g3, g4, g6⟩
  refine ⟨σ, _, d_write I3 (by rw [Dk.at_]; exact True.intro) hsb ⟨ob, g1⟩ (nkObj_ok new), q3 ⟨upd_same, fun q hq => ?_⟩⟩
  rcases List.mem_append.mp hq with hq | hq
  · exact ⟨(Dk.key q hq).1.keep kp, (Dk.key q hq).2⟩
  · rw [List.mem_singleton.mp hq]
    exact ⟨kv.keep kp, dp⟩
end
/-! ### numbers from 0 on, slices -/
abbrev nV (n : Nat) : V := .int ((n : Nat) : Int)
theorem cut_drop (xs : List V) (k : Nat) : cutV xs (some ((k : Nat) : Int)) none = xs.drop k := by
  unfold cutV
  rw [HT.sIx_nat, HT.sIx_none]
  rcases Nat.le_total k xs.length with h | h
  · rw [Nat.min_eq_left h, List.take_of_length_le]
    rw [List.length_drop]; exact Nat.le_refl _
  · rw [Nat.min_eq_right h, Nat.sub_self, List.take_zero, List.drop_eq_nil_of_le h]
/-! ### slices and sums of tuples, whatever they are -/
theorem slA_of {K : PySem.W.Frag} {H : Hp} {a : Addr} {xs : List V} {lo hi : Option Int} {Q : VK} (h : H a = some (.tup xs)) (k : ∀ (p : Addr) (H' : Hp), H' p = some (.tup (cutV xs lo hi)) → Same H H' → Q (.ref p) H') : rSlA K (.ref a) lo hi H Q := by
  refine ⟨a, xs, rfl, SqT.of h, fun z => k a H ?_ (Same.refl _), fun _ p np => k p _ upd_same (same_new np)⟩
  unfold cutV
  rw [z.1, z.2, List.drop_zero, Nat.sub_zero, List.take_length]
  exact h
theorem catA_of {K : PySem.W.Frag} {H : Hp} {a b : Addr} {xs ys : List V} {Q : VK} (h : H a = some (.tup xs)) (g : H b = some (.tup ys)) (l : xs.length + ys.length ≤ 1000) (k : ∀ (p : Addr) (H' : Hp), H' p = some (.tup (xs ++ ys)) → Same H H' → Q (.ref p) H') : rCatA K (.ref a) (.ref b) H Q := by
  refine ⟨a, b, xs, ys, rfl, rfl, SqT.of h, SqT.of g, little l, fun e => k b H ?_ (Same.refl _), fun _ e => k a H ?_ (Same.refl _), fun _ _ p np => k p _ upd_same (same_new np)⟩
  · rw [e]; exact g
  · rw [e, List.append_nil]; exact h
theorem cut_take (xs : List V) (k : Nat) : cutV xs none (some ((k : Nat) : Int)) = xs.take k := by
  unfold cutV
  rw [HT.sIx_nat, HT.sIx_none, List.drop_zero, Nat.sub_zero]
  by_cases h : k ≤ xs.length
  · rw [Nat.min_eq_left h]
  · rw [Nat.min_eq_right (by omega), List.take_length, List.take_of_length_le (by omega)]
theorem cut_part {xs : List V} {lo hi : Option Int} : ∀ x ∈ cutV xs lo hi, x ∈ xs := fun x hx => List.mem_of_mem_drop (List.mem_of_mem_take hx)
theorem cut_nats {ns : List Nat} {lo hi : Option Int} : ∃ ms : List Nat, cutV (ns.map nV) lo hi = ms.map nV ∧ ms.length ≤ ns.length ∧ ∀ x ∈ ms, x ∈ ns := by
  refine ⟨(ns.drop (HT.sIx (ns.map nV).length 0 lo)).take (HT.sIx (ns.map nV).length (ns.map nV).length hi - HT.sIx (ns.map nV).length 0 lo), ?_, ?_, fun x hx => List.mem_of_mem_drop (List.mem_of_mem_take hx)⟩
  · unfold cutV
    rw [List.map_take, List.map_drop]
  · rw [List.length_take, List.length_drop]
    omega
section
variable {P : Program} {w : World} {K : PySem.W.Frag} {mg : Str → Option Value} {base : Heap}
def sp_law_flow (K : PySem.W.Frag) : Sp := fun vs H Q _ => ∃ (a : Addr) (ns : List Int), vs = [.ref a] ∧ SqL K H a (ns.map V.int) ∧ ∀ (f c : Addr) (H' : Hp), H f = none → H c = none → Flow H' f c → Same H H' → Q (.ref f) H'
theorem ok_law_flow {f : Addr} {fd : FuncData} (F : Fun K "_law_flow" "_law_flow" s_law_flow f fd) (T : Top w K mg) : FnOk P w K mg base CX0 1 f fd ["_law_script"] (sp_law_flow K) := by
  refine F.ok sc_law_flow (fun vs H Q E h => ?_) (fun cdv A outer s H vs Q E hr h => ?_)
  · obtain ⟨a, ns, rfl, _⟩ := h
    rfl
  obtain ⟨a, ns, rfl, hS, q⟩ := h
  refine ⟨_, (pss_one (ps_ret (pe_lst (pa_cons (pe_callTy (call_list_ofK K rfl) (by rfl) T.m_list (by decide +kernel) (pa_cons (pv 0) pa_nil)) (pa_cons pe_int (pa_cons pe_int (pa_cons pe_int (pa_cons pe_int pa_nil)))))))), ?_⟩
  refine ⟨_, rfl, a, _, rfl, .inl hS, fun c hc => ?_⟩
  refine ⟨(by show 5 ≤ sizeLine; decide), fun f hf => ?_⟩
  have nf : H f = none := by
    cases e : H f with
    | none => rfl
    | some o => rw [same_new hc _ _ e] at hf; cases hf
  have s1 := same_new (o := .lst (ns.map V.int)) hc
  refine q f c _ nf hc ⟨ns, 0, 0, 1, 0, upd_same, same_new hf _ _ upd_same, by decide, by decide, by decide, by decide⟩ fun b o e => same_new hf _ _ (s1 _ _ e)
def sp_law_pick (K : PySem.W.Frag) : Sp := fun vs H Q _ => ∃ (f c : Addr) (m : Int), vs = [.ref f, .int m] ∧ 0 < m ∧ m.natAbs.log2 < 9000 ∧ Flow H f c ∧
  ∀ (v : Int) (H' : Hp), 0 ≤ v → v < m → Flow H' f c → But f H H' → Q (.int v) H'
theorem ok_law_pick {f : Addr} {fd : FuncData} (F : Fun K "_law_pick" "_law_pick" s_law_pick f fd) (T : Top w K mg) : FnOk P w K mg base CX0 1 f fd ["_law_flow_here", "_law_many"] (sp_law_pick K) := by
  refine F.ok sc_law_pick (fun vs H Q E h => ?_) (fun cdv A outer s H vs Q E hr h => ?_)
  · obtain ⟨f, c, m, rfl, _⟩ := h
    rfl
  obtain ⟨f, c, m, rfl, m0, m9, hF, q⟩ := h
  obtain ⟨ns, i, p, z, r, hf, hc, hi, hp, hz, hz2⟩ := hF
  have ncf : c ≠ f := ne_of hc hf (by intro e; injection e with e; cases ns with | nil => cases e | cons x l => cases e)
  let R1 : TS := fun D' σ' H' => D'.rt = Q ∧ ∃ x2 : Option V, σ' = [some (.ref f), some (.int m), x2, none] ∧ (∃ (i p z r : Int), H' f = some (.lst [.ref c, .int i, .int p, .int z, .int r]) ∧ H' c = some (.lst (ns.map V.int)) ∧ 0 ≤ i ∧ 0 ≤ p ∧ 0 ≤ z ∧ z < 2147483647) ∧ But f H H'
  refine ⟨_, (pss_cons (ps_if (PW.pt (pw_and (pt_cmpR op_eq (pe_ix (ix_listK K rfl) (pv 0) pe_int (fun _ _ => rfl)) pe_int (nomark _)) (pw_and1 (pt_cmpR op_lt (pe_ix (ix_listK K rfl) (pv 0) pe_int (fun _ _ => rfl)) (pe_callB (call_len_seqK K rfl) (by rfl) T.m_len (by decide +kernel) (pa_cons (pe_ix (ix_listK K rfl) (pv 0) pe_int (fun _ _ => rfl)) pa_nil)) (nomark _))))) (pss_cons (ps_set (i := 2) sc_law_pick.nd rfl (Or.inl rfl) (pe_ix (ix_listK K rfl) (pe_ix (ix_listK K rfl) (pv 0) pe_int (fun _ _ => rfl)) (pe_ix (ix_listK K rfl) (pv 0) pe_int (fun _ _ => rfl)) (fun _ _ => rfl)))
      (pss_cons (ps_asg (pe_op op_add (pe_ix (ix_listK K rfl) (pv 0) pe_int (fun _ _ => rfl)) pe_int) (pg_sub (pv 0) pe_int set_list))
      (pss_one (ps_if (pt_cmpR op_ge (pv 2) (pe_op op_pow pe_int pe_int) (nomark _)) (pss_one (ps_asg (pv 2) (pg_sub (pv 0) pe_int set_list))) (pss_one (ps_asg (pe_op op_mod (pe_op op_add (pe_op op_add (pe_op op_mul (pe_ix (ix_listK K rfl) (pv 0) pe_int (fun _ _ => rfl)) pe_int) (pe_op op_mod (pv 2) pe_int)) pe_int) pe_int) (pg_sub (pv 0) pe_int set_list))))))) pss_nil)
      (PSs.to (pss_cons (ps_if (pt_cmpR op_gt (pe_ix (ix_listK K rfl) (pv 0) pe_int (fun _ _ => rfl)) pe_int (nomark _)) (pss_cons (ps_set (i := 3) sc_law_pick.nd rfl (Or.inl rfl) (pe_op op_mod (pe_ix (ix_listK K rfl) (pv 0) pe_int (fun _ _ => rfl)) (pv 1)))
      (pss_cons (ps_asg (pe_op op_fdivW (pe_ix (ix_listK K rfl) (pv 0) pe_int (fun _ _ => rfl)) (pv 1)) (pg_sub (pv 0) pe_int set_list))
      (pss_one (ps_ret (pv 3))))) pss_nil)
      (pss_cons (ps_asg (pe_op op_add (pe_ix (ix_listK K rfl) (pv 0) pe_int (fun _ _ => rfl)) pe_int) (pg_sub (pv 0) pe_int set_list))
      (pss_cons (ps_asg (pe_op op_mod (pe_op op_add (pe_op op_add (pe_op op_mul (pe_ix (ix_listK K rfl) (pv 0) pe_int (fun _ _ => rfl)) pe_int) pe_int) (pe_ix (ix_listK K rfl) (pv 0) pe_int (fun _ _ => rfl))) pe_int) (pg_sub (pv 0) pe_int set_list))
      (pss_one (ps_ret (pe_op op_mod (pe_op op_fdiv (pe_op op_mod (pe_op op_mul (pe_op op_add (pe_op op_mod (pe_ix (ix_listK K rfl) (pv 0) pe_int (fun _ _ => rfl)) pe_int) pe_int) (pe_op op_add (pe_op op_fdiv (pe_ix (ix_listK K rfl) (pv 0) pe_int (fun _ _ => rfl)) pe_int) pe_int)) pe_int) pe_int) (pv 1))))))) R1 ?tail1)), ?_⟩
  case tail1 =>
    rintro D' σ' H1 ⟨eD, x2, rfl, ⟨i, p, z, r, hf, hc, hi, hp, hz, hz2⟩, bt⟩
    refine ⟨_, rfl, f, _, _, _, rfl, rfl, SqL.of hf, atI_nat (j := 2) rfl, _, _, rfl, rfl, _, rfl, if_bl (fun c1 => ?_) (fun c1 => ?_)⟩
    · refine ⟨_, rfl, f, _, _, _, rfl, rfl, SqL.of hf, atI_nat (j := 2) rfl, _, rfl, _, _, rfl, rfl, m0, ?_⟩
      refine ⟨_, rfl, f, _, _, _, rfl, rfl, SqL.of hf, atI_nat (j := 2) rfl, _, rfl, _, _, rfl, rfl, ⟨m0, m9⟩, _, rfl, f, _, _, 2, rfl, rfl, hf, rfl, ?_⟩
      refine ⟨_, rfl, ?_⟩
      rw [eD]
      exact q _ _ (Int.emod_nonneg _ (by omega)) (Int.emod_lt_of_pos _ m0) ⟨ns, i, p / m, z, r, upd_same, (by rw [upd_ne ncf]; exact hc), hi, Int.ediv_nonneg hp (by omega), hz, hz2⟩ bt.upd
    · refine ⟨_, rfl, f, _, _, _, rfl, rfl, SqL.of hf, atI_nat (j := 4) rfl, _, _, rfl, rfl, _, rfl, f, _, _, 4, rfl, rfl, hf, rfl, ?_⟩
      have hf2 : upd H1 f (.lst ([V.ref c, V.int i, V.int p, V.int z, V.int r].set 4 (V.int (r + 1)))) f = some (.lst [.ref c, .int i, .int p, .int z, .int (r + 1)]) := upd_same
      refine ⟨_, rfl, f, _, _, _, rfl, rfl, SqL.of hf2, atI_nat (j := 3) rfl, _, _, rfl, rfl, .inl ⟨by omega, by omega⟩, _, _, rfl, rfl, _, rfl, f, _, _, _, rfl, rfl, SqL.of hf2, atI_nat (j := 4) rfl, _, _, rfl, rfl, _, _, rfl, rfl, (by show (0 : Int) < 2147483647; decide), _, rfl, f, _, _, 3, rfl, rfl, hf2, rfl, ?_⟩
      have z0 : 0 ≤ (z * 48271 + 12820163 + (r + 1)) % 2147483647 := Int.emod_nonneg _ (by decide)
      have z1 : (z * 48271 + 12820163 + (r + 1)) % 2147483647 < 2147483647 := Int.emod_lt_of_pos _ (by decide)
      have hf3 : upd (upd H1 f (.lst ([V.ref c, V.int i, V.int p, V.int z, V.int r].set 4 (V.int (r + 1))))) f (.lst ([V.ref c, V.int i, V.int p, V.int z, V.int (r + 1)].set 3 (V.int ((z * 48271 + 12820163 + (r + 1)) % 2147483647)))) f =
        some (.lst [.ref c, .int i, .int p, .int ((z * 48271 + 12820163 + (r + 1)) % 2147483647), .int (r + 1)]) := upd_same
      have hc3 : upd (upd H1 f (.lst ([V.ref c, V.int i, V.int p, V.int z, V.int r].set 4 (V.int (r + 1))))) f (.lst ([V.ref c, V.int i, V.int p, V.int z, V.int (r + 1)].set 3 (V.int ((z * 48271 + 12820163 + (r + 1)) % 2147483647)))) c = some (.lst (ns.map V.int)) := by
        rw [upd_ne ncf, upd_ne ncf]
        exact hc
      refine ⟨_, rfl, f, _, _, _, rfl, rfl, SqL.of hf3, atI_nat (j := 3) rfl, _, _, rfl, rfl, (by show (0 : Int) < 65521; decide), _, _, rfl, rfl, _, rfl, f, _, _, _, rfl, rfl, SqL.of hf3, atI_nat (j := 3) rfl, _, _, rfl, rfl, ⟨by decide, by decide⟩, _, _, rfl, rfl, _, _, rfl, rfl, .inl ⟨?_, ?_⟩, _, _, rfl, rfl, (by show (0 : Int) < 1000003; decide), _, _, rfl, rfl, ⟨by decide, by decide⟩, _, rfl, _, _, rfl, rfl, m0, ?_⟩
      · omega
      · omega
      · rw [eD]
        exact q _ _ (Int.emod_nonneg _ (by omega)) (Int.emod_lt_of_pos _ m0) ⟨ns, i, p, _, r + 1, hf3, hc3, hi, hp, z0, z1⟩ bt.upd.upd
  refine ⟨_, rfl, f, _, _, _, rfl, rfl, SqL.of hf, atI_nat (j := 2) rfl, rfl, _, rfl, if_bl (fun c1 => ?_) (fun c1 => ?_)⟩
  · refine ⟨_, rfl, f, _, _, _, rfl, rfl, SqL.of hf, atI_nat (j := 1) rfl, _, rfl, f, _, _, _, rfl, rfl, SqL.of hf, atI_nat (j := 0) rfl, c, _, rfl, .inl (SqL.of hc), _, _, rfl, rfl, _, rfl, if_bl (fun c2 => ?_) (fun c2 => ?_)⟩
    · have c3 : i < ((ns.map V.int).length : Int) := of_decide_eq_true c2
      rw [List.length_map] at c3
      obtain ⟨v, hv⟩ := at_ints hi c3
      refine ⟨_, rfl, f, _, _, _, rfl, rfl, SqL.of hf, atI_nat (j := 0) rfl, _, rfl, f, _, _, _, rfl, rfl, SqL.of hf, atI_nat (j := 1) rfl, c, _, i, _, rfl, rfl, SqL.of hc, hv, ?_⟩
      refine ⟨_, rfl, f, _, _, _, rfl, rfl, SqL.of hf, atI_nat (j := 1) rfl, _, _, rfl, rfl, _, rfl, f, _, _, 1, rfl, rfl, hf, rfl, ?_⟩
      have hf2 : upd H f (.lst ([V.ref c, V.int i, V.int p, V.int z, V.int r].set 1 (V.int (i + 1)))) f = some (.lst [.ref c, .int (i + 1), .int p, .int z, .int r]) := upd_same
      refine ⟨_, rfl, _, _, rfl, rfl, ⟨by decide, by decide, by decide⟩, _, _, rfl, rfl, _, rfl, if_bl (fun c4 => ?_) (fun c4 => ?_)⟩
      · have c5 : (10 : Int) ^ (18 : Int).toNat ≤ v := of_decide_eq_true c4
        have c6 : (0 : Int) ≤ (10 : Int) ^ (18 : Int).toNat := by decide
        refine ⟨_, rfl, _, rfl, f, _, _, 2, rfl, rfl, hf2, rfl, rfl, _, rfl, ⟨i + 1, v, z, r, upd_same, ?_, by omega, by omega, hz, hz2⟩, But.refl.upd.upd⟩
        rw [upd_ne ncf, upd_ne ncf]
        exact hc
      · refine ⟨_, rfl, f, _, _, _, rfl, rfl, SqL.of hf2, atI_nat (j := 3) rfl, _, _, rfl, rfl, .inl ⟨by omega, by omega⟩, _, rfl, _, _, rfl, rfl, (by show (0 : Int) < 1000003; decide), _, _, rfl, rfl, _, _, rfl, rfl, _, _, rfl, rfl, (by show (0 : Int) < 2147483647; decide), _, rfl, f, _, _, 3, rfl, rfl, hf2, rfl, rfl, _, rfl, ⟨i + 1, p, _, r, upd_same, ?_, by omega, hp, Int.emod_nonneg _ (by decide), Int.emod_lt_of_pos _ (by decide)⟩, But.refl.upd.upd⟩
        rw [upd_ne ncf, upd_ne ncf]
        exact hc
    · exact ⟨rfl, _, rfl, ⟨i, p, z, r, hf, hc, hi, hp, hz, hz2⟩, But.refl⟩
  · exact ⟨rfl, _, rfl, ⟨i, p, z, r, hf, hc, hi, hp, hz, hz2⟩, But.refl⟩
end
section
variable {P : Program} {w : World} {K : PySem.W.Frag} {mg : Str → Option Value} {base : Heap}
def sp_NsInit (K : PySem.W.Frag) (C : Addr) : Sp := fun vs H Q _ => ∃ (a : Addr) (x y : V), vs = [.ref a, x, y] ∧ H a = some (exo a C none) ∧
  ∀ d, H d = none → d ≠ a → Q .non (upd (upd (upd H d (exd d [("word", x)])) a (exo a C (some d))) d (exd d [("name", y), ("word", x)]))
theorem ok_NsInit {C CB fI : Addr} {fd : FuncData} (N : NsC K mg C CB fI fd) : FnOk P w K mg base CX0 1 fI fd ["self", "word", "name"] (sp_NsInit K C) := by
  refine N.F.ok sc_NoFormula_init (fun vs H Q E h => ?_) (fun cdv A outer s H vs Q E hr h => ?_)
  · obtain ⟨a, x, y, rfl, _⟩ := h
    rfl
  obtain ⟨a, x, y, rfl, ha, q⟩ := h
  refine ⟨_, pss_cons (ps_ost (pv 0) (pv 1)) (pss_one (ps_ost (pv 0) (pv 2))), ?_⟩
  refine ⟨_, rfl, _, rfl, a, C, rfl, N.T, N.nw, .inl ⟨ha, fun d nd da => ?_⟩⟩
  refine ⟨_, rfl, _, rfl, a, C, rfl, N.T, N.na, .inr ⟨d, _, upd_same, by rw [upd_ne da, upd_same], by show 1 ≤ 900; decide, q d nd da⟩⟩
end
/-! ### isinstance of a caught error that has fields of its own -/
section
open PySem.W PySem.Calls
variable {prog : Program} {w : World} {A : Around} {K : PySem.W.Frag} {x D : Addr} {ox : Obj} {od : Option Obj}
/-- what the class says with a setter goes before what the instance says -/
theorem found_class (C : ExcC K D) : findObj K D od "__class__" = some (.bind (.builtin "getset_descriptor.__get__") (.builtin "object.__class__")) := by
  have some_cls : ∃ cd, clsIn K D = some cd := by
    obtain ⟨cd, h, _⟩ := any_some C.hd
    exact ⟨cd, h⟩
  obtain ⟨cd, h⟩ := some_cls
  unfold findObj
  simp only [h, C.ha, C.hn, C.ht, Option.bind_some]
/-- the built in reader of fields, asked for the class -/
theorem reader_class {E : Value → Shared → Prop} {Q : Value → Shared → Prop} {hp : Heap} {g : Array GenState} {d : Drawn} {t tk : Nat} {os : OsState} (C : ExcC K D) (X : K.In hp) (I : InstAt hp x ox D od) (q : Q (.ref D) ⟨hp, g, d, t, os⟩) :
    wpAny (model prog w) A (call (.builtin "BaseException.__getattribute__") [.ref x, .str "__class__" tk]) Q E ⟨hp, g, d, t, os⟩ := by
  have known := I.type (M := model prog w)
  refine wpAny_call (codeAny_call_builtin PySem.F.excAttr_ValueError.ga.plain PySem.F.entry_bexc_ga ?_)
  refine @check_slot (model prog w) _ _ ⟨hp, g, d, t, os⟩ "BaseException.__getattribute__" "BaseException" "__getattribute__" (.ref x) [.str "__class__" tk] [] _ (by decide +kernel) (by decide +kernel) (known.andThen (looks_subIn X C.hs)) (PySem.F.args_bexc_ga (.ref x) (.str "__class__" tk)) ?_
  unfold Builtin.«object.__getattribute__»
  refine wpAny_bind (wpAny_of_eq (a := ((Value.ref x : Value), [Value.str "__class__" tk])) (by first | rfl | (simp only [slotArgs]; rfl)) (wpAny_bind (wpAny_pure (wpAny_bind (known.at (wpAny_bind ((looks_find (M := model prog w) X I (found_class C)).at ?_)))))))
  refine wpAny_bind (wpAny_holding (wpAny_call (class_get (s := ⟨hp, g, d, t, os⟩) (ox := ox) (od := od) X I C.hm ?_)))
  refine wpAny_pure ?_
  exact q
theorem asked_class {E : Value → Shared → Prop} {Q : Option Value → Shared → Prop} {s : Shared} (C : ExcC K D) (X : K.In s.heap) (I : InstAt s.heap x ox D od) (q : Q (some (.ref D)) { s with toks := s.toks + 1 }) : wpAny (model prog w) A (getAttr? (.ref x) "__class__") Q E s := by
  obtain ⟨hp, g, d, t, os⟩ := s
  have other : (onTheHeap (Value.ref D) && Value.builtin "BaseException.__getattribute__" == Value.builtin "object.__getattribute__") = false := by
    rw [show (Value.builtin "BaseException.__getattribute__" == Value.builtin "object.__getattribute__") = false by decide +kernel]
    rfl
  unfold getAttr? getAttrBy? getAttrBy
  refine wpAny_bind (wpAny_mkText (wpAny_bind (wpAny_attempt (wpAny_holding (wpAny_bind ((I.type (M := model prog w)).at (wpAny_bind ((looks_findIn (M := model prog w) X C.hg).at ?_))))))))
  show wpAny _ _ (if (onTheHeap (Value.ref D) && Value.builtin "BaseException.__getattribute__" == Value.builtin "object.__getattribute__") = true then _ else _) _ _ _
  rw [other, if_neg Bool.false_ne_true]
  unfold getAttrByItsOwn hookBefore
  rw [if_pos (show onTheHeap (Value.ref D) = true from rfl)]
  refine wpAny_bind ((looks_findIn (M := model prog w) X C.hk).at (wpAny_bind (wpAny_attempt (wpAny_holding ?_))))
  unfold callGetattribute
  rw [show (false && onTheHeap (Value.builtin "BaseException.__getattribute__")) = false from rfl, if_neg Bool.false_ne_true]
  unfold boundAndCalled
  rw [PySem.F.excAttr_ValueError.ga.bind (.ref x)]
  refine wpAny_bind (wpAny_pure ?_)
  refine reader_class C X I ?_
  first
    | exact wpAny_pure (wpAny_pure q)
    | exact wpAny_pure q
    | exact wpAny_pure (wpAny_bind (wpAny_pure (wpAny_pure q)))
    | exact q
/-- isinstance's own question, for such an error -/
theorem kit_fields (C : ExcC K D) : KitX K (.ref x) (.ref D) (fun h => InstAt h x ox D od) := by
  have place : ∃ c' d' cd' sl', K.lookup D = some ⟨c', d', .cls cd', sl'⟩ := by
    obtain ⟨cd, h, _⟩ := any_some C.hd
    unfold clsIn at h
    split at h
    · rename_i c' d' cd' sl' ho
      exact ⟨_, _, _, _, ho⟩
    · cases h
  obtain ⟨c', d', cd', sl', ho⟩ := place
  refine ⟨fun _ _ _ I => I.type, fun _ _ X _ => ?_, fun h tp dd its n sl X htp => ?_, fun X I k => asked_class C X I k⟩
  · intro A' Q' E' s' k q
    unfold isType loadHead
    exact wpAny_bind (wpAny_loadPart (k _ _ (X _ _ ho)) (wpAny_pure q))
  · refine Bool.eq_false_iff.mpr fun z => ?_
    obtain rfl : D = tp := Value.ref.inj (beq_iff_eq.mp z)
    have := (X _ _ ho).symm.trans htp
    cases this
end
theorem call_isF {X : Cx} {a D : Addr} {cls : Value} {d : Option Addr} {oe : Obj} {pn : List (Addr × Obj)} (C : ExcC X.K D) (hz : Zc cls d oe) (hf : ∃ vs, oe.data = .fields vs) : CallR (X.suite a ((a, oe) :: pn)) (.builtin "isinstance") (fun xs H Q => cls = .ref D ∧ (∃ dd fs, d = some dd ∧ H dd = some (.xd fs)) ∧ rIsE X.K D a xs H Q) := by
  intro pins s σ H xs us Q I r h
  obtain ⟨rfl, ⟨dd, fs, rfl, hdd⟩, c, cv, b, rfl, hcv, e, q⟩ := h
  cases r with
  | cons rx rr =>
    cases rr with
    | cons rt rr =>
      cases rr
      cases rx
      have ec := hcv _ rt
      subst ec
      obtain ⟨at_, _⟩ := I.pin (a, oe) (List.mem_append.mpr (.inl List.mem_cons_self))
      obtain ⟨vs, hv⟩ := hf
      obtain ⟨mA, hns, _⟩ := (I.hok dd _ hdd : ObjOk X.prog X.w H s.heap dd (.xd fs))
      obtain ⟨od, ho, _⟩ := lookIn_ns hns
      have J : PySem.W.InstAt s.heap a oe D (some od) := ⟨at_, hz.1, by unfold PySem.W.notCls; rw [hv] <;> rfl, by rw [hz.2]; exact ho⟩
      exact PySem.W.kia_one (kit_fields C) I.kIn J e (fun z => nomatch z) fun tk => ⟨.bl b, H, I.kept (t' := tk) fun _ _ z => z, rfl, q⟩
theorem call_isFT {X : Cx} {a D : Addr} {cls : Value} {d : Option Addr} {oe : Obj} {pn : List (Addr × Obj)} (C : ExcC X.K D) (hz : Zc cls d oe) (hf : ∃ vs, oe.data = .fields vs) : CallR (X.suite a ((a, oe) :: pn)) (.builtin "isinstance") (fun xs H Q => cls = .ref D ∧ (∃ dd fs, d = some dd ∧ H dd = some (.xd fs)) ∧ ∃ (tp : Addr) (cs : List V) (us : List Value) (b : Bool), xs = [.ref a, .ref tp] ∧ H tp = some (.tup cs) ∧ Paired ClsV cs us ∧ PySem.W.kitAny X.K (.ref D) us = some b ∧ Q (.bl b) H) := by
  intro pins s σ H xs us Q I r h
  obtain ⟨rfl, ⟨dd, fs, rfl, hdd⟩, tp, cs, ws, b, rfl, hT, k, e, q⟩ := h
  cases r with
  | cons rx rr =>
    cases rr with
    | cons rt rr =>
      cases rr
      cases rx
      cases rt
      obtain ⟨at_, _⟩ := I.pin (a, oe) (List.mem_append.mpr (.inl List.mem_cons_self))
      obtain ⟨vs, hv⟩ := hf
      obtain ⟨mA, hns, _⟩ := (I.hok dd _ hdd : ObjOk X.prog X.w H s.heap dd (.xd fs))
      obtain ⟨od, ho, _⟩ := lookIn_ns hns
      have J : PySem.W.InstAt s.heap a oe D (some od) := ⟨at_, hz.1, by unfold PySem.W.notCls; rw [hv] <;> rfl, by rw [hz.2]; exact ho⟩
      obtain ⟨_, its, rv, o, h1, h2, n, h3⟩ := (show ObjOk X.prog X.w H s.heap tp (.tup cs) from I.hok tp _ hT)
      have e3 := ClsV.all k rv
      subst e3
      obtain ⟨oc, od2, dt, sl⟩ := o
      simp only at h2 h3
      subst h2 h3
      exact PySem.W.kia_tup (kit_fields C) I.kIn J h1 e (fun z => nomatch z) fun tk => ⟨.bl b, H, I.kept (t' := tk) fun _ _ z => z, rfl, q⟩
theorem op_notB {X : Cx} : OpR X (compareOp .IsNot) (fun x y H Q => ∃ a b : Bool, x = .bl a ∧ y = .bl b ∧ Q (.bl (!decide (a = b))) H) := by
  intro pins s σ H x y v u Q I rx ry h
  obtain ⟨a, b, rfl, rfl, q⟩ := h
  obtain rfl : v = Value.bool a := rx
  obtain rfl : u = Value.bool b := ry
  exact wpAny_isNot_plain rfl (fin_bl I q (by cases a <;> cases b <;> rfl))
theorem op_isB {X : Cx} : OpR X (compareOp .Is) (fun x y H Q => ∃ a b : Bool, x = .bl a ∧ y = .bl b ∧ Q (.bl (decide (a = b))) H) := by
  intro pins s σ H x y v u Q I rx ry h
  obtain ⟨a, b, rfl, rfl, q⟩ := h
  obtain rfl : v = Value.bool a := rx
  obtain rfl : u = Value.bool b := ry
  exact wpAny_is_plain rfl (fin_bl I q (by cases a <;> cases b <;> rfl))
/-! ### a name told a dict written out -/
section
variable {X : Cx}
theorem ps_setDc {i : Nat} {y : Str} {py : Pos} {kx vx tg iter : Expr} {ifs : List Expr} {scope : Scope} {own : List (Str × Nat)} {pos spos : Pos} {wi : TI} {g : TG} {tt : TT} {tk tv : TE} (hc : X.calm = true) (hN : X.N.Nodup) (hy : X.N[i]? = some y) (hyl : X.env.scope.names.lookup y = some .local)
    (hsw : swapsWith (.DictComp kx vx [⟨tg, iter, ifs, 0⟩] scope pos) (some (.Name y py)) spos.line X.env = pure true) (hi : L2.PI X tg iter wi) (ok : BlkOk X.N X.env.scope scope own)
    (hg : ∀ (s : Shared) (H : Hp) (C : Addr) (cl : List (Str × Addr)) (fp : List Addr), L2.PG (X.blk s H scope (compEnvC scope cl C X.env) fp) tg g) (ht : ∀ (s : Shared) (H : Hp) (C : Addr) (cl : List (Str × Addr)) (fp : List Addr), PTs (X.blk s H scope (compEnvC scope cl C X.env) fp) ifs tt)
    (hk : ∀ (s : Shared) (H : Hp) (C : Addr) (cl : List (Str × Addr)) (fp : List Addr), L2.PE (X.blk s H scope (compEnvC scope cl C X.env) fp) kx tk)
    (he : ∀ (s : Shared) (H : Hp) (C : Addr) (cl : List (Str × Addr)) (fp : List Addr), L2.PE (X.blk s H scope (compEnvC scope cl C X.env) fp) vx tv) (hs : ∀ x, foldedSetIterable iter X.env x = pure x := by intro _; rfl) :
    PS X (.Assign [.Name y py] (.DictComp kx vx [⟨tg, iter, ifs, 0⟩] scope pos) spos) (tAsg (tDc wi g tt tk tv (own.map (·.2))) (gName i)) := by
  refine ⟨fun pins s σ H D I h => ?_⟩
  rw [exec_Assign_Name_used _ _ _ _ hsw]
  refine wpAny_bind (wpAny_standAt (wpAny_bind ?_))
  show wpAny _ X.A (do let _ ← comprehension (.DictComp kx vx [⟨tg, iter, ifs, 0⟩] scope pos) scope X.env (firstIterPos [⟨tg, iter, ifs, 0⟩] pos) newDict false (eval iter X.env) (some (assign (.Name y py) X.env))) _ _ s
  have h : tDc wi g tt tk tv (own.map (·.2)) σ H (fun x H1 => gName i x σ H1 D.nx) := h
  refine wpAny_bind (thn (dc_core (Qf := fun _ s' => SP X pins D .next s') hc hN I hi ok hg ht hk he hs h fun L C s' m H' I' q hn f => ?_) fun _ s' hq => wpAny_pure (wpAny_pure hq))
  refine wpAny_assign_Name (store_ok2 (v := V.ref L) I' hN hy (.inl hyl) rfl (fun s2 I2 ⟨a, sb, ha⟩ => ?_) (.inr hyl))
  obtain ⟨f0, f1, f2, f3, f4, f5⟩ := f
  have haC : C ≠ a := ha.elim (fun z => by rw [z]; exact f1) fun z e => f4 y a z e.symm
  exact ⟨m, hn.sameBut sb haC, fun h3 sb3 => ⟨_, H', I2.turned (t' := s2.toks) (fun b o hb e => (sb3.2 b hb).trans e) f0 f1 f3 f4 f5, q⟩⟩
theorem sw_dc {kx vx : Expr} {gs : List Comprehension} {scope : Scope} {pos py : Pos} {y : Str} {l : Nat} {env : Env} (hk : env.scope.kind = .function) (hy : env.scope.names.lookup y = some .local) (hl : (py.line == pos.line) = true)
    (ha : (scope.names.any fun (n, k) => n == y && (k == .local || k == .cell)) = false) : swapsWith (.DictComp kx vx gs scope pos) (some (.Name y py)) l env = pure true := by
  have ky : env.kindOf y = some .local := hy
  have hb : env.blockKind = .function := by unfold Env.blockKind; rw [hk]; rfl
  unfold swapsWith
  simp only [hb, ky, ha, Expr.pos, hl]
  rfl
end
/-! ### names that steps lead back to -/
/-- one or more steps from p -/
inductive OnW (st : Str → List Str) (p : Str) : Str → Prop
  | one {x : Str} : x ∈ st p → OnW st p x
  | more {x y : Str} : OnW st p x → y ∈ st x → OnW st p y
theorem OnW.inside {st : Str → List Str} {p y : Str} {S : List Str} (h0 : ∀ x ∈ st p, x ∈ S) (h1 : ∀ x ∈ S, ∀ y ∈ st x, y ∈ S) (h : OnW st p y) : y ∈ S := by
  induction h with
  | one m => exact h0 _ m
  | more _ m ih => exact h1 _ ih _ m
/-- the dict of the steps -/
abbrev stS (adr : Str → Addr) (ns : List Str) : List (Key × V) := ns.map fun z => (Sum.inr z, V.ref (adr z))
theorem stS_val {adr : Str → Addr} {ns : List Str} (z : Str) : valV (stS adr ns) (Sum.inr z) = if z ∈ ns then some (V.ref (adr z)) else none := by
  unfold valV
  rw [List.find?_map]
  have e : ((fun kv : Key × V => decide (kv.1 = Sum.inr z)) ∘ fun z => ((Sum.inr z : Key), V.ref (adr z))) = fun y => decide (y = z) := by
    funext y
    show decide ((Sum.inr y : Key) = Sum.inr z) = decide (y = z)
    by_cases h : y = z
    · rw [h, decide_eq_true rfl, decide_eq_true rfl]
    · rw [decide_eq_false h, decide_eq_false fun k => h (Sum.inr.inj k)]
  rw [e]
  induction ns with
  | nil => rfl
  | cons x r ih =>
    rw [List.find?_cons]
    by_cases h : x = z
    · subst h
      rw [decide_eq_true rfl, if_pos (List.mem_cons_self ..)]; rfl
    · rw [decide_eq_false h]
      have : (z ∈ x :: r) ↔ z ∈ r := ⟨fun k => (List.mem_cons.mp k).resolve_left fun y => h y.symm, List.mem_cons_of_mem _⟩
      by_cases k : z ∈ r
      · rw [if_pos (this.mpr k)]
        rw [if_pos k] at ih
        exact ih
      · rw [if_neg fun y => k (this.mp y)]
        rw [if_neg k] at ih
        exact ih
structure StAt (H : Hp) (d : Addr) (ns : List Str) (st : Str → List Str) : Prop where
  ex : ∃ adr : Str → Addr, H d = some (.dK (stS adr ns)) ∧ ∀ i, i ∈ ns → H (adr i) = some (.lst ((st i).map V.str))
theorem StAt.same {H H' : Hp} {d : Addr} {n : List Str} {st : Str → List Str} (a : StAt H d n st) (s : Same H H') : StAt H' d n st := by
  obtain ⟨adr, e1, e2⟩ := a.ex
  exact ⟨adr, s _ _ e1, fun i hi => s _ _ (e2 i hi)⟩
theorem StAt.get {H : Hp} {d : Addr} {n : List Str} {st : Str → List Str} (a : StAt H d n st) {p : Str} (h : p ∈ n) : ∃ l, DGet H d (.str p) (some (.ref l)) ∧ H l = some (.lst ((st p).map V.str)) := by
  obtain ⟨adr, e1, e2⟩ := a.ex
  refine ⟨adr p, ?_, e2 p h⟩
  have := DGet.k (k := Sum.inr p) e1
  rwa [stS_val, if_pos h] at this
theorem few_in {α : Type} [BEq α] [LawfulBEq α] : ∀ {l m : List α}, l.Nodup → (∀ x ∈ l, x ∈ m) → l.length ≤ m.length := by
  intro l
  induction l with
  | nil => intro _ _ _; exact Nat.zero_le _
  | cons x l ih =>
    intro m nd h
    obtain ⟨n1, n2⟩ := List.nodup_cons.mp nd
    have i := ih (m := m.erase x) n2 fun y hy => (List.mem_erase_of_ne (fun e : y = x => n1 (e ▸ hy))).mpr (h y (List.mem_cons_of_mem _ hy))
    have := List.length_erase_of_mem (h x (List.mem_cons_self ..))
    have pos : 0 < m.length := List.length_pos_of_mem (h x (List.mem_cons_self ..))
    show l.length + 1 ≤ m.length
    omega
section
variable {P : Program} {w : World} {K : PySem.W.Frag} {mg : Str → Option Value} {base : Heap}
def sp_comes_back (K : PySem.W.Frag) : Sp := fun vs H Q _ => ∃ (d : Addr) (n : List Str) (p : Str) (st : Str → List Str), vs = [.str p, .ref d] ∧ StAt H d n st ∧ p ∈ n ∧ n.length ≤ 400 ∧ (∀ i, i ∈ n → (st i).length ≤ 400 ∧ ∀ y ∈ st i, y ∈ n) ∧
  ∀ (b : Bool) (H' : Hp), (b = true ↔ OnW st p p) → Same H H' → Q (.bl b) H'
theorem ok_comes_back {f : Addr} {fd : FuncData} (F : Fun K "comes_back" "comes_back" s_comes_back f fd) (T : Top w K mg) : FnOk P w K mg base CX0 1 f fd ["place", "steps"] (sp_comes_back K) := by
  refine F.ok sc_comes_back (fun vs H Q E h => ?_) (fun cdv A outer s H vs Q E hr h => ?_)
  · obtain ⟨d, n, p, st, rfl, _⟩ := h
    rfl
  obtain ⟨d, n, p, st, rfl, hd, hp, hn, hs, q⟩ := h
  have hlt : ∀ i, i ∈ n → ∀ y ∈ st i, y ∈ n := fun i hi => (hs i hi).2
  refine ⟨_, (pss_cons (ps_set (i := 2) sc_comes_back.nd rfl (Or.inl rfl) (pe_callTy0 cr_set0K (by rfl) T.m_set (by decide +kernel)))
      (pss_cons (ps_set (i := 3) sc_comes_back.nd rfl (Or.inl rfl) (pe_callTy (call_list_ofK K rfl) (by rfl) T.m_list (by decide +kernel) (pa_cons (pe_dget (hu_of hr) (pv 1) (pv 0) (fun _ _ => rfl)) pa_nil)))
      (pss_cons (ps_while PassesOwn.never (pt_truthK K rfl (pv 3) (by intro _; rfl))
        (pss_cons (ps_set (i := 4) sc_comes_back.nd rfl (Or.inl rfl) (pe_bm0K K rfl PySem.F.plainAttrs_list PySem.F.slot_list_pop PySem.F.type_list_pop mt_pop (pv 3)))
      (pss_cons (ps_if (pt_cmpR op_eq (pv 4) (pv 0) (nomark _)) (pss_one (ps_ret pe_bl)) pss_nil)
      (pss_one (ps_if (pt_cmpR or_snotinK (pv 4) (pv 2) (by with_unfolding_all rfl)) (pss_cons (ps_expr (pe_saddK (pv 2) (pa_cons (pv 4) pa_nil)))
      (pss_one (ps_expr (pe_bmK K rfl PySem.F.plainAttrs_list PySem.F.slot_list_extend PySem.F.type_list_extend mt_extend (pv 3) (pa_cons (pe_dget (hu_of hr) (pv 1) (pv 4) (fun _ _ => rfl)) pa_nil))))) pss_nil)))))
      (pss_one (ps_ret pe_bl))))), ?_⟩
  refine ⟨rfl, fun sp nsp => ?_⟩
  have s1 : Same H (upd H sp (SetK P w sp (fun _ => false) 0)) := same_new nsp
  obtain ⟨l0, g0, hl0⟩ := (hd.same s1).get hp
  refine ⟨_, rfl, _, rfl, d, _, rfl, g0, l0, _, rfl, .inl (SqL.of hl0), fun ll nll => ?_⟩
  have s2 := s1.trans (same_new (o := .lst ((st p).map V.str)) nll)
  have nel : sp ≠ ll := fun z => by rw [← z, upd_same] at nll; cases nll
  have nll0 : H ll = none := same_none s1 nll
  let W : Nat → L2.St → Hp → Prop := fun m σ H5 => ∃ (S L : List Str) (Sf : Key → Bool) (v4 : Option V), σ = [some (.str p), some (.ref d), some (.ref sp), some (.ref ll), v4] ∧ H5 sp = some (SetK P w sp Sf S.length) ∧ H5 ll = some (.lst (L.map V.str)) ∧ Same H H5 ∧ S.Nodup ∧ (∀ x : Str, Sf (Sum.inr x) = true ↔ x ∈ S) ∧
    (∀ x ∈ S, x ∈ n ∧ x ≠ p ∧ OnW st p x) ∧ (∀ x ∈ L, x ∈ n ∧ OnW st p x) ∧ (∀ y ∈ st p, y ∈ S ∨ y ∈ L) ∧ (∀ x ∈ S, ∀ y ∈ st x, y ∈ S ∨ y ∈ L) ∧ m = 401 * (n.length - S.length) + L.length ∧ m ≤ 401 * n.length + 400
  refine ⟨W, ⟨_, [], st p, fun _ => false, _, rfl, by rw [upd_ne nel]; exact upd_same, upd_same, s2, List.nodup_nil, fun x => ⟨(fun z => nomatch z), fun z => (by cases z)⟩, (fun x z => by cases z), fun x hx => ⟨hlt p hp x hx, .one hx⟩, fun y hy => .inr hy, (fun x z => by cases z), rfl, ?_⟩, ?_⟩
  · have := (hs p hp).1
    show 401 * (n.length - 0) + _ ≤ _
    omega
  rintro m σ H5 ⟨S, L, Sf, v4, rfl, hsp, hll, s5, nd, sf, hS, hL, c0, c1, em, mb⟩
  refine ⟨_, rfl, !(L.map V.str).isEmpty, .inl ⟨_, SqL.of hll, rfl⟩, ?_⟩
  have sl := few_in nd fun x hx => (hS x hx).1
  rcases List.eq_nil_or_concat L with rfl | ⟨L', x, rfl⟩
  · show (if (false : Bool) = true then _ else _)
    rw [if_neg Bool.false_ne_true]
    refine q false H5 ⟨(fun z => nomatch z), fun z => ?_⟩ s5
    exact absurd rfl (hS p (z.inside (fun y hy => (c0 y hy).resolve_right fun z => by cases z) (fun x hx y hy => (c1 x hx y hy).resolve_right fun z => by cases z))).2.1
  have tr : (!((L'.concat x).map V.str).isEmpty) = true := by
    rw [List.concat_eq_append, List.map_append]
    cases L'.map V.str <;> rfl
  rw [List.concat_eq_append] at *
  rw [tr]
  refine if_bl (fun _ => ?_) (fun z => nomatch z)
  refine ⟨fun σ' H' => ∃ m', m' < m ∧ W m' σ' H', fun _ _ z => z, ?_⟩
  have lL : (L' ++ [x]).length = L'.length + 1 := by rw [List.length_append]; rfl
  obtain ⟨xn, xw⟩ := hL x (List.mem_append.mpr (.inr (List.mem_singleton.mpr rfl)))
  refine ⟨_, rfl, .inl ⟨rfl, _, SqL.of hll⟩, ll, _, .str x, rfl, rfl, hll, by rw [List.map_append, List.length_append, List.getElem?_append_right (by rw [List.length_map]; exact Nat.le_refl _)]; simp, ?_⟩
  have dl : ((L' ++ [x]).map V.str).dropLast = L'.map V.str := by rw [List.map_append]; exact List.dropLast_concat
  rw [dl]
  have s6 : Same H (upd H5 ll (.lst (L'.map V.str))) := Same.own s5 nll0
  have hsp6 : upd H5 ll (.lst (L'.map V.str)) sp = some (SetK P w sp Sf S.length) := by rw [upd_ne nel]; exact hsp
  have hll6 : upd H5 ll (.lst (L'.map V.str)) ll = some (.lst (L'.map V.str)) := upd_same
  generalize upd H5 ll (.lst (L'.map V.str)) = H6 at *
  refine ⟨_, rfl, _, rfl, rfl, _, rfl, if_bl (fun e => ?_) (fun e => ?_)⟩
  · have e : x = p := V.str.inj (of_decide_eq_true e)
    rw [e] at xw
    exact q true H6 ⟨fun _ => xw, fun _ => rfl⟩ s6
  have xp : x ≠ p := fun z => of_decide_eq_false e (by rw [z])
  refine ⟨_, rfl, _, rfl, Sum.inr x, sp, Sf, _, rfl, rfl, hsp6, _, rfl, if_bl (fun e => ?_) (fun e => ?_)⟩
  · have xS : x ∉ S := fun z => by
      rw [(sf x).mpr z] at e
      cases e
    have xf : Sf (Sum.inr x) = false := by
      cases h : Sf (Sum.inr x) with
      | false => rfl
      | true => exact absurd ((sf x).mp h) xS
    have nd2 : (x :: S).Nodup := List.nodup_cons.mpr ⟨xS, nd⟩
    have sl2 := few_in (m := n) nd2 fun y hy => by
      rcases List.mem_cons.mp hy with rfl | hy
      · exact xn
      · exact (hS y hy).1
    rw [List.length_cons] at sl2
    refine ⟨_, rfl, ⟨sp, _, _, rfl, hsp6⟩, _, rfl, sp, Sum.inr x, Sf, _, rfl, rfl, hsp6, by unfold scanBound; omega, ?_⟩
    rw [xf, if_neg Bool.false_ne_true]
    generalize e7 : upd H6 sp _ = H7
    have s7 : Same H H7 := by rw [← e7]; exact Same.own s6 nsp
    have hsp7 : H7 sp = some (SetK P w sp (fun j => Sf j || decide (j = Sum.inr x)) (x :: S).length) := by rw [← e7]; exact upd_same
    have hll7 : H7 ll = some (.lst (L'.map V.str)) := by rw [← e7, upd_ne (Ne.symm nel)]; exact hll6
    clear e7
    obtain ⟨lx, gx, hlx⟩ := (hd.same s7).get xn
    have sx := (hs x xn).1
    refine ⟨_, rfl, .inl ⟨rfl, _, SqL.of hll7⟩, _, rfl, _, rfl, d, _, rfl, gx, ll, lx, _, _, rfl, rfl, hll7, hlx, by rw [List.length_map, List.length_map]; rw [sizeLine_eq]; omega, ?_⟩
    refine ⟨401 * (n.length - (S.length + 1)) + (L' ++ st x).length, by rw [List.length_append]; omega, x :: S, L' ++ st x, _, _, rfl, by rw [upd_ne nel]; exact hsp7, by rw [upd_same, List.map_append], Same.own s7 nll0, nd2, fun y => ?_, fun y hy => ?_, fun y hy => ?_, fun y hy => ?_, fun z hz y hy => ?_, rfl, by rw [List.length_append]; omega⟩
    · rw [List.mem_cons]
      by_cases z : y = x
      · subst z; simp
      · have : (decide ((Sum.inr y : Key) = Sum.inr x)) = false := decide_eq_false fun e => z (Sum.inr.inj e)
        show (Sf _ || decide _) = true ↔ _
        rw [this, Bool.or_false, sf y]
        exact ⟨.inr, fun h => h.resolve_left z⟩
    · rcases List.mem_cons.mp hy with rfl | hy
      · exact ⟨xn, xp, xw⟩
      · exact hS y hy
    · rcases List.mem_append.mp hy with hy | hy
      · exact hL y (List.mem_append.mpr (.inl hy))
      · exact ⟨hlt x xn y hy, .more xw hy⟩
    · rcases c0 y hy with z | z
      · exact .inl (List.mem_cons_of_mem _ z)
      · rcases List.mem_append.mp z with z | z
        · exact .inr (List.mem_append.mpr (.inl z))
        · rw [List.mem_singleton.mp z]; exact .inl (List.mem_cons_self ..)
    · rcases List.mem_cons.mp hz with rfl | hz
      · exact .inr (List.mem_append.mpr (.inr hy))
      · rcases c1 z hz y hy with z | z
        · exact .inl (List.mem_cons_of_mem _ z)
        · rcases List.mem_append.mp z with z | z
          · exact .inr (List.mem_append.mpr (.inl z))
          · rw [List.mem_singleton.mp z]; exact .inl (List.mem_cons_self ..)
  · have xS : x ∈ S := (sf x).mp (by
      cases h : Sf (Sum.inr x) with
      | true => rfl
      | false => rw [h] at e; cases e)
    have out : ∀ y, y ∈ S ∨ y ∈ L' ++ [x] → y ∈ S ∨ y ∈ L' := fun y z => by
      rcases z with z | z
      · exact .inl z
      · rcases List.mem_append.mp z with z | z
        · exact .inr z
        · rw [List.mem_singleton.mp z]; exact .inl xS
    exact ⟨401 * (n.length - S.length) + L'.length, by omega, S, L', Sf, _, rfl, hsp6, hll6, s6, nd, sf, hS, fun y hy => hL y (List.mem_append.mpr (.inl hy)), fun y hy => out y (c0 y hy), fun z hz y hy => out y (c1 z hz y hy), rfl, by omega⟩
def FirstW (st : Str → List Str) (ps : List Str) (v : V) : Prop := (v = .non ∧ ∀ x ∈ ps, ¬ OnW st x x) ∨ ∃ (i : Nat) (x : Str), ps[i]? = some x ∧ v = .str x ∧ OnW st x x ∧ ∀ (j : Nat) (y : Str), j < i → ps[j]? = some y → ¬ OnW st y y
def sp_first_on_ring (K : PySem.W.Frag) : Sp := fun vs H Q _ => ∃ (pl d : Addr) (n : List Str) (ps : List Str) (st : Str → List Str), vs = [.ref pl, .ref d] ∧ H pl = some (.lst (ps.map V.str)) ∧ (∀ x ∈ ps, x ∈ n) ∧ StAt H d n st ∧ n.length ≤ 400 ∧ (∀ i, i ∈ n → (st i).length ≤ 400 ∧ ∀ y ∈ st i, y ∈ n) ∧
  ∀ (v : V) (H' : Hp), FirstW st ps v → Same H H' → Q v H'
theorem ok_first_on_ring {f : Addr} {fd : FuncData} (F : Fun K "first_on_ring" "first_on_ring" s_first_on_ring f fd) (T : Top w K mg) : FnOk P w K mg base CX0 2 f fd ["places", "steps"] (sp_first_on_ring K) := by
  obtain ⟨f_comes_back, fd_comes_back, F_comes_back, b_comes_back, m_comes_back⟩ := T.d_comes_back
  have G_comes_back := ok_comes_back (P := P) (w := w) (base := base) F_comes_back T
  refine F.ok sc_first_on_ring (fun vs H Q E h => ?_) (fun cdv A outer s H vs Q E hr h => ?_)
  · obtain ⟨pl, d, n, ps, st, rfl, _⟩ := h
    rfl
  obtain ⟨pl, d, n, ps, st, rfl, hpl, hps, hd, hn, hs, q⟩ := h
  refine ⟨_, (pss_cons (ps_for PassesOwn.never rfl (pi_listK K rfl (pv 0)) (pg_name (i := 2) sc_first_on_ring.nd rfl (Or.inl rfl))
        (pss_one (ps_if (pt_val (pe_call G_comes_back (hr.mono (by decide)) (by rfl) m_comes_back F_comes_back.kp b_comes_back .nil pass0 (pa_cons (pv 2) (pa_cons (pv 1) pa_nil)))) (pss_one (ps_ret (pv 2))) pss_nil)))
      (pss_one (ps_ret pe_non))), ?_⟩
  refine ⟨_, rfl, pl, rfl, ⟨_, SqL.of hpl⟩, for_list (K := K) (a := pl) (xs := ps.map V.str) (fun i σ H5 => ∃ v2 : Option V, σ = [some (.ref pl), some (.ref d), v2] ∧ Same H H5 ∧ ∀ (j : Nat) (y : Str), j < i → ps[j]? = some y → ¬ OnW st y y) ⟨_, rfl, fun _ _ e => e, fun j y h => absurd h (Nat.not_lt_zero _)⟩ (fun i σ H5 _ ⟨_, _, s5, _⟩ => SqL.of (s5 _ _ hpl)) ?_ ?_⟩
  · rintro i v σ H5 hx ⟨v2, rfl, s5, no⟩
    rw [List.getElem?_map] at hx
    cases hk : ps[i]? with
    | none => rw [hk] at hx; cases hx
    | some x =>
      rw [hk] at hx
      obtain rfl : V.str x = v := Option.some.inj hx
      refine ⟨_, rfl, _, rfl, d, n, x, st, rfl, hd.same s5, hps x (List.mem_of_getElem? hk), hn, hs, fun b H6 hb s6 => ?_⟩
      refine ⟨_, rfl, if_bl (fun e => ?_) (fun e => ?_)⟩
      · exact ⟨_, rfl, q _ H6 (.inr ⟨i, x, hk, rfl, hb.mp e, no⟩) (s5.trans s6)⟩
      · refine ⟨_, rfl, s5.trans s6, fun j y hj ey => ?_⟩
        by_cases h : j = i
        · subst h
          rw [hk] at ey
          rw [← Option.some.inj ey]
          exact fun w => by rw [hb.mpr w] at e; cases e
        · exact no j y (by omega) ey
  · rintro σ H5 ⟨v2, rfl, s5, no⟩
    refine q _ H5 (.inl ⟨rfl, fun x hx => ?_⟩) s5
    obtain ⟨j, ej⟩ := List.getElem?_of_mem hx
    exact no j x (by have := (List.getElem?_eq_some_iff.mp ej).1; rw [List.length_map]; exact this) ej
end
/-! ### trees -/
inductive W2 where
  | sum | gap | below | most | least
def W2.s : W2 → Str
  | .sum => "sum"
  | .gap => "gap"
  | .below => "below"
  | .most => "most"
  | .least => "least"
inductive Tr where
  | nm (n : Str) (k : Nat)
  | no (i : Int)
  | tm (k : Int) (t : Tr)
  | o2 (w : W2) (a b : Tr)
  | o3 (a b c : Tr)
/-- what stands ahead of the branches -/
def Tr.hd : Tr → List V
  | .nm n k => [.str "name", .str n, nV k]
  | .no i => [.str "number", .int i]
  | .tm k _ => [.str "times", .int k]
  | .o2 w _ _ => [.str w.s]
  | .o3 _ _ _ => [.str "pick"]
def Tr.kids : Tr → List Tr
  | .nm _ _ => []
  | .no _ => []
  | .tm _ t => [t]
  | .o2 _ a b => [a, b]
  | .o3 a b c => [a, b, c]
/-- all parts, each behind its branches -/
def Tr.parts : Tr → List Tr
  | .nm n k => [.nm n k]
  | .no i => [.no i]
  | .tm k t => t.parts ++ [.tm k t]
  | .o2 w a b => a.parts ++ b.parts ++ [.o2 w a b]
  | .o3 a b c => a.parts ++ b.parts ++ c.parts ++ [.o3 a b c]
theorem Tr.parts_eq (t : Tr) : t.parts = t.kids.flatMap Tr.parts ++ [t] := by
  cases t <;> simp [Tr.parts, Tr.kids]
/-- the names that a tree leans on -/
def Tr.leans : Tr → List (Str × Nat)
  | .nm n k => [(n, k)]
  | .no _ => []
  | .tm _ t => t.leans
  | .o2 _ a b => a.leans ++ b.leans
  | .o3 a b c => a.leans ++ b.leans ++ c.leans
def Tr.isNm : Tr → Bool
  | .nm _ _ => true
  | _ => false
def Tr.ofNm : Tr → Str × Nat
  | .nm n k => (n, k)
  | _ => ("", 0)
theorem Tr.leans_eq (t : Tr) : (t.parts.filter Tr.isNm).map Tr.ofNm = t.leans := by
  induction t with
  | nm n k => rfl
  | no i => rfl
  | tm k t ih => simp [Tr.parts, Tr.leans, List.filter_append, ih, Tr.isNm, List.filter_cons]
  | o2 w a b iha ihb => simp [Tr.parts, Tr.leans, List.filter_append, iha, ihb, Tr.isNm, List.filter_cons]
  | o3 a b c iha ihb ihc => simp [Tr.parts, Tr.leans, List.filter_append, iha, ihb, ihc, Tr.isNm, List.filter_cons]
def TrAt (H : Hp) : V → Tr → Prop
  | v, .nm n k => ∃ a, v = .ref a ∧ H a = some (.tup [.str "name", .str n, nV k])
  | v, .no i => ∃ a, v = .ref a ∧ H a = some (.tup [.str "number", .int i])
  | v, .tm k t => ∃ a x, v = .ref a ∧ H a = some (.tup [.str "times", .int k, x]) ∧ TrAt H x t
  | v, .o2 w s t => ∃ a x y, v = .ref a ∧ H a = some (.tup [.str w.s, x, y]) ∧ TrAt H x s ∧ TrAt H y t
  | v, .o3 s t u => ∃ a x y z, v = .ref a ∧ H a = some (.tup [.str "pick", x, y, z]) ∧ TrAt H x s ∧ TrAt H y t ∧ TrAt H z u
theorem TrAt.op {H : Hp} {v : V} {t : Tr} (h : TrAt H v t) : ∃ a ks, v = .ref a ∧ H a = some (.tup (t.hd ++ ks)) ∧ All2 (TrAt H) ks t.kids := by
  cases t with
  | nm n k => obtain ⟨a, rfl, e⟩ := h; exact ⟨a, [], rfl, e, .nil⟩
  | no i => obtain ⟨a, rfl, e⟩ := h; exact ⟨a, [], rfl, e, .nil⟩
  | tm k t => obtain ⟨a, x, rfl, e, h⟩ := h; exact ⟨a, [x], rfl, e, .cons h .nil⟩
  | o2 w s t => obtain ⟨a, x, y, rfl, e, h, g⟩ := h; exact ⟨a, [x, y], rfl, e, .cons h (.cons g .nil)⟩
  | o3 s t u => obtain ⟨a, x, y, z, rfl, e, h, g, i⟩ := h; exact ⟨a, [x, y, z], rfl, e, .cons h (.cons g (.cons i .nil))⟩
theorem TrAt.mk {H : Hp} {a : Addr} {ks : List V} {t : Tr} (e : H a = some (.tup (t.hd ++ ks))) (h : All2 (TrAt H) ks t.kids) : TrAt H (.ref a) t := by
  cases t with
  | nm n k => cases h; exact ⟨a, rfl, e⟩
  | no i => cases h; exact ⟨a, rfl, e⟩
  | tm k t => cases h with | cons x h => cases h; exact ⟨a, _, rfl, e, x⟩
  | o2 w s t => cases h with | cons x h => cases h with | cons y h => cases h; exact ⟨a, _, _, rfl, e, x, y⟩
  | o3 s t u => cases h with | cons x h => cases h with | cons y h => cases h with | cons z h => cases h; exact ⟨a, _, _, _, rfl, e, x, y, z⟩
theorem TrAt.keep {H H' : Hp} (k : TK H H') : ∀ {t : Tr} {v : V}, TrAt H v t → TrAt H' v t := by
  intro t
  induction t with
  | nm n i => intro v h; obtain ⟨a, rfl, e⟩ := h; exact ⟨a, rfl, k _ _ e⟩
  | no i => intro v h; obtain ⟨a, rfl, e⟩ := h; exact ⟨a, rfl, k _ _ e⟩
  | tm i t ih => intro v h; obtain ⟨a, x, rfl, e, h⟩ := h; exact ⟨a, x, rfl, k _ _ e, ih h⟩
  | o2 w s t i1 i2 => intro v h; obtain ⟨a, x, y, rfl, e, h, g⟩ := h; exact ⟨a, x, y, rfl, k _ _ e, i1 h, i2 g⟩
  | o3 s t u i1 i2 i3 => intro v h; obtain ⟨a, x, y, z, rfl, e, h, g, i⟩ := h; exact ⟨a, x, y, z, rfl, k _ _ e, i1 h, i2 g, i3 i⟩
/-- the word at a tree's head -/
def Tr.wd : Tr → Str
  | .nm _ _ => "name"
  | .no _ => "number"
  | .tm _ _ => "times"
  | .o2 w _ _ => w.s
  | .o3 _ _ _ => "pick"
theorem Tr.hd_wd (t : Tr) : ∃ r, t.hd = .str t.wd :: r ∧ (∀ x ∈ r, (∃ z, x = V.str z) ∨ ∃ i, x = V.int i) := by
  cases t with
  | nm n k => exact ⟨_, rfl, fun x hx => by
      rcases List.mem_cons.mp hx with rfl | hx
      · exact .inl ⟨_, rfl⟩
      · exact .inr ⟨_, List.mem_singleton.mp hx⟩⟩
  | no i => exact ⟨_, rfl, fun x hx => .inr ⟨_, List.mem_singleton.mp hx⟩⟩
  | tm k t => exact ⟨_, rfl, fun x hx => .inr ⟨_, List.mem_singleton.mp hx⟩⟩
  | o2 w a b => exact ⟨[], rfl, fun x hx => by cases hx⟩
  | o3 a b c => exact ⟨[], rfl, fun x hx => by cases hx⟩
theorem Tr.wd_nm (t : Tr) : t.isNm = decide (t.wd = "name") := by
  cases t with
  | o2 w a b => cases w <;> rfl
  | _ => rfl
theorem All2.app {α β : Type} {R : α → β → Prop} {as : List α} {bs : List β} (h : All2 R as bs) {cs : List α} {ds : List β} (g : All2 R cs ds) : All2 R (as ++ cs) (bs ++ ds) := by
  induction h with
  | nil => exact g
  | cons r _ ih => exact .cons r ih
theorem All2.rev {α β : Type} {R : α → β → Prop} {as : List α} {bs : List β} (h : All2 R as bs) : All2 R as.reverse bs.reverse := by
  induction h with
  | nil => exact .nil
  | cons r _ ih => rw [List.reverse_cons, List.reverse_cons]; exact ih.snoc r
theorem All2.unsnoc {α β : Type} {R : α → β → Prop} {b : β} : ∀ {bs : List β} {as : List α}, All2 R as (bs ++ [b]) → ∃ as' x, as = as' ++ [x] ∧ All2 R as' bs ∧ R x b
  | [], _, .cons r .nil => ⟨[], _, rfl, .nil, r⟩
  | _ :: _, _, .cons r h => by
    obtain ⟨as', x, rfl, h', r'⟩ := All2.unsnoc h
    exact ⟨_ :: as', x, rfl, .cons r h', r'⟩
/-- what is found from a stack of trees -/
def rpS (L : List Tr) : List Tr := L.reverse.flatMap fun t => t.parts.reverse
theorem rpS_snoc (L : List Tr) (t : Tr) : rpS (L ++ [t]) = t :: rpS (L ++ t.kids) := by
  unfold rpS
  rw [List.reverse_append, List.reverse_append, List.flatMap_append, List.flatMap_append]
  show [t].reverse.flatMap _ ++ _ = _
  rw [List.reverse_singleton, List.flatMap_singleton, Tr.parts_eq, List.reverse_append, List.reverse_singleton]
  have : ∀ l : List Tr, (l.flatMap Tr.parts).reverse = l.reverse.flatMap fun t => t.parts.reverse := by
    intro l
    induction l with
    | nil => rfl
    | cons x r ih => rw [List.flatMap_cons, List.reverse_append, ih, List.reverse_cons, List.flatMap_append, List.flatMap_singleton]
  rw [this]
  rfl
/-- the things that are no texts and no numbers -/
def refB : V → Bool
  | .ref _ => true
  | _ => false
theorem refB_kids {H : Hp} {ks : List V} {ts : List Tr} (h : All2 (TrAt H) ks ts) : ks.filter refB = ks := by
  induction h with
  | nil => rfl
  | cons r _ ih =>
    obtain ⟨a, _, rfl, _⟩ := r.op
    rw [List.filter_cons, if_pos (show refB (.ref a) = true from rfl), ih]
theorem refB_hd {r : List V} (sort : ∀ x ∈ r, (∃ z, x = V.str z) ∨ ∃ i, x = V.int i) : r.filter refB = [] := by
  rw [List.filter_eq_nil_iff]
  intro x hx
  rcases sort x hx with ⟨z, rfl⟩ | ⟨i, rfl⟩ <;> exact fun z => nomatch z
theorem Tr.kids_len (t : Tr) : t.kids.length ≤ 3 := by cases t <;> simp [Tr.kids]
section
variable {P : Program} {w : World} {K : PySem.W.Frag} {mg : Str → Option Value} {base : Heap}
theorem kit_tupS {K : PySem.W.Frag} : PySem.W.kitOne K (.type "str") (.type "tuple") = some false := kit_ty (by decide +kernel)
theorem kit_tupI {K : PySem.W.Frag} : PySem.W.kitOne K (.type "int") (.type "tuple") = some false := kit_ty (by decide +kernel)
theorem kit_tupT {K : PySem.W.Frag} : PySem.W.kitOne K (.type "tuple") (.type "tuple") = some true := kit_ty (by decide +kernel)
def sp_tree_parts (K : PySem.W.Frag) : Sp := fun vs H Q _ => ∃ (v : V) (t : Tr), vs = [v] ∧ TrAt H v t ∧ t.parts.length ≤ 400 ∧ ∀ (p : Addr) (l : List V) (H' : Hp), H p = none → H' p = some (.lst l) → All2 (TrAt H') l t.parts → Same H H' → Q (.ref p) H'
theorem ok_tree_parts {f : Addr} {fd : FuncData} (F : Fun K "tree_parts" "tree_parts" s_tree_parts f fd) (T : Top w K mg) : FnOk P w K mg base CX0 1 f fd ["tree"] (sp_tree_parts K) := by
  refine F.ok sc_tree_parts (fun vs H Q E h => ?_) (fun cdv A outer s H vs Q E hr h => ?_)
  · obtain ⟨v, t, rfl, _⟩ := h
    rfl
  obtain ⟨v, t, rfl, ht, hl, q⟩ := h
  refine ⟨_, (pss_cons (ps_set (i := 1) sc_tree_parts.nd rfl (Or.inl rfl) (pe_lst pa_nil))
      (pss_cons (ps_set (i := 2) sc_tree_parts.nd rfl (Or.inl rfl) (pe_lst (pa_cons (pv 0) pa_nil)))
      (pss_cons (ps_while PassesOwn.never (pt_truthK K rfl (pv 2) (by intro _; rfl))
        (pss_cons (ps_set (i := 3) sc_tree_parts.nd rfl (Or.inl rfl) (pe_bm0K K rfl PySem.F.plainAttrs_list PySem.F.slot_list_pop PySem.F.type_list_pop mt_pop (pv 2)))
      (pss_cons (ps_expr (pe_bmK K rfl PySem.F.plainAttrs_list PySem.F.slot_list_append PySem.F.type_list_append mt_append (pv 1) (pa_cons (pv 3) pa_nil)))
      (pss_one (ps_expr (pe_bmK K rfl PySem.F.plainAttrs_list PySem.F.slot_list_extend PySem.F.type_list_extend mt_extend (pv 2) (pa_cons (pe_lc (own := [("branch", 4)]) (g := gName 4) (by rfl) sc_tree_parts.nd (pi_tupK K rfl (pe_slice (sl_tupAK K rfl) (pv 3) (po_some pe_int) po_none)) (blkOk_by (own := [("branch", 4)]) (N := N_tree_parts) (sc := defScope s_tree_parts) (by decide +kernel)) (fun _ _ _ _ _ => (pg_name (i := 4) sc_tree_parts.nd rfl (Or.inl rfl))) (fun _ _ _ _ _ => pts_one (pt_val (pe_callB (call_isiKK K rfl) (by rfl) T.m_isinstance (by decide +kernel) (pa_cons (pv 4) (pa_cons (pe_bltn (v := .ty "tuple") (by rfl) T.m_tuple (by decide +kernel) rfl) pa_nil))))) (fun _ _ _ _ _ => (pv 4))) pa_nil)))))))
      (pss_one (ps_ret (pe_revLK K rfl (pv 1))))))), ?_⟩
  refine ⟨(by show 0 ≤ sizeLine; decide), fun fl nfl => ?_⟩
  have s1 : Same H (upd H fl (.lst [])) := same_new nfl
  refine ⟨_, rfl, (by show 1 ≤ sizeLine; decide), fun ll nll => ?_⟩
  have s2 := s1.trans (same_new (o := .lst [v]) nll)
  have nel : fl ≠ ll := fun z => by rw [← z, upd_same] at nll; cases nll
  have nll0 : H ll = none := same_none s1 nll
  let W : Nat → L2.St → Hp → Prop := fun m σ H5 => ∃ (fv lv : List V) (F L : List Tr) (v3 : Option V), σ = [some v, some (.ref fl), some (.ref ll), v3, none] ∧ H5 fl = some (.lst fv) ∧ H5 ll = some (.lst lv) ∧ Same H H5 ∧ All2 (TrAt H5) fv F ∧ All2 (TrAt H5) lv L ∧ F ++ rpS L = t.parts.reverse ∧ m = (rpS L).length
  refine ⟨W, ⟨_, [], [v], [], [t], none, rfl, by rw [upd_ne nel]; exact upd_same, upd_same, s2, .nil, .cons (ht.keep (TK.same s2)) .nil, ?_, rfl⟩, ?_⟩
  · unfold rpS
    rw [List.reverse_singleton, List.flatMap_singleton]
    rfl
  rintro m σ H5 ⟨fv, lv, F, L, v3, rfl, hfl, hll, s5, aF, aL, eq, em⟩
  have lenE := congrArg List.length eq
  rw [List.length_append, List.length_reverse] at lenE
  refine ⟨_, rfl, !lv.isEmpty, .inl ⟨_, SqL.of hll, rfl⟩, ?_⟩
  rcases List.eq_nil_or_concat L with rfl | ⟨L', x, rfl⟩
  · cases aL
    show (if (false : Bool) = true then _ else _)
    rw [if_neg Bool.false_ne_true]
    refine ⟨_, rfl, fl, fv, rfl, SqL.of hfl, fun p np => ?_⟩
    have s6 : Same H5 (upd H5 p (.lst fv.reverse)) := same_new np
    have eF : F = t.parts.reverse := by
      have : rpS [] = [] := rfl
      rwa [this, List.append_nil] at eq
    have := aF.rev
    rw [eF, List.reverse_reverse] at this
    exact q p _ _ (same_none s5 np) upd_same (this.imp fun _ _ z => z.keep (TK.same s6)) (s5.trans s6)
  rw [List.concat_eq_append] at *
  obtain ⟨lv', y, rfl, aL', hy⟩ := aL.unsnoc
  have tr : (!(lv' ++ [y]).isEmpty) = true := by cases lv' <;> rfl
  rw [tr]
  refine if_bl (fun _ => ?_) (fun z => nomatch z)
  refine ⟨fun σ' H' => ∃ m', m' < m ∧ W m' σ' H', fun _ _ z => z, ?_⟩
  refine ⟨_, rfl, .inl ⟨rfl, _, SqL.of hll⟩, ll, _, y, rfl, rfl, hll, by simp, ?_⟩
  rw [List.dropLast_concat]
  have s6 : Same H (upd H5 ll (.lst lv')) := Same.own s5 nll0
  have k6 : TK H5 (upd H5 ll (.lst lv')) := TK.lst hll
  have hfl6 : upd H5 ll (.lst lv') fl = some (.lst fv) := by rw [upd_ne nel]; exact hfl
  have hll6 : upd H5 ll (.lst lv') ll = some (.lst lv') := upd_same
  replace aF := aF.imp fun _ _ z => z.keep k6
  replace aL' := aL'.imp fun _ _ z => z.keep k6
  replace hy := hy.keep k6
  generalize upd H5 ll (.lst lv') = H6 at *
  have lF := aF.length
  rw [rpS_snoc] at eq em lenE
  rw [List.length_cons] at em lenE
  refine ⟨_, rfl, .inl ⟨rfl, _, SqL.of hfl6⟩, _, rfl, fl, _, _, rfl, rfl, hfl6, small1000 (by omega), ?_⟩
  have s7 : Same H (upd H6 fl (.lst (fv ++ [y]))) := Same.own s6 nfl
  have k7 : TK H6 (upd H6 fl (.lst (fv ++ [y]))) := TK.lst hfl6
  have hfl7 : upd H6 fl (.lst (fv ++ [y])) fl = some (.lst (fv ++ [y])) := upd_same
  have hll7 : upd H6 fl (.lst (fv ++ [y])) ll = some (.lst lv') := by rw [upd_ne nel.symm]; exact hll6
  replace aF := (aF.snoc hy).imp fun _ _ z => z.keep k7
  replace aL' := aL'.imp fun _ _ z => z.keep k7
  replace hy := hy.keep k7
  generalize upd H6 fl (.lst (fv ++ [y])) = H7 at *
  obtain ⟨a, ks, rfl, ha, ak⟩ := hy.op
  obtain ⟨r, er, sort⟩ := x.hd_wd
  refine ⟨_, rfl, .inl ⟨rfl, _, SqL.of hll7⟩, _, rfl, _, rfl, ?_⟩
  dsimp only [tNoPart]
  refine slA_of ha fun p8 H8 h8 s8 => ?_
  rw [show (1 : Int) = ((1 : Nat) : Int) from rfl, cut_drop, er, List.cons_append, List.drop_succ_cons, List.drop_zero] at h8
  refine ⟨p8, rfl, ⟨_, SqT.of h8⟩, fun D nD => ?_⟩
  have mD : D ≠ ll := fun z => by rw [z, s8 _ _ hll7] at nD; cases nD
  refine lc_tup (K := K) (a := p8) (xs := r ++ ks) (fun i H9 => H9 D = some (.lst (((r ++ ks).take i).filter refB)) ∧ Same H8 H9) ⟨upd_same, same_new nD⟩ (fun i H9 _ ⟨_, s9⟩ => SqT.of (s9 _ _ h8)) ?_ ?_
  · rintro i z H9 hz ⟨hD, s9⟩
    refine ⟨rfl, ?_⟩
    have zm : (∃ y, z = V.str y) ∨ (∃ y, z = V.int y) ∨ ∃ b u, z = V.ref b ∧ TrAt H9 (.ref b) u := by
      rcases List.mem_append.mp (List.mem_of_getElem? hz) with m | m
      · rcases sort z m with y | y
        · exact .inl y
        · exact .inr (.inl y)
      · obtain ⟨j, hj⟩ := List.getElem?_of_mem m
        obtain ⟨u, _, hu⟩ := ak.getL hj
        obtain ⟨b, _, rfl, _⟩ := hu.op
        exact .inr (.inr ⟨b, u, rfl, hu.keep (TK.same (s8.trans s9))⟩)
    have tk : (r ++ ks).take (i + 1) = (r ++ ks).take i ++ [z] := by rw [List.take_add_one, hz]; rfl
    rcases zm with ⟨y, rfl⟩ | ⟨y, rfl⟩ | ⟨b, u, rfl, hu⟩
    · refine ⟨_, rfl, _, _, _, _, _, rfl, .ty "tuple", .base (.str _), kit_tupS, _, rfl, ?_⟩
      refine ⟨?_, s9⟩
      rw [hD, tk, List.filter_append]
      rw [show [V.str y].filter refB = [] from rfl, List.append_nil]
    · refine ⟨_, rfl, _, _, _, _, _, rfl, .ty "tuple", .base (.int _), kit_tupI, _, rfl, ?_⟩
      refine ⟨?_, s9⟩
      rw [hD, tk, List.filter_append]
      rw [show [V.int y].filter refB = [] from rfl, List.append_nil]
    · obtain ⟨_, k2, e2, hb, _⟩ := hu.op
      cases e2
      refine ⟨_, rfl, _, _, _, _, _, rfl, .ty "tuple", .base (.tup hb), kit_tupT, _, rfl, ?_⟩
      refine ⟨_, rfl, _, hD, ?_, ?_⟩
      · have : ((((r ++ ks).take i).filter refB)).length ≤ (r ++ ks).length := Nat.le_trans (List.length_filter_le ..) (by rw [List.length_take]; omega)
        rw [List.length_append] at this
        have l1 : r.length ≤ 3 := by
          have := congrArg List.length er
          have h3 : x.hd.length ≤ 3 := by cases x <;> simp [Tr.hd]
          rw [this, List.length_cons] at h3
          omega
        have l2 := ak.length
        have l3 := x.kids_len
        exact Nat.lt_of_le_of_lt this (small1000 (by omega))
      · refine ⟨?_, Same.own s9 nD⟩
        rw [upd_same, tk, List.filter_append]
        rfl
  rintro H9 ⟨hD, s9⟩
  rw [List.take_length, List.filter_append, refB_hd sort, List.nil_append, refB_kids ak] at hD
  have s79 := s8.trans s9
  have hll9 := s79 _ _ hll7
  refine ⟨ll, D, _, _, rfl, rfl, hll9, hD, ?_, ?_⟩
  · have l1 := aL'.length
    have l2 := ak.length
    have l3 := x.kids_len
    have l4 : L'.length ≤ (rpS (L' ++ x.kids)).length := by
      have : ∀ l : List Tr, l.length ≤ (rpS l).length := by
        intro l
        unfold rpS
        have key : ∀ m : List Tr, m.length ≤ (m.flatMap fun t => t.parts.reverse).length := by
          intro m
          induction m with
          | nil => exact Nat.le_refl _
          | cons y m ih =>
            rw [List.flatMap_cons, List.length_append, List.length_cons, List.length_reverse, Tr.parts_eq, List.length_append]
            have : [y].length = 1 := rfl
            omega
        have := key l.reverse
        rwa [List.length_reverse] at this
      have := this (L' ++ x.kids)
      rw [List.length_append] at this
      omega
    rw [sizeLine_eq]
    omega
  have k9 : TK H7 (upd H9 ll (.lst (lv' ++ ks))) := (TK.same s79).trans (TK.lst hll9)
  refine ⟨(rpS (L' ++ x.kids)).length, by omega, fv ++ [.ref a], lv' ++ ks, F ++ [x], L' ++ x.kids, _, rfl, by rw [upd_ne nel]; exact s79 _ _ hfl7, upd_same, Same.own (s7.trans s79) nll0, aF.imp fun _ _ z => z.keep k9, (aL'.app ak).imp fun _ _ z => z.keep k9, ?_, rfl⟩
  rw [← eq, List.append_assoc]; rfl
/-- a list of what is leant on -/
def LnAt (H : Hp) (v : V) (p : Str × Nat) : Prop := ∃ a, v = .ref a ∧ H a = some (.tup [.str p.1, nV p.2])
theorem LnAt.keep {H H' : Hp} {v : V} {p : Str × Nat} (h : LnAt H v p) (k : TK H H') : LnAt H' v p := by
  obtain ⟨a, rfl, e⟩ := h
  exact ⟨a, rfl, k _ _ e⟩
def sp_leanings (K : PySem.W.Frag) : Sp := fun vs H Q _ => ∃ (v : V) (t : Tr), vs = [v] ∧ TrAt H v t ∧ t.parts.length ≤ 400 ∧ ∀ (p : Addr) (l : List V) (H' : Hp), H p = none → H' p = some (.lst l) → All2 (LnAt H') l t.leans → Same H H' → Q (.ref p) H'
theorem ok_leanings {f : Addr} {fd : FuncData} (F : Fun K "leanings" "leanings" s_leanings f fd) (T : Top w K mg) : FnOk P w K mg base CX0 2 f fd ["tree"] (sp_leanings K) := by
  obtain ⟨f_tree_parts, fd_tree_parts, F_tree_parts, b_tree_parts, m_tree_parts⟩ := T.d_tree_parts
  have G_tree_parts := ok_tree_parts (P := P) (w := w) (base := base) F_tree_parts T
  refine F.ok sc_leanings (fun vs H Q E h => ?_) (fun cdv A outer s H vs Q E hr h => ?_)
  · obtain ⟨v, t, rfl, _⟩ := h
    rfl
  obtain ⟨v, t, rfl, ht, hl, q⟩ := h
  refine ⟨_, (pss_one (ps_ret (pe_lc (own := [("part", 1)]) (g := gName 1) (by rfl) sc_leanings.nd (pi_listK K rfl (pe_call G_tree_parts (hr.mono (by decide)) (by rfl) m_tree_parts F_tree_parts.kp b_tree_parts .nil pass0 (pa_cons (pv 0) pa_nil))) (blkOk_by (own := [("part", 1)]) (N := N_leanings) (sc := defScope s_leanings) (by decide +kernel)) (fun _ _ _ _ _ => (pg_name (i := 1) sc_leanings.nd rfl (Or.inl rfl))) (fun _ _ _ _ _ => pts_one (pt_cmpR op_eq (pe_ix (ix_tupK K rfl) (pv 1) pe_int (fun _ _ => rfl)) pe_str (nomark _))) (fun _ _ _ _ _ => (pe_tup (pa_cons (pe_ix (ix_tupK K rfl) (pv 1) pe_int (fun _ _ => rfl)) (pa_cons (pe_ix (ix_tupK K rfl) (pv 1) pe_int (fun _ _ => rfl)) pa_nil))))))), ?_⟩
  refine ⟨_, rfl, v, t, rfl, ht, hl, fun p1 pv1 H1 n1 h1 al s1 => ?_⟩
  refine ⟨_, rfl, ⟨_, SqL.of h1⟩, fun D nD => ?_⟩
  refine lc_list (K := K) (a := p1) (xs := pv1) (fun i H9 => ∃ lv, H9 D = some (.lst lv) ∧ All2 (LnAt H9) lv (((t.parts.take i).filter Tr.isNm).map Tr.ofNm) ∧ Same H1 H9) ⟨[], upd_same, .nil, same_new nD⟩ (fun i H9 _ ⟨_, _, _, s9⟩ => SqL.of (s9 _ _ h1)) ?_ ?_
  · rintro i z H9 hz ⟨lv, hD, al9, s9⟩
    refine ⟨rfl, ?_⟩
    obtain ⟨u, hu, tu⟩ := al.getL hz
    have tk : t.parts.take (i + 1) = t.parts.take i ++ [u] := by rw [List.take_add_one, hu]; rfl
    replace tu := tu.keep (TK.same s9)
    obtain ⟨a, ks, rfl, ha, ak⟩ := tu.op
    obtain ⟨r, er, sort⟩ := u.hd_wd
    have ha0 := ha
    rw [er, List.cons_append] at ha
    refine ⟨_, rfl, a, _, _, _, rfl, rfl, SqT.of ha, atI_nat (j := 0) rfl, rfl, _, rfl, ?_⟩
    by_cases hw : u.wd = "name"
    · have un : u.isNm = true := by rw [u.wd_nm, decide_eq_true hw]
      cases u with
      | nm n k =>
        rw [decide_eq_true (show V.str (Tr.nm n k).wd = V.str "name" from rfl)]
        refine if_bl (fun _ => ?_) (fun z => nomatch z)
        have ha : H9 a = some (.tup ([.str "name", .str n, nV k] ++ ks)) := ha0
        refine ⟨_, rfl, a, _, _, _, rfl, rfl, SqT.of ha, atI_nat (j := 1) rfl, _, rfl, a, _, _, _, rfl, rfl, SqT.of ha, atI_nat (j := 2) rfl, (by show 2 ≤ sizeLine; decide), fun p2 np2 => ?_⟩
        have s10 : Same H9 (upd H9 p2 (.tup [.str n, nV k])) := same_new np2
        have nDp : D ≠ p2 := fun z => by rw [← z, hD] at np2; cases np2
        have ll := al9.length
        have ll2 : (((t.parts.take i).filter Tr.isNm).map Tr.ofNm).length ≤ 400 := by
          rw [List.length_map]
          exact Nat.le_trans (List.length_filter_le ..) (by rw [List.length_take]; omega)
        refine ⟨lv, s10 _ _ hD, small1000 (by omega), lv ++ [.ref p2], upd_same, ?_, Same.own (s9.trans s10) nD⟩
        rw [tk, List.filter_append, List.map_append]
        have kk : TK H9 (upd (upd H9 p2 (.tup [.str n, nV k])) D (.lst (lv ++ [.ref p2]))) := (TK.same s10).trans (TK.lst (s10 _ _ hD))
        exact (al9.imp fun _ _ z => z.keep kk).snoc ⟨p2, rfl, by rw [upd_ne nDp.symm]; exact upd_same⟩
      | _ => cases un
    · have un : u.isNm = false := by rw [u.wd_nm, decide_eq_false hw]
      rw [decide_eq_false (show ¬ V.str u.wd = V.str "name" from fun z => hw (V.str.inj z))]
      refine if_bl (fun z => nomatch z) (fun _ => ?_)
      refine ⟨lv, hD, ?_, s9⟩
      rw [tk, List.filter_append, List.filter_cons, un]
      simpa using al9
  rintro H9 ⟨lv, hD, al9, s9⟩
  rw [al.length, List.take_length, t.leans_eq] at al9
  exact q D lv H9 (same_none s1 nD) hD al9 (s1.trans s9)
end
/-! ### set(xs), xs a list of texts -/
def anyK (l : List Key) (k : Key) : Bool := l.any fun j => decide (j = k)
theorem anyK_iff {l : List Key} {k : Key} : anyK l k = true ↔ k ∈ l := by
  unfold anyK
  rw [List.any_eq_true]
  exact ⟨fun ⟨j, hj, e⟩ => of_decide_eq_true e ▸ hj, fun h => ⟨k, h, decide_eq_true rfl⟩⟩
theorem anyK_congr {l m : List Key} {k : Key} (h : k ∈ l ↔ k ∈ m) : anyK l k = anyK m k := Bool.eq_iff_iff.mpr (anyK_iff.trans (h.trans anyK_iff.symm))
/-- how many different keys -/
def metK : List Key → Nat
  | [] => 0
  | x :: r => if anyK r x = true then metK r else metK r + 1
theorem metK_le : ∀ l : List Key, metK l ≤ l.length
  | [] => Nat.le_refl _
  | x :: r => by
    have := metK_le r
    unfold metK
    rw [List.length_cons]
    split <;> omega
section
open PySem.F
variable {prog : Program} {w : World}
theorem setOf_eq {h : Heap} {a : Addr} {S T : Key → Bool} {n m : Nat} (hs : h.SetOf (mixKind prog w) a S n) (e : ∀ k, S k = T k) (en : n = m) : h.SetOf (mixKind prog w) a T m := by
  cases funext e
  cases en
  exact hs
/-- the keys of a list go into a set, one after the other; met: those that are in, the last first -/
theorem keys_in {A : Around} {R : Result → Shared → Prop} {it tgt : Addr} {fp wr : List Addr} {G : Array GenState → Array GenState → Prop} {St : Nat → Shared → Prop} {ks : List Key} {Pv : Nat → Value → Prop} (walk : WalksS prog w A.in1 it fp wr G ks.length Pv St) (apart : tgt ∉ fp)
    (is : ∀ i v, Pv i v → ∃ k, ks[i]? = some k ∧ RelV (kV k) v) (few : ks.length + 1 < scanBound) : ∀ (left met : List Key) (s0 : Shared), met.reverse ++ left = ks → St met.length s0 → s0.heap.SetOf (mixKind prog w) tgt (anyK met) (metK met) →
      (∀ s', Moved (tgt :: wr) G s0 s' → s'.heap.SetOf (mixKind prog w) tgt (anyK ks) (metK ks.reverse) → R (.ok (.ret .none)) s') → codeAny (model prog w) A (.builtin "set.update.loop" ⟨[.ref tgt, .ref it], []⟩) R s0 := by
  have other : tgt ∉ wr := fun z => apart (walk.sub _ z)
  have stands : ∀ {s1 s2 : Shared} {S : Key → Bool} {n : Nat}, Moved wr G s1 s2 → s1.heap.SetOf (mixKind prog w) tgt S n → s2.heap.SetOf (mixKind prog w) tgt S n := fun {s1 s2 S n} mv ⟨o, es, ep, t, at_, more⟩ => ⟨o, es, ep, t, mv.heap tgt o other at_, more⟩
  have wide : ∀ b ∈ wr, b ∈ tgt :: wr := fun b h => List.mem_cons.mpr (.inr h)
  intro left
  induction left with
  | nil =>
    intro met s0 e st hs post
    have e1 : met.reverse = ks := by rw [← e, List.append_nil]
    have e2 : met.length = ks.length := by rw [← e1, List.length_reverse]
    refine codeAny_builtin PyProof.Rows.F.entry_set_update_loop ?_
    rw [Around.under_plainId PyProof.Rows.F.plain_set_update_loop _]
    show wpAny _ A.in1 (pyNext (.ref it) >>= _) _ _ s0
    rw [e2] at st
    refine wpAny_bind (walk.done s0 _ _ st fun s' mv => ?_)
    have e3 : met = ks.reverse := by rw [← e1, List.reverse_reverse]
    have full : s'.heap.SetOf (mixKind prog w) tgt (anyK ks) (metK ks.reverse) := setOf_eq (stands mv hs) (fun k => anyK_congr (by rw [← e1, List.mem_reverse])) (by rw [e3])
    show wpAny _ A.in1 (ret Value.none) _ _ s'
    exact wpAny_pure (post s' (mv.mono wide) full)
  | cons k left ih =>
    intro met s0 e st hs post
    have lk := congrArg List.length e
    rw [List.length_append, List.length_reverse, List.length_cons] at lk
    have at_k : ks[met.length]? = some k := by
      rw [← e, List.getElem?_append_right (by rw [List.length_reverse]; exact Nat.le_refl _), List.length_reverse, Nat.sub_self]
      rfl
    refine codeAny_builtin PyProof.Rows.F.entry_set_update_loop ?_
    rw [Around.under_plainId PyProof.Rows.F.plain_set_update_loop _]
    show wpAny _ A.in1 (pyNext (.ref it) >>= _) _ _ s0
    refine wpAny_bind (walk.item met.length s0 _ _ (by omega) st fun v s1 pv st1 mv => ?_)
    obtain ⟨k', ek, rv⟩ := is _ v pv
    rw [at_k] at ek
    obtain rfl := Option.some.inj ek
    have hs1 := stands mv hs
    show wpAny _ A.in1 (holding [v] (setAdd tgt v) >>= _) _ _ s1
    refine wpAny_bind (wpAny_holding ?_)
    unfold setAdd
    refine wpAny_holding (wpAny_bind ((mixKind prog w).pyHash (kV_is rv) ?_))
    have few1 : metK met + 1 < scanBound := by
      have := metK_le met
      omega
    refine wpAny_setAddHashed_of (s := { s1 with toks := s1.toks + 1 }) (kV_is rv) (key_scan rv) hs1 few1 fun h2 but hs2 => ?_
    have hs3 : h2.SetOf (mixKind prog w) tgt (anyK (k :: met)) (metK (k :: met)) := by
      refine setOf_eq hs2 (fun j => ?_) ?_
      · show (anyK met j || decide (j = k)) = (decide (k = j) || anyK met j)
        rw [Bool.or_comm, show decide (j = k) = decide (k = j) from decide_eq_decide.mpr ⟨Eq.symm, Eq.symm⟩]
      · rfl
    have rest : ∀ {b : Addr} {o : Obj}, b ≠ tgt → s1.heap.get? b = some o → h2.get? b = some o := fun {b o} ne e => by rw [but.2 b ne]; exact e
    refine wpAny_pure ⟨plainId_quiet PyProof.Rows.F.plain_set_update_loop _, ih (k :: met) _ ?_ ?_ hs3 fun s2 mv2 done => ?_⟩
    · rw [← e, List.reverse_cons, List.append_assoc]; rfl
    · exact walk.frame _ s1 _ _ st1 (Nat.le_succ _) fun b hb o eo => rest (fun z => apart (z ▸ hb)) eo
    · refine post s2 (Moved.trans walk.gtrans ((mv.mono wide).then_heap (Nat.le_succ _) fun b o hb eo => ?_) mv2) done
      exact rest (fun z => hb (z ▸ List.mem_cons_self ..)) eo
end

section
variable {prog : Program} {w : World} {A : Around} {E : Value → Shared → Prop} {s : Shared}
set_option maxHeartbeats 3200000 in
/-- set(xs): a new set of the keys of xs -/
theorem set_of_keys {l : Addr} {its : Array Value} {ks : List Key} {Q : Value → Shared → Prop} (calm : A.handled = none) (hl : s.heap.IsList l its) (rel : ∀ (i : Nat) (v : Value), its[i]? = some v → ∃ k, ks[i]? = some k ∧ RelV (kV k) v) (same : its.size = ks.length) (few : ks.length + 1 < scanBound)
    (post : ∀ (h' : Heap) (tk : Nat), h'.SetOf (mixKind prog w) s.heap.objs.size (anyK ks) (metK ks.reverse) → (∀ b o, s.heap.get? b = some o → h'.get? b = some o) → Q (.ref s.heap.objs.size) { s with heap := h', toks := tk }) :
    wpAny (model prog w) A (call (.type "set") [.ref l]) Q E s := by
  have ⟨_, _, order⟩ := PySem.F.called_set.mro
  have f1 := PySem.F.called_set.made
  have f2 := PySem.F.called_set.sub
  have f3 := PySem.F.called_set.notType
  have f4 := PySem.F.called_set.canCreate
  have f5 := PySem.F.typeCall_set_1 (.ref l)
  refine wpAny_call (codeAny_of_tree ?_)
  show wpAny _ _ (callAny (.type "set") _) _ _ _
  refine wpAny_pure ⟨Code.quiet_builtin _ (by decide +kernel), codeAny_builtin PySem.F.entry_type_call ?_⟩
  rw [Around.under_plain (weight_type_call_type "set" [.ref l] []) rfl]
  repeat (any_goals (first | assumption | wp_step))
  let new (led : Bool) : Obj := { cls := .type "set", dict := none, data := .set #[] 0 (.fresh 0 0 led) }
  refine codeAny_mono (code_set_new_1 (.ref l) (E := E) (Q₁ := fun x s1 => ∃ led, x = .ref s.heap.objs.size ∧ s1 = { s with heap := s.heap.push (new led) }) fun led => ⟨led, rfl, rfl⟩) fun res s1 out => ?_
  match res, out with
  | .error _, out => exact out
  | .ok .next, out => exact out.elim
  | .ok .brk, out => exact out.elim
  | .ok .cont, out => exact out.elim
  | .ok (.ret x), ⟨led, ex, es⟩ =>
    subst ex es
    have at_ : (s.heap.push (new led)).get? s.heap.objs.size = some (new led) := Heap.get?_push_size _ rfl
    have ty : Shared.TypeIs { s with heap := s.heap.push (new led) } (.ref s.heap.objs.size) "set" := ⟨_, at_, rfl⟩
    have g1 := PySem.F.called_set.init.lookup
    have g2 := PySem.F.called_set.init.bind (.ref s.heap.objs.size)
    repeat (any_goals (first | assumption | wp_step))
    refine codeAny_mono (codeAny_call_builtin (R := wants (fun x s2 => x = .none ∧ ∃ h' tk, s2 = { s with heap := h', toks := tk } ∧ h'.SetOf (mixKind prog w) s.heap.objs.size (anyK ks) (metK ks.reverse) ∧ ∀ b o, s.heap.get? b = some o → h'.get? b = some o) E)
      PySem.F.called_set.init.plain PySem.F.entry_set_init (check_set_init_1 ty ?_)) fun res2 s2 out2 => ?_
    · have ⟨⟨cls, dct, dat, sl⟩, hol, hc, ver, hd⟩ := hl
      simp only at hc hd
      subst hc hd
      have below := Heap.lt_size hol
      have list1 := Heap.get?_push_of_some (new led) hol
      have k1 := PySem.F.sub_list_set
      have k2 := PySem.F.sub_list_frozenset
      have k3 : (Value.type "list" == Value.type "dict") = false := by decide
      have isl : (s.heap.push (new led)).IsList l its := ⟨_, list1, rfl, ver, rfl⟩
      unfold Builtin.«set.__init__» noKeywords Builtin.Frozenset.updateFrom
      generalize hI : pyIter = I
      wp_walk
      subst hI
      refine wpAny_pyIter_list isl (wpAny_bind (wpAny_runValue ?_))
      have size1 : (s.heap.push (new led)).objs.size = s.heap.objs.size + 1 := Heap.size_push ..
      have ne1 : l ≠ (s.heap.push (new led)).objs.size := by rw [size1]; exact Nat.ne_of_lt (Nat.lt_succ_of_lt below)
      have ne2 : s.heap.objs.size ∉ [(s.heap.push (new led)).objs.size, l] := by
        rw [size1]
        intro z
        rcases List.mem_cons.mp z with z | z
        · exact Nat.ne_of_lt (Nat.lt_succ_self _) z
        · exact absurd (List.mem_singleton.mp z) (Nat.ne_of_gt below)
      have walk := (Walks.list (A := A.in1.in1.in1) (prog := prog) (w := w) (by simp [calm]) _ l ne1 its).toS
      rw [same] at walk
      refine keys_in (ks := ks) walk ne2 (fun i v e => rel i v e) few ks [] _ rfl ⟨⟨_, Heap.get?_push_size _ rfl, rfl, rfl⟩, isl.push _⟩ ?_ fun s' mv full => ?_
      · have at2 : ((s.heap.push (new led)).push { cls := .type "list_iterator", data := .fields #[.ref l, .int 0 0] }).get? s.heap.objs.size = some (new led) := Heap.get?_push_of_some _ at_
        exact ⟨_, #[], 0, _, at2, ⟨rfl, rfl, rfl⟩, rfl, (fun e he => by simp at he), (fun k => by simp [anyK]), (by decide), (by rfl), rfl⟩
      · have e1 := mv.gens
        have e2 := mv.drawn
        have e3 := mv.os
        obtain ⟨hp, gs, dr, tk, os⟩ := s'
        dsimp only at e1 e2 e3
        subst e1 e2 e3
        show wpAny _ _ (pure _) _ _ _
        refine wpAny_pure ?_
        show wpAny _ _ (ret Value.none) _ _ _
        refine wpAny_pure ⟨rfl, hp, tk, rfl, full, fun b o e => mv.heap b o (fun z => ?_) (Heap.get?_push_of_some _ (Heap.get?_push_of_some _ e))⟩
        have lt := Heap.lt_size e
        rcases List.mem_cons.mp z with z | z
        · exact Nat.ne_of_lt lt z
        · have z := List.mem_singleton.mp z
          rw [size1] at z
          exact Nat.ne_of_lt (Nat.lt_succ_of_lt lt) z
    · match res2, out2 with
      | .error _, out2 => exact out2
      | .ok .next, out2 => exact out2.elim
      | .ok .brk, out2 => exact out2.elim
      | .ok .cont, out2 => exact out2.elim
      | .ok (.ret y), ⟨ey, h', tk, e2, hs, keep⟩ =>
        subst ey
        subst e2
        repeat (any_goals (first | assumption | wp_step))
        exact post _ _ hs keep
end

theorem text_at : ∀ {zs : List Str} {us : List Value}, Vals (zs.map V.str) us → ∀ (i : Nat) (v : Value), us[i]? = some v → ∃ k : Key, (zs.map Sum.inr)[i]? = some k ∧ RelV (kV k) v
  | [], _, .nil, _, _, e => nomatch e
  | z :: _, _, .cons r t, 0, v, e => by
    obtain rfl := Option.some.inj e
    exact ⟨.inr z, rfl, r⟩
  | _ :: _, _, .cons _ t, i + 1, v, e => text_at t i v e
def tSetTx (P : Program) (w : World) (K : PySem.W.Frag) (ta : TE) : TE := fun σ H Q => ta σ H fun x H1 => ∃ (l : Addr) (zs : List Str), x = .ref l ∧ SqL K H1 l (zs.map V.str) ∧ zs.length ≤ 1000 ∧ ∀ p H2, H1 p = none → H2 p = some (SetK P w p (anyK (zs.map Sum.inr)) (metK (zs.map Sum.inr).reverse)) → Same H1 H2 → Q (.ref p) H2
theorem pe_setTx (K : PySem.W.Frag) {X : Cx} (same : X.K = K) {a : Expr} {ta : TE} {p2 q : Pos} (hg : Gl X "set") (hm : X.mg "set" = none) (ha : PE X a ta) (hc : X.calm = true := by rfl)
    (na : starEach [a] X.env = (false, eval a X.env) :: starEach [] X.env := by rfl) : PE X (.Call (.Name "set" p2) [a] [] q) (tSetTx X.prog X.w K ta) := by
  subst same
  constructor
  intro pins s σ H Q I h
  refine Call_ (ld_blt I hg hm boot_set ?_)
  refine PyProof.Rows.callWith_type1 (PyProof.Rows.args_cons (thn (ha.run pins s σ H _ I h) ?_) na) na rfl
  rintro v s1 ⟨x, H1, I1, r1, l, zs, rfl, hq, hl, q1⟩
  refine PyProof.Rows.args_nil ?_
  cases r1
  have ⟨its, r, pl, _⟩ := I1.list hq
  have big : its.toArray.size = (zs.map (Sum.inr : Str → Key)).length := by rw [List.size_toArray, ← r.length, List.length_map, List.length_map]
  refine set_of_keys (ks := zs.map Sum.inr) (I1.ok.hd hc) pl.isList (fun i v e => ?_) big (by rw [List.length_map]; unfold scanBound; omega) ?_
  · exact text_at r i v (by simpa using e)
  intro h' tk hs keep
  have hn : H1 s1.heap.objs.size = none := I1.hok.fresh (Nat.le_refl _)
  exact ⟨.ref s1.heap.objs.size, _, I1.laid (t' := tk) keep (Nat.le_refl _) (setK_new hs), rfl, q1 _ _ hn upd_same (same_new hn)⟩
/-! ### formulas -/
def firstN (n : Nat) (p : Nat → Bool) : Option Nat := (List.range n).find? p
theorem firstN_at {n i : Nat} {p : Nat → Bool} (hi : i < n) (hp : p i = true) (no : ∀ j, j < i → p j = false) : firstN n p = some i := by
  unfold firstN
  rw [List.find?_range_eq_some]
  exact ⟨hp, List.mem_range.mpr hi, fun j hj => by rw [no j hj]; rfl⟩
theorem firstN_none {n : Nat} {p : Nat → Bool} (no : ∀ j, j < n → p j = false) : firstN n p = none := by
  unfold firstN
  rw [List.find?_eq_none]
  intro j hj
  rw [no j (List.mem_range.mp hj)]
  exact Bool.false_ne_true
theorem firstN_no {n : Nat} {p : Nat → Bool} (h : firstN n p = none) : ∀ j, j < n → p j = false := fun j hj => by
  have := List.find?_eq_none.mp h j (List.mem_range.mpr hj)
  exact Bool.eq_false_iff.mpr this
structure Fm where
  ins : List Str
  was : List (Str × List Int)
  rules : List (Str × Tr)
  outs : List Str
def WaAt (H : Hp) (v : V) (p : Str × List Int) : Prop := ∃ a b, v = .ref a ∧ H a = some (.tup [.str p.1, .ref b]) ∧ H b = some (.tup (p.2.map V.int))
def RlAt (H : Hp) (v : V) (p : Str × Tr) : Prop := ∃ a x, v = .ref a ∧ H a = some (.tup [.str p.1, x]) ∧ TrAt H x p.2
theorem WaAt.keep {H H' : Hp} {v : V} {p : Str × List Int} (h : WaAt H v p) (k : TK H H') : WaAt H' v p := by
  obtain ⟨a, b, rfl, e1, e2⟩ := h
  exact ⟨a, b, rfl, k _ _ e1, k _ _ e2⟩
theorem RlAt.keep {H H' : Hp} {v : V} {p : Str × Tr} (h : RlAt H v p) (k : TK H H') : RlAt H' v p := by
  obtain ⟨a, x, rfl, e1, e2⟩ := h
  exact ⟨a, x, rfl, k _ _ e1, e2.keep k⟩
def FmAt (H : Hp) (r : Addr) (F : Fm) : Prop := ∃ (a1 a2 a3 a4 : Addr) (wv rv : List V), H r = some (.tup [.ref a1, .ref a2, .ref a3, .ref a4]) ∧ H a1 = some (.tup (F.ins.map V.str)) ∧ H a2 = some (.tup wv) ∧ All2 (WaAt H) wv F.was ∧ H a3 = some (.tup rv) ∧ All2 (RlAt H) rv F.rules ∧ H a4 = some (.tup (F.outs.map V.str))
theorem FmAt.keep {H H' : Hp} {r : Addr} {F : Fm} (h : FmAt H r F) (k : TK H H') : FmAt H' r F := by
  obtain ⟨a1, a2, a3, a4, wv, rv, e0, e1, e2, e3, e4, e5, e6⟩ := h
  exact ⟨a1, a2, a3, a4, wv, rv, k _ _ e0, k _ _ e1, k _ _ e2, e3.imp fun _ _ z => z.keep k, k _ _ e4, e5.imp fun _ _ z => z.keep k, k _ _ e6⟩
/-- what is so of all formulas that are looked at -/
structure FmOk (F : Fm) : Prop where
  li : F.ins.length ≤ 100
  lw : F.was.length ≤ 100
  lr : F.rules.length ≤ 100
  lo : F.outs.length ≤ 100
  tr : ∀ p ∈ F.rules, p.2.parts.length ≤ 100
def dupB (l : List Str) (i : Nat) : Bool := match l[i]? with
  | some x => decide (x ∈ l.take i)
  | none => false
def dupO (l : List Str) : Option Str := (firstN l.length (dupB l)).bind fun i => l[i]?
def onS : Option Str → V
  | some z => .str z
  | none => .non
def Fm.own (F : Fm) : List Str := F.ins ++ F.rules.map (·.1)
def Fm.kept (F : Fm) : List Str := F.was.map (·.1)
def Fm.used (F : Fm) : List Str := F.kept ++ F.rules.flatMap (fun p => p.2.leans.map (·.1)) ++ F.outs
def lostO (l own : List Str) : Option Str := l.find? fun z => decide (z ∉ own)
theorem find_at {α : Type} {p : α → Bool} : ∀ {l : List α} {i : Nat} {x : α}, l[i]? = some x → p x = true → (∀ (j : Nat) (y : α), j < i → l[j]? = some y → p y = false) → l.find? p = some x
  | [], _, _, e, _, _ => nomatch e
  | a :: r, 0, x, e, hp, _ => by
    obtain rfl := Option.some.inj e
    rw [List.find?_cons, hp]
  | a :: r, i + 1, x, e, hp, no => by
    rw [List.find?_cons, no 0 a (Nat.succ_pos _) rfl]
    exact find_at (l := r) e hp fun j y hj ey => no (j + 1) y (Nat.succ_lt_succ hj) ey
def leanN (ns : List Str) (l : List (Str × Nat)) : List Str := (l.filter fun q => decide (q.2 = 0) && decide (q.1 ∈ ns)).map (·.1)
def stF (rules : List (Str × Tr)) (z : Str) : List Str := match rules.find? fun p => decide (p.1 = z) with
  | some p => leanN (rules.map (·.1)) p.2.leans
  | none => []
theorem nodup_get {ns : List Str} (nd : ns.Nodup) {i j : Nat} {z : Str} (h1 : ns[i]? = some z) (h2 : ns[j]? = some z) : i = j := by
  obtain ⟨l1, e1⟩ := List.getElem?_eq_some_iff.mp h1
  obtain ⟨l2, e2⟩ := List.getElem?_eq_some_iff.mp h2
  rw [List.nodup_iff_pairwise_ne, List.pairwise_iff_getElem] at nd
  rcases Nat.lt_trichotomy i j with h | h | h
  · exact absurd (e1.trans e2.symm) (nd i j l1 l2 h)
  · exact h
  · exact absurd (e2.trans e1.symm) (nd j i l2 l1 h)
theorem stF_at {rules : List (Str × Tr)} (nd : (rules.map (·.1)).Nodup) {i : Nat} {p : Str × Tr} (h : rules[i]? = some p) : stF rules p.1 = leanN (rules.map (·.1)) p.2.leans := by
  unfold stF
  rw [find_at (p := fun q : Str × Tr => decide (q.1 = p.1)) h (decide_eq_true rfl) fun j q hj eq => decide_eq_false fun e => ?_]
  have h1 : (rules.map (·.1))[i]? = some p.1 := by rw [List.getElem?_map, h]; rfl
  have h2 : (rules.map (·.1))[j]? = some p.1 := by rw [List.getElem?_map, eq, ← e]; rfl
  have := nodup_get nd h1 h2
  omega
open Classical in
noncomputable def ringO (rules : List (Str × Tr)) : Option Str := (rules.map (·.1)).find? fun z => decide (OnW (stF rules) z z)
noncomputable def lookO (F : Fm) : Option (Str × Str) := match dupO F.own with
  | some z => some (("twice" : Str), z)
  | none => match dupO F.kept with
    | some z => some (("again" : Str), z)
    | none => match lostO F.used F.own with
      | some z => some (("lost" : Str), z)
      | none => match ringO F.rules with
        | some z => some (("ring" : Str), z)
        | none => none
theorem dup_nodup {l : List Str} (h : dupO l = none) : l.Nodup := by
  have no : ∀ j, j < l.length → dupB l j = false := by
    refine firstN_no ?_
    unfold dupO at h
    cases e : firstN l.length (dupB l) with
    | none => rfl
    | some i =>
      rw [e] at h
      have hi : i < l.length := by
        unfold firstN at e
        exact List.mem_range.mp (List.mem_of_find?_eq_some e)
      have h : l[i]? = none := h
      rw [List.getElem?_eq_getElem hi] at h
      cases h
  rw [List.nodup_iff_pairwise_ne, List.pairwise_iff_getElem]
  intro i j hi hj lt e
  have := no j hj
  unfold dupB at this
  rw [List.getElem?_eq_getElem hj] at this
  refine of_decide_eq_false this ?_
  rw [← e]
  exact List.mem_take_iff_getElem.mpr ⟨i, by omega, rfl⟩
section
variable {P : Program} {w : World} {K : PySem.W.Frag} {mg : Str → Option Value} {base : Heap}
def sp_first_again (K : PySem.W.Frag) : Sp := fun vs H Q _ => ∃ (l : Addr) (zs : List Str), vs = [.ref l] ∧ H l = some (.lst (zs.map V.str)) ∧ zs.length ≤ 1000 ∧ ∀ H', Same H H' → Q (onS (dupO zs)) H'
theorem ok_first_again {f : Addr} {fd : FuncData} (F : Fun K "first_again" "first_again" s_first_again f fd) (T : Top w K mg) : FnOk P w K mg base CX0 1 f fd ["names"] (sp_first_again K) := by
  refine F.ok sc_first_again (fun vs H Q E h => ?_) (fun cdv A outer s H vs Q E hr h => ?_)
  · obtain ⟨l, zs, rfl, _⟩ := h
    rfl
  obtain ⟨l, zs, rfl, hl, ln, q⟩ := h
  refine ⟨_, (pss_cons (ps_set (i := 1) sc_first_again.nd rfl (Or.inl rfl) (pe_callTy0 cr_set0K (by rfl) T.m_set (by decide +kernel)))
      (pss_cons (ps_for PassesOwn.never rfl (pi_listK K rfl (pv 0)) (pg_name (i := 2) sc_first_again.nd rfl (Or.inl rfl))
        (pss_cons (ps_if (pt_cmpR or_sinK (pv 2) (pv 1) (by with_unfolding_all rfl)) (pss_one (ps_ret (pv 2))) pss_nil)
      (pss_one (ps_expr (pe_saddK (pv 1) (pa_cons (pv 2) pa_nil))))))
      (pss_one (ps_ret pe_non)))), ?_⟩
  refine ⟨rfl, fun sp nsp => ?_⟩
  have s1 : Same H (upd H sp (SetK P w sp (fun _ => false) 0)) := same_new nsp
  refine ⟨_, rfl, l, rfl, ⟨_, SqL.of (s1 _ _ hl)⟩, for_list (K := K) (a := l) (xs := zs.map V.str) (fun i σ H5 => ∃ (v2 : Option V) (S : Key → Bool) (n : Nat), σ = [some (.ref l), some (.ref sp), v2] ∧ H5 sp = some (SetK P w sp S n) ∧ n ≤ i ∧ (∀ x, S (Sum.inr x) = true ↔ x ∈ zs.take i) ∧ Same H H5 ∧ ∀ j, j < i → dupB zs j = false)
    ⟨_, fun _ => false, 0, rfl, upd_same, Nat.le_refl _, fun x => ⟨(fun z => nomatch z), fun z => by rw [List.take_zero] at z; cases z⟩, s1, fun j z => absurd z (Nat.not_lt_zero _)⟩ (fun i σ H5 _ ⟨_, _, _, _, _, _, _, s5, _⟩ => SqL.of (s5 _ _ hl)) ?_ ?_⟩
  · rintro i v σ H5 hx ⟨v2, S, n, rfl, hsp, hn, hS, s5, no⟩
    rw [List.getElem?_map] at hx
    cases hk : zs[i]? with
    | none => rw [hk] at hx; cases hx
    | some x =>
    rw [hk] at hx
    obtain rfl : V.str x = v := Option.some.inj hx
    have il := (List.getElem?_eq_some_iff.mp hk).1
    refine ⟨_, rfl, _, rfl, Sum.inr x, sp, S, _, rfl, rfl, hsp, _, rfl, if_bl (fun e => ?_) (fun e => ?_)⟩
    · have e : S (Sum.inr x) = true := e
      refine ⟨_, rfl, ?_⟩
      have : dupO zs = some x := by
        unfold dupO
        rw [firstN_at il (by unfold dupB; rw [hk]; exact decide_eq_true ((hS x).mp e)) no]
        exact hk
      have q := q H5 s5
      rw [this] at q
      exact q
    · have e : S (Sum.inr x) = false := e
      refine ⟨_, rfl, ⟨sp, _, _, rfl, hsp⟩, _, rfl, sp, Sum.inr x, S, n, rfl, rfl, hsp, by unfold scanBound; omega, ?_⟩
      rw [e, if_neg Bool.false_ne_true]
      refine ⟨_, _, n + 1, rfl, upd_same, by omega, fun y => ?_, Same.own s5 nsp, fun j hj => ?_⟩
      · rw [List.take_add_one, hk]
        show (S (Sum.inr y) || decide ((Sum.inr y : Key) = Sum.inr x)) = true ↔ y ∈ zs.take i ++ [x]
        rw [Bool.or_eq_true, hS y, decide_eq_true_eq, List.mem_append, List.mem_singleton]
        exact ⟨fun z => z.imp id Sum.inr.inj, fun z => z.imp id (congrArg _)⟩
      · by_cases z : j = i
        · subst z
          unfold dupB
          rw [hk]
          exact decide_eq_false fun m => by rw [(hS x).mpr m] at e; cases e
        · exact no j (by omega)
  · rintro σ H5 ⟨v2, S, n, rfl, hsp, hn, hS, s5, no⟩
    rw [List.length_map] at no
    have : dupO zs = none := by
      unfold dupO
      rw [firstN_none no]; rfl
    have q := q H5 s5
    rw [this] at q
    exact q
abbrev nsA (K : PySem.W.Frag) : Addr := He.ga K "NoFormula"
def sp_refuse_formula (K : PySem.W.Frag) : Sp := fun vs H Q E => ∃ (z : Str) (y : Option Str), vs = [.str z, onS y] ∧ (y = none → Q .non H) ∧
  ∀ (d : Addr) (H' : Hp) (x : Str), y = some x → H' d = some (.xd [("name", .str x), ("word", .str z)]) → Same H H' → E (.ref (nsA K)) (some d) H'
theorem ok_refuse_formula {f : Addr} {fd : FuncData} (F : Fun K "refuse_formula" "refuse_formula" s_refuse_formula f fd) (T : Top w K mg) : FnOk P w K mg base (L2.CX P w) 3 f fd ["word", "name"] (sp_refuse_formula K) := by
  obtain ⟨fdI, N⟩ := T.x_ns
  have GI := ok_NsInit (P := P) (w := w) (base := base) N
  refine F.okX sc_refuse_formula (fun vs H Q E h => ?_) (fun cdv A outer s H vs Q E hr h => ?_)
  · obtain ⟨z, y, rfl, _⟩ := h
    rfl
  obtain ⟨z, y, rfl, q1, q2⟩ := h
  refine ⟨_, (pss_one (ps_if (pt_cmpR op_notN (pv 1) pe_non (nomark _)) (pss_one (ps_raise rfl (takes_of rfl rfl rfl rfl) (pmk_oex N.T N.iC N.tI GI (hr.mono (by decide)) N.b .nil pass0 (by rfl) N.gC (pa_cons (pv 0) (pa_cons (pv 1) pa_nil))))) pss_nil)), ?_⟩
  cases y with
  | some x =>
    refine ⟨_, rfl, rfl, _, rfl, if_bl (fun _ => ?_) (fun z => nomatch z)⟩
    refine ⟨_, rfl, _, rfl, by show 2 ≤ 1000; decide, fun a na => ?_⟩
    refine ⟨a, V.str z, .str x, rfl, upd_same, fun d nd da => ⟨rfl, d, _, by rw [upd_ne da.symm, upd_same], upd_same, ?_, ?_⟩⟩
    · rw [upd_ne da] at nd; exact nd
    · have nd1 : H d = none := by rw [upd_ne da] at nd; exact nd
      have keep : Same H (upd (del (upd (upd (upd (upd H a (exo a (nsA K) none)) d (exd d [("word", V.str z)])) a (exo a (nsA K) (some d))) d (exd d [("name", V.str x), ("word", V.str z)])) a) d (.xd [("name", V.str x), ("word", V.str z)])) := fun b o e => by
        have b1 : b ≠ a := ne_of_none e na
        have b2 : b ≠ d := ne_of_none e nd1
        rw [upd_ne b2, del_ne b1, upd_ne b2, upd_ne b1, upd_ne b2, upd_ne b1]
        exact e
      exact q2 d _ x rfl upd_same keep
  | none => exact ⟨_, rfl, rfl, _, rfl, if_bl (fun z => nomatch z) (fun _ => q1 rfl)⟩
theorem leans_len (t : Tr) : t.leans.length ≤ t.parts.length := by
  rw [← t.leans_eq, List.length_map]
  exact List.length_filter_le ..
def sp_first_lost (K : PySem.W.Frag) : Sp := fun vs H Q _ => ∃ (r l : Addr) (F : Fm), vs = [.ref r, .ref l] ∧ FmAt H r F ∧ FmOk F ∧ H l = some (.lst (F.own.map V.str)) ∧ ∀ H', Same H H' → Q (onS (lostO F.used F.own)) H'
theorem ok_first_lost {f : Addr} {fd : FuncData} (F : Fun K "first_lost" "first_lost" s_first_lost f fd) (T : Top w K mg) : FnOk P w K mg base CX0 3 f fd ["formulas", "told"] (sp_first_lost K) := by
  obtain ⟨f_leanings, fd_leanings, F_leanings, b_leanings, m_leanings⟩ := T.d_leanings
  have G_leanings := ok_leanings (P := P) (w := w) (base := base) F_leanings T
  refine F.ok sc_first_lost (fun vs H Q E h => ?_) (fun cdv A outer s H vs Q E hr h => ?_)
  · obtain ⟨r, l, F, rfl, _⟩ := h
    rfl
  obtain ⟨r, l, F, rfl, hF, ok, hl, q⟩ := h
  obtain ⟨a1, a2, a3, a4, wv, rv, e0, e1, e2, e3, e4, e5, e6⟩ := hF
  let sg : Option V → Option V → Option V → Option V → Option V → L2.St := fun v6 v7 v9 v10 v12 => [some (.ref r), some (.ref l), some (.ref a1), some (.ref a2), some (.ref a3), some (.ref a4), v6, v7, none, v9, v10, none, v12]
  let R1 : TS := fun D' σ' H' => D'.rt = Q ∧ D'.nx = (fun _ H' => Q .non H') ∧ ∃ (nl : Addr), σ' = sg (some (.ref nl)) none none none none ∧ H' nl = some (.lst (F.kept.map V.str)) ∧ Same H H' ∧ H nl = none
  let R2 : TS := fun D' σ' H' => D'.rt = Q ∧ D'.nx = (fun _ H' => Q .non H') ∧ ∃ (nl : Addr) (v9 v10 : Option V), σ' = sg (some (.ref nl)) none v9 v10 none ∧ H' nl = some (.lst (F.used.map V.str)) ∧ Same H H' ∧ H nl = none
  have lused : ∀ i, (F.rules.take i).flatMap (fun p => p.2.leans.map (·.1)) = (F.rules.take i).flatMap (fun p => p.2.leans.map (·.1)) ∧ ((F.rules.take i).flatMap (fun p => p.2.leans.map (·.1))).length ≤ 10000 := fun i => by
    refine ⟨rfl, ?_⟩
    have key : ∀ l : List (Str × Tr), (∀ p ∈ l, p.2.parts.length ≤ 100) → (l.flatMap (fun p => p.2.leans.map (·.1))).length ≤ 100 * l.length := by
      intro l
      induction l with
      | nil => intro _; exact Nat.le_refl _
      | cons x r ih =>
        intro h
        rw [List.flatMap_cons, List.length_append, List.length_map, List.length_cons]
        have h1 := leans_len x.2
        have h2 := h x (List.mem_cons_self ..)
        have h3 := ih fun p hp => h p (List.mem_cons_of_mem _ hp)
        omega
    have h1 := key (F.rules.take i) fun p hp => ok.tr p (List.mem_of_mem_take hp)
    have h2 := ok.lr
    rw [List.length_take] at h1
    exact Nat.le_trans h1 (by omega)
  have lk : F.kept.length ≤ 100 := by
    unfold Fm.kept
    rw [List.length_map]
    exact ok.lw
  refine ⟨_, (pss_cons (ps_asg (pv 0) (pg_tupK K rfl rfl (pgs_cons (pg_name (i := 2) sc_first_lost.nd rfl (Or.inl rfl)) (pgs_cons (pg_name (i := 3) sc_first_lost.nd rfl (Or.inl rfl)) (pgs_cons (pg_name (i := 4) sc_first_lost.nd rfl (Or.inl rfl)) (pgs_cons (pg_name (i := 5) sc_first_lost.nd rfl (Or.inl rfl)) pgs_nil))))))
      (pss_cons (ps_setLc (i := 6) (own := [("name", 7), ("things", 8)]) (g := gTup K 2 (gCons (gName 7) (gCons (gName 8) gNil))) (tt := tYes) (by rfl) sc_first_lost.nd rfl rfl (sw_true rfl rfl rfl (by decide +kernel)) (pi_tupK K rfl (pv 3)) (blkOk_by (own := [("name", 7), ("things", 8)]) (N := N_first_lost) (sc := defScope s_first_lost) (by decide +kernel)) (fun _ _ _ _ _ => (pg_tupK K rfl rfl (pgs_cons (pg_name (i := 7) sc_first_lost.nd rfl (Or.inl rfl)) (pgs_cons (pg_name (i := 8) sc_first_lost.nd rfl (Or.inl rfl)) pgs_nil)))) (fun _ _ _ _ _ => pts_nil) (fun _ _ _ _ _ => (pv 7)))
      (PSs.to (pss_cons (ps_for PassesOwn.never rfl (pi_tupK K rfl (pv 4)) (pg_tupK K rfl rfl (pgs_cons (pg_name (i := 9) sc_first_lost.nd rfl (Or.inl rfl)) (pgs_cons (pg_name (i := 10) sc_first_lost.nd rfl (Or.inl rfl)) pgs_nil)))
        (pss_one (ps_expr (pe_bmK K rfl PySem.F.plainAttrs_list PySem.F.slot_list_extend PySem.F.type_list_extend mt_extend (pv 6) (pa_cons (pe_lc (own := [("name", 7), ("ago", 11)]) (g := gTup K 2 (gCons (gName 7) (gCons (gName 11) gNil))) (tt := tYes) (by rfl) sc_first_lost.nd (pi_listK K rfl (pe_call G_leanings (hr.mono (by decide)) (by rfl) m_leanings F_leanings.kp b_leanings .nil pass0 (pa_cons (pv 10) pa_nil))) (blkOk_by (own := [("name", 7), ("ago", 11)]) (N := N_first_lost) (sc := defScope s_first_lost) (by decide +kernel)) (fun _ _ _ _ _ => (pg_tupK K rfl rfl (pgs_cons (pg_name (i := 7) sc_first_lost.nd rfl (Or.inl rfl)) (pgs_cons (pg_name (i := 11) sc_first_lost.nd rfl (Or.inl rfl)) pgs_nil)))) (fun _ _ _ _ _ => pts_nil) (fun _ _ _ _ _ => (pv 7))) pa_nil)))))
      (pss_cons (ps_expr (pe_bmK K rfl PySem.F.plainAttrs_list PySem.F.slot_list_extend PySem.F.type_list_extend mt_extend (pv 6) (pa_cons (pe_callTy (call_list_ofK K rfl) (by rfl) T.m_list (by decide +kernel) (pa_cons (pv 5) pa_nil)) pa_nil)))
      (PSs.to (pss_cons (ps_set (i := 12) sc_first_lost.nd rfl (Or.inl rfl) (pe_setTx K rfl (by rfl) T.m_set (pv 1)))
      (pss_cons (ps_for PassesOwn.never rfl (pi_listK K rfl (pv 6)) (pg_name (i := 7) sc_first_lost.nd rfl (Or.inl rfl))
        (pss_one (ps_if (pt_cmpR or_snotinK (pv 7) (pv 12) (by with_unfolding_all rfl)) (pss_one (ps_ret (pv 7))) pss_nil)))
      (pss_one (ps_ret pe_non)))) R2 ?tail2))) R1 ?tail1))), ?_⟩
  case tail2 =>
    rintro D' σ' H1 ⟨eD, eN, nl, v9, v10, rfl, hnl, s1, n0⟩
    have lo : F.own.length ≤ 1000 := by
      unfold Fm.own
      rw [List.length_append, List.length_map]
      have := ok.li
      have := ok.lr
      omega
    refine ⟨_, rfl, l, F.own, rfl, SqL.of (s1 _ _ hl), lo, fun kp H2 nkp hkp s2 => ?_⟩
    have hkp : H2 kp = some (SetK P w kp (anyK (F.own.map Sum.inr)) (metK (F.own.map Sum.inr).reverse)) := hkp
    have hnl2 := s2 _ _ hnl
    replace s2 := s1.trans s2
    have inS : ∀ x : Str, anyK (F.own.map Sum.inr) (Sum.inr x) = decide (x ∈ F.own) := fun x => by
      rw [Bool.eq_iff_iff, anyK_iff, decide_eq_true_eq, List.mem_map]
      exact ⟨fun ⟨y, hy, e⟩ => Sum.inr.inj e ▸ hy, fun h => ⟨x, h, rfl⟩⟩
    refine ⟨_, rfl, nl, rfl, ⟨_, SqL.of hnl2⟩, for_list (K := K) (a := nl) (xs := F.used.map V.str) (fun i σ H5 => ∃ v7 : Option V, σ = sg (some (.ref nl)) v7 v9 v10 (some (.ref kp)) ∧ H5 = H2 ∧ ∀ (j : Nat) (y : Str), j < i → F.used[j]? = some y → y ∈ F.own) ⟨_, rfl, rfl, fun j y z => absurd z (Nat.not_lt_zero _)⟩ (fun i σ H5 _ ⟨_, _, e, _⟩ => e ▸ SqL.of hnl2) ?_ ?_⟩
    · rintro i v σ H5 hx ⟨v7, rfl, rfl, no⟩
      rw [List.getElem?_map] at hx
      cases hk : F.used[i]? with
      | none => rw [hk] at hx; cases hx
      | some x =>
      rw [hk] at hx
      obtain rfl : V.str x = v := Option.some.inj hx
      refine ⟨_, rfl, _, rfl, Sum.inr x, kp, _, _, rfl, rfl, hkp, _, rfl, ?_⟩
      show (if (!anyK (F.own.map Sum.inr) (Sum.inr x)) = true then _ else _)
      rw [inS]
      refine if_bl (fun e => ?_) (fun e => ?_)
      · have nx : x ∉ F.own := fun z => by rw [decide_eq_true z] at e; cases e
        refine ⟨_, rfl, ?_⟩
        rw [eD]
        have q := q H5 s2
        rw [show lostO F.used F.own = some x from find_at (p := fun z => decide (z ∉ F.own)) hk (decide_eq_true nx) fun j y hj ey => decide_eq_false fun z => z (no j y hj ey)] at q
        exact q
      · refine ⟨_, rfl, rfl, fun j y hj ey => ?_⟩
        by_cases z : j = i
        · subst z
          rw [hk] at ey
          obtain rfl := Option.some.inj ey
          exact Classical.byContradiction fun n => by rw [decide_eq_false n] at e; cases e
        · exact no j y (by omega) ey
    · rintro σ H5 ⟨v7, rfl, rfl, no⟩
      have q := q H5 s2
      have : lostO F.used F.own = none := by
        unfold lostO
        rw [List.find?_eq_none]
        intro y hy z
        obtain ⟨j, ej⟩ := List.getElem?_of_mem hy
        exact of_decide_eq_true z (no j y (by rw [List.length_map]; exact (List.getElem?_eq_some_iff.mp ej).1) ej)
      rw [this] at q
      show D'.rt .non H5
      rw [eD]
      exact q
  case tail1 =>
    rintro D' σ' H1 ⟨eD, eN, nl, rfl, hnl, s1, n0⟩
    refine ⟨_, rfl, a3, rfl, ⟨_, SqT.of (s1 _ _ e4)⟩, for_tup (K := K) (a := a3) (xs := rv) (fun i σ H5 => ∃ v9 v10 : Option V, σ = sg (some (.ref nl)) none v9 v10 none ∧ H5 nl = some (.lst ((F.kept ++ (F.rules.take i).flatMap (fun p => p.2.leans.map (·.1))).map V.str)) ∧ Same H H5) ⟨none, none, rfl, by rw [List.take_zero, List.flatMap_nil, List.append_nil]; exact hnl, s1⟩ (fun i σ H5 _ ⟨_, _, _, _, s5⟩ => SqT.of (s5 _ _ e4)) ?_ ?_⟩
    · rintro i v σ H5 hx ⟨v9, v10, rfl, hn5, s5⟩
      obtain ⟨p, hp, t, x, rfl, ht, hxt⟩ := e5.getL hx
      have lp := ok.tr p (List.mem_of_getElem? hp)
      refine ⟨t, _, rfl, SqT.of (s5 _ _ ht), rfl, _, _, rfl, _, _, rfl, rfl, ?_⟩
      refine ⟨_, rfl, .inl ⟨rfl, _, SqL.of hn5⟩, _, rfl, x, p.2, rfl, hxt.keep (TK.same s5), by omega, fun p1 pv1 H6 n1 h1 al s6 => ?_⟩
      refine ⟨p1, rfl, ⟨_, SqL.of h1⟩, fun D nD => ?_⟩
      have hn6 := s6 _ _ hn5
      have s56 := s5.trans s6
      refine lc_list (K := K) (a := p1) (xs := pv1) (fun i H9 => H9 D = some (.lst (((p.2.leans.take i).map (·.1)).map V.str)) ∧ Same H6 H9) ⟨upd_same, same_new nD⟩ (fun i H9 _ ⟨_, s9⟩ => SqL.of (s9 _ _ h1)) ?_ ?_
      · rintro j z H9 hz ⟨hD, s9⟩
        obtain ⟨u, hu, b, rfl, hb⟩ := al.getL hz
        refine ⟨b, _, rfl, SqT.of (s9 _ _ hb), rfl, _, _, rfl, _, _, rfl, rfl, rfl, yes_in ⟨_, rfl, _, hD, ?_, ?_, Same.own s9 nD⟩⟩
        · have := leans_len p.2
          rw [List.length_map, List.length_map, List.length_take]
          exact small1000 (by omega)
        · rw [upd_same, List.take_add_one, hu, List.map_append, List.map_append]
          rfl
      · rintro H9 ⟨hD, s9⟩
        rw [al.length, List.take_length] at hD
        have hn9 := s9 _ _ hn6
        refine ⟨nl, D, _, _, rfl, rfl, hn9, hD, ?_, _, _, rfl, ?_, Same.own (s56.trans s9) n0⟩
        · have h1 := (lused i).2
          have h2 := leans_len p.2
          rw [List.length_map, List.length_append, List.length_map, List.length_map, sizeLine_eq]
          omega
        · rw [upd_same, ← List.map_append, List.take_add_one, hp, List.flatMap_append, List.append_assoc]
          rw [show (some p).toList = [p] from rfl, List.flatMap_singleton]
    · rintro σ H5 ⟨v9, v10, rfl, hn5, s5⟩
      rw [e5.length, List.take_length] at hn5
      refine ⟨_, rfl, .inl ⟨rfl, _, SqL.of hn5⟩, _, rfl, a4, _, rfl, .inr (SqT.of (s5 _ _ e6)), fun D nD => ?_⟩
      have s6 : Same H5 (upd H5 D (.lst (F.outs.map V.str))) := same_new nD
      refine ⟨nl, D, _, _, rfl, rfl, s6 _ _ hn5, upd_same, ?_, ?_⟩
      · have h1 := (lused F.rules.length).2
        rw [List.take_length] at h1
        have h2 := ok.lo
        rw [List.length_map, List.length_append, List.length_map, sizeLine_eq]
        omega
      · refine ⟨eD, eN, nl, v9, v10, rfl, ?_, Same.own (s5.trans s6) n0, n0⟩
        rw [upd_same, ← List.map_append]; rfl
  refine ⟨_, rfl, r, _, rfl, SqT.of e0, rfl, _, _, rfl, _, _, rfl, _, _, rfl, _, _, rfl, rfl, ?_⟩
  refine ⟨_, rfl, a2, rfl, ⟨_, SqT.of e2⟩, fun D nD => ?_⟩
  refine lc_tup (K := K) (a := a2) (xs := wv) (fun i H9 => H9 D = some (.lst (((F.was.take i).map (·.1)).map V.str)) ∧ Same H H9) ⟨upd_same, same_new nD⟩ (fun i H9 _ ⟨_, s9⟩ => SqT.of (s9 _ _ e2)) ?_ ?_
  · rintro j z H9 hz ⟨hD, s9⟩
    obtain ⟨u, hu, b, c, rfl, hb, _⟩ := e3.getL hz
    refine ⟨b, _, rfl, SqT.of (s9 _ _ hb), rfl, _, _, rfl, _, _, rfl, rfl, rfl, yes_in ⟨_, rfl, _, hD, ?_, ?_, Same.own s9 nD⟩⟩
    · have := ok.lw
      rw [List.length_map, List.length_map, List.length_take]
      exact small1000 (by omega)
    · rw [upd_same, List.take_add_one, hu, List.map_append, List.map_append]
      rfl
  · rintro H9 ⟨hD, s9⟩
    rw [e3.length, List.take_length] at hD
    exact ⟨rfl, rfl, D, rfl, hD, s9, nD⟩
theorem leanN_len (ns : List Str) (l : List (Str × Nat)) : (leanN ns l).length ≤ l.length := by
  unfold leanN
  rw [List.length_map]
  exact List.length_filter_le ..
theorem leanN_in {ns : List Str} {l : List (Str × Nat)} : ∀ y ∈ leanN ns l, y ∈ ns := fun y hy => by
  obtain ⟨q, hq, rfl⟩ := List.mem_map.mp hy
  have := (List.mem_filter.mp hq).2
  rw [Bool.and_eq_true, decide_eq_true_eq, decide_eq_true_eq] at this
  exact this.2
open Classical in
theorem first_ring {rules : List (Str × Tr)} {v : V} (h : FirstW (stF rules) (rules.map (·.1)) v) : v = onS (ringO rules) := by
  rcases h with ⟨rfl, no⟩ | ⟨i, x, ex, rfl, hw, low⟩
  · have : ringO rules = none := by
      unfold ringO
      rw [List.find?_eq_none]
      intro y hy z
      exact no y hy (of_decide_eq_true z)
    rw [this]; rfl
  · have : ringO rules = some x := by
      unfold ringO
      exact find_at ex (decide_eq_true hw) fun j y hj ey => decide_eq_false (low j y hj ey)
    rw [this]; rfl
theorem stS_put (adr : Str → Addr) {ns : List Str} {z : Str} (h : z ∉ ns) (p : Addr) : putK (stS adr ns) (Sum.inr z) (.ref p) = stS (fun y => if y = z then p else adr y) (ns ++ [z]) := by
  rw [putK_new _ (by rw [stS_val, if_neg h])]
  unfold stS
  rw [List.map_append]
  congr 1
  · refine List.map_congr_left fun y hy => ?_
    show (_, V.ref (adr y)) = (_, V.ref (if y = z then p else adr y))
    rw [if_neg (show ¬ y = z from fun e => h (e ▸ hy))]
  · show [_] = [(_, V.ref (if z = z then p else adr z))]
    rw [if_pos rfl]
/-- the steps under way -/
structure SuS (H0 H : Hp) (d : Addr) (ns : List Str) (st : Str → List Str) : Prop where
  ex : ∃ adr : Str → Addr, H d = some (.dK (stS adr ns)) ∧ (∀ z ∈ ns, H (adr z) = some (.lst ((st z).map V.str)) ∧ H0 (adr z) = none) ∧ (∀ y ∈ ns, ∀ z ∈ ns, adr y = adr z → y = z) ∧ Same H0 H
def sp_rule_on_ring (K : PySem.W.Frag) : Sp := fun vs H Q _ => ∃ (a3 : Addr) (rv : List V) (rules : List (Str × Tr)), vs = [.ref a3] ∧ H a3 = some (.tup rv) ∧ All2 (RlAt H) rv rules ∧ (rules.map (·.1)).Nodup ∧ rules.length ≤ 100 ∧ (∀ p ∈ rules, p.2.parts.length ≤ 100) ∧ ∀ H', Same H H' → Q (onS (ringO rules)) H'
theorem ok_rule_on_ring {f : Addr} {fd : FuncData} (F : Fun K "rule_on_ring" "rule_on_ring" s_rule_on_ring f fd) (T : Top w K mg) : FnOk P w K mg base CX0 3 f fd ["rules"] (sp_rule_on_ring K) := by
  obtain ⟨f_first_on_ring, fd_first_on_ring, F_first_on_ring, b_first_on_ring, m_first_on_ring⟩ := T.d_first_on_ring
  have G_first_on_ring := ok_first_on_ring (P := P) (w := w) (base := base) F_first_on_ring T
  obtain ⟨f_leanings, fd_leanings, F_leanings, b_leanings, m_leanings⟩ := T.d_leanings
  have G_leanings := ok_leanings (P := P) (w := w) (base := base) F_leanings T
  refine F.ok sc_rule_on_ring (fun vs H Q E h => ?_) (fun cdv A outer s H vs Q E hr h => ?_)
  · obtain ⟨a3, rv, rules, rfl, _⟩ := h
    rfl
  obtain ⟨a3, rv, rules, rfl, e4, e5, nd, lr, tr, q⟩ := h
  refine ⟨_, (pss_cons (ps_set (i := 1) sc_rule_on_ring.nd rfl (Or.inr rfl) (pe_dc (own := [("rule", 2), ("tree", 3)]) (g := gTup K 2 (gCons (gName 2) (gCons (gName 3) gNil))) (tt := tYes) (by rfl) sc_rule_on_ring.nd (pi_tupK K rfl (pv 0)) (blkOk_by (own := [("rule", 2), ("tree", 3)]) (N := N_rule_on_ring) (sc := defScope s_rule_on_ring) (by decide +kernel)) (fun _ _ _ _ _ => (pg_tupK K rfl rfl (pgs_cons (pg_name (i := 2) sc_rule_on_ring.nd rfl (Or.inl rfl)) (pgs_cons (pg_name (i := 3) sc_rule_on_ring.nd rfl (Or.inl rfl)) pgs_nil)))) (fun _ _ _ _ _ => pts_nil) (fun _ _ _ _ _ => (pv 2)) (fun _ _ _ _ _ => (pe_lst pa_nil))))
      (pss_cons (ps_for PassesOwn.never rfl (pi_tupK K rfl (pv 0)) (pg_tupK K rfl rfl (pgs_cons (pg_name (i := 2) sc_rule_on_ring.nd rfl (Or.inl rfl)) (pgs_cons (pg_name (i := 3) sc_rule_on_ring.nd rfl (Or.inl rfl)) pgs_nil)))
        (pss_one (ps_expr (pe_bmK K rfl PySem.F.plainAttrs_list PySem.F.slot_list_extend PySem.F.type_list_extend mt_extend (pe_dget (hu_of hr) (pv 1) (pv 2) (fun _ _ => rfl)) (pa_cons (pe_lc (own := [("name", 4), ("ago", 5)]) (g := gTup K 2 (gCons (gName 4) (gCons (gName 5) gNil))) (by rfl) sc_rule_on_ring.nd (pi_listK K rfl (pe_call G_leanings (hr.mono (by decide)) (by rfl) m_leanings F_leanings.kp b_leanings .nil pass0 (pa_cons (pv 3) pa_nil))) (blkOk_by (own := [("name", 4), ("ago", 5)]) (N := N_rule_on_ring) (sc := defScope s_rule_on_ring) (by decide +kernel)) (fun _ _ _ _ _ => (pg_tupK K rfl rfl (pgs_cons (pg_name (i := 4) sc_rule_on_ring.nd rfl (Or.inl rfl)) (pgs_cons (pg_name (i := 5) sc_rule_on_ring.nd rfl (Or.inl rfl)) pgs_nil)))) (fun _ _ _ _ _ => pts_one (PW.pt (pw_and (pt_cmpR op_eq (pv 5) pe_int (nomark _)) (pw_and1 (pt_cmp (pc_din (hu_of hr) (pv 4) (pv 1)) (by with_unfolding_all rfl)))))) (fun _ _ _ _ _ => (pv 4))) pa_nil)))))
      (pss_one (ps_ret (pe_call G_first_on_ring (hr.mono (by decide)) (by rfl) m_first_on_ring F_first_on_ring.kp b_first_on_ring .nil pass0 (pa_cons (pe_callTy (call_list_dK rfl) (by rfl) T.m_list (by decide +kernel) (pa_cons (pv 1) pa_nil)) (pa_cons (pv 1) pa_nil))))))), ?_⟩
  have ltn : ∀ i, i < rules.length → ((rules.map (·.1)).take i).length = i := fun i hi => by rw [List.length_take, List.length_map]; omega
  refine ⟨_, rfl, a3, rfl, ⟨_, SqT.of e4⟩, fun D nD => ?_⟩
  refine dc_tup (K := K) (a := a3) (xs := rv) (fun i H5 => SuS H H5 D ((rules.map (·.1)).take i) (fun _ => [])) ⟨fun _ => 0, by rw [List.take_zero]; exact upd_same, (fun z hz => by rw [List.take_zero] at hz; cases hz), (fun z hz => by rw [List.take_zero] at hz; cases hz), same_new nD⟩ (fun i H5 _ su => by obtain ⟨_, _, _, _, s5⟩ := su.ex; exact SqT.of (s5 _ _ e4)) ?_ ?_
  · rintro i v H5 hx ⟨adr, hD, had, inj, s5⟩
    obtain ⟨p, hp, t, x, rfl, ht, hxt⟩ := e5.getL hx
    have il := (List.getElem?_eq_some_iff.mp hp).1
    have hn : (rules.map (·.1))[i]? = some p.1 := by rw [List.getElem?_map, hp]; rfl
    have tk : (rules.map (·.1)).take (i + 1) = (rules.map (·.1)).take i ++ [p.1] := by rw [List.take_add_one, hn]; rfl
    have nin : p.1 ∉ (rules.map (·.1)).take i := fun z => by
      obtain ⟨j, hj, ej⟩ := List.mem_take_iff_getElem.mp z
      have := nodup_get nd hn (List.getElem?_eq_some_iff.mpr ⟨by omega, ej⟩)
      omega
    refine ⟨t, _, rfl, SqT.of (s5 _ _ ht), rfl, _, _, rfl, _, _, rfl, rfl, rfl, yes_in ⟨_, rfl, (by show 0 ≤ sizeLine; decide), fun pp np => ?_⟩⟩
    have u := same_new (o := .lst []) np
    have pD : pp ≠ D := fun z => by rw [z, hD] at np; cases np
    refine ⟨stS adr ((rules.map (·.1)).take i), Sum.inr p.1, rfl, u _ _ hD, ?_, ?_⟩
    · unfold stS
      rw [List.length_map, ltn i il]
      exact small1000 (by omega)
    rw [stS_put adr nin]
    refine ⟨_, by rw [tk]; exact upd_same, fun z hz => ?_, fun y hy z hz e => ?_, Same.own (s5.trans u) nD⟩
    · rw [tk] at hz
      by_cases c : z = p.1
      · rw [if_pos c]
        refine ⟨by rw [upd_ne pD, upd_same]; rfl, same_none s5 np⟩
      · rw [if_neg c]
        obtain ⟨g1, g2⟩ := had z ((List.mem_append.mp hz).resolve_right fun m => c (List.mem_singleton.mp m))
        have aD : adr z ≠ D := fun y => by rw [y, hD] at g1; cases g1
        exact ⟨by rw [upd_ne aD]; exact u _ _ g1, g2⟩
    · rw [tk] at hy hz
      have old : ∀ {y : Str}, y ∈ (rules.map (·.1)).take i ++ [p.1] → y ≠ p.1 → y ∈ (rules.map (·.1)).take i := fun {y} m c => (List.mem_append.mp m).resolve_right fun m => c (List.mem_singleton.mp m)
      by_cases c1 : y = p.1
      · by_cases c2 : z = p.1
        · rw [c1, c2]
        · rw [if_pos c1, if_neg c2] at e
          rw [e, (had z (old hz c2)).1] at np
          cases np
      · by_cases c2 : z = p.1
        · rw [if_neg c1, if_pos c2] at e
          rw [← e, (had y (old hy c1)).1] at np
          cases np
        · rw [if_neg c1, if_neg c2] at e
          exact inj y (old hy c1) z (old hz c2) e
  intro H2 su0
  rw [e5.length, List.take_of_length_le (by rw [List.length_map]; exact Nat.le_refl _)] at su0
  have same0 : ∀ {H5 : Hp} {n : List Str} {st : Str → List Str}, SuS H H5 D n st → Same H H5 := fun su => by
    obtain ⟨adr, _, _, _, s⟩ := su.ex
    exact s
  refine ⟨_, rfl, a3, rfl, ⟨_, SqT.of (same0 su0 _ _ e4)⟩, for_tup (K := K) (a := a3) (xs := rv) (fun i σ H5 => ∃ v2 v3 : Option V, σ = [some (.ref a3), some (.ref D), v2, v3, none, none] ∧ SuS H H5 D (rules.map (·.1)) (fun z => if z ∈ (rules.map (·.1)).take i then stF rules z else [])) ⟨_, _, rfl, ?_⟩ (fun i σ H5 _ ⟨_, _, _, su⟩ => SqT.of (same0 su _ _ e4)) ?_ ?_⟩
  · obtain ⟨adr, g1, g2, g3, g4⟩ := su0.ex
    exact ⟨adr, g1, fun z hz => by rw [List.take_zero, if_neg (fun y => nomatch y)]; exact g2 z hz, g3, g4⟩
  · rintro i v σ H5 hx ⟨v2, v3, rfl, adr, hD, had, inj, s5⟩
    obtain ⟨p, hp, t, x, rfl, ht, hxt⟩ := e5.getL hx
    have il := (List.getElem?_eq_some_iff.mp hp).1
    have hn : (rules.map (·.1))[i]? = some p.1 := by rw [List.getElem?_map, hp]; rfl
    have lp := tr p (List.mem_of_getElem? hp)
    have pin := List.mem_of_getElem? hn
    have tk : (rules.map (·.1)).take (i + 1) = (rules.map (·.1)).take i ++ [p.1] := by rw [List.take_add_one, hn]; rfl
    have nin : p.1 ∉ (rules.map (·.1)).take i := fun z => by
      obtain ⟨j, hj, ej⟩ := List.mem_take_iff_getElem.mp z
      have := nodup_get nd hn (List.getElem?_eq_some_iff.mpr ⟨by omega, ej⟩)
      omega
    obtain ⟨a1, a2⟩ := had p.1 pin
    rw [if_neg nin] at a1
    have gt : DGet H5 D (.str p.1) (some (.ref (adr p.1))) := by
      have := DGet.k (k := Sum.inr p.1) hD
      rwa [stS_val, if_pos pin] at this
    have aD : D ≠ adr p.1 := fun y => by rw [← y, hD] at a1; cases a1
    refine ⟨t, _, rfl, SqT.of (s5 _ _ ht), rfl, _, _, rfl, _, _, rfl, rfl, ?_⟩
    refine ⟨_, rfl, _, rfl, D, _, rfl, gt, .inl ⟨rfl, _, SqL.of a1⟩, _, rfl, x, p.2, rfl, hxt.keep (TK.same s5), by omega, fun p1 pv1 H6 n1 h1 al s6 => ?_⟩
    refine ⟨p1, rfl, ⟨_, SqL.of h1⟩, fun C nC => ?_⟩
    have hD6 := s6 _ _ hD
    have a16 := s6 _ _ a1
    refine lc_list (K := K) (a := p1) (xs := pv1) (fun i H9 => H9 C = some (.lst ((leanN (rules.map (·.1)) (p.2.leans.take i)).map V.str)) ∧ Same H6 H9) ⟨upd_same, same_new nC⟩ (fun i H9 _ ⟨_, s9⟩ => SqL.of (s9 _ _ h1)) ?_ ?_
    · rintro j z H9 hz ⟨hC, s9⟩
      obtain ⟨u, hu, b, rfl, hb⟩ := al.getL hz
      have tk2 : p.2.leans.take (j + 1) = p.2.leans.take j ++ [u] := by rw [List.take_add_one, hu]; rfl
      have ll := Nat.le_trans (leanN_len (rules.map (·.1)) (p.2.leans.take j)) (show (p.2.leans.take j).length ≤ 100 by rw [List.length_take]; have := leans_len p.2; omega)
      refine ⟨b, _, rfl, SqT.of (s9 _ _ hb), rfl, _, _, rfl, _, _, rfl, rfl, rfl, ?_⟩
      have lone : leanN (rules.map (·.1)) (p.2.leans.take j ++ [u]) = leanN (rules.map (·.1)) (p.2.leans.take j) ++ (if (decide (u.2 = 0) && decide (u.1 ∈ rules.map (·.1))) = true then [u.1] else []) := by
        unfold leanN
        rw [List.filter_append, List.map_append, List.filter_cons]
        split <;> rfl
      have hD9 := s9 _ _ hD6
      by_cases c0 : u.2 = 0
      · refine ⟨_, rfl, rfl, _, rfl, ?_⟩
        rw [decide_eq_true (show nV u.2 = V.int 0 by rw [c0]; rfl)]
        refine if_bl (fun _ => ?_) (fun z => nomatch z)
        have gt2 := DGet.k (k := Sum.inr u.1) hD9
        rw [stS_val] at gt2
        refine ⟨_, rfl, _, rfl, D, _, rfl, gt2, _, rfl, ?_⟩
        by_cases c1 : u.1 ∈ rules.map (·.1)
        · rw [if_pos c1]
          refine if_bl (fun _ => ?_) (fun z => nomatch z)
          refine ⟨_, rfl, _, hC, by rw [List.length_map]; exact small1000 (by omega), ?_, Same.own s9 nC⟩
          rw [upd_same, tk2, lone, decide_eq_true c0, decide_eq_true c1, if_pos (show (true && true) = true from rfl), List.map_append]
          rfl
        · rw [if_neg c1]
          refine if_bl (fun z => nomatch z) (fun _ => ?_)
          refine ⟨?_, s9⟩
          rw [tk2, lone, decide_eq_true c0, decide_eq_false c1, if_neg (by decide), List.append_nil]
          exact hC
      · refine ⟨_, rfl, rfl, _, rfl, ?_⟩
        rw [decide_eq_false (show ¬ nV u.2 = V.int 0 from fun z => c0 (by have := V.int.inj z; omega))]
        refine if_bl (fun z => nomatch z) (fun _ => ?_)
        refine if_bl (fun z => nomatch z) (fun _ => ?_)
        refine ⟨?_, s9⟩
        rw [tk2, lone, decide_eq_false c0, Bool.false_and, if_neg Bool.false_ne_true, List.append_nil]
        exact hC
    · rintro H9 ⟨hC, s9⟩
      rw [al.length, List.take_length] at hC
      have hD9 := s9 _ _ hD6
      have a19 := s9 _ _ a16
      refine ⟨adr p.1, C, _, _, rfl, rfl, a19, hC, ?_, _, _, rfl, adr, by rw [upd_ne aD]; exact hD9, fun z hz => ⟨?_, (had z hz).2⟩, inj, Same.own (s5.trans (s6.trans s9)) a2⟩
      · have h1 := leanN_len (rules.map (·.1)) p.2.leans
        have h2 := leans_len p.2
        rw [sizeLine_eq]
        show 0 + (List.map V.str _).length ≤ _
        rw [List.length_map]
        omega
      · by_cases c : z = p.1
        · subst c
          rw [upd_same, if_pos (by rw [tk]; exact List.mem_append.mpr (.inr (List.mem_singleton.mpr rfl))), stF_at nd hp]
          rfl
        · rw [upd_ne (fun e => c (inj z hz p.1 pin e))]
          have := (had z hz).1
          have m : z ∈ (rules.map (·.1)).take (i + 1) ↔ z ∈ (rules.map (·.1)).take i := by
            rw [tk, List.mem_append, List.mem_singleton]
            exact ⟨fun y => y.resolve_right c, .inl⟩
          rw [show (if z ∈ (rules.map (·.1)).take (i + 1) then stF rules z else []) = (if z ∈ (rules.map (·.1)).take i then stF rules z else []) from by
            by_cases y : z ∈ (rules.map (·.1)).take i
            · rw [if_pos (m.mpr y), if_pos y]
            · rw [if_neg (fun k => y (m.mp k)), if_neg y]]
          exact s9 _ _ (s6 _ _ this)
  · rintro σ H5 ⟨v2, v3, rfl, su⟩
    rw [e5.length, List.take_of_length_le (by rw [List.length_map]; exact Nat.le_refl _)] at su
    obtain ⟨adr, hD, had, inj, s5⟩ := su.ex
    refine ⟨_, rfl, D, _, rfl, hD, fun pl npl => ?_⟩
    have s6 : Same H5 (upd H5 pl (.lst ((stS adr (rules.map (·.1))).map fun kv => kV kv.1))) := same_new npl
    have hpl : (upd H5 pl (.lst ((stS adr (rules.map (·.1))).map fun kv => kV kv.1))) pl = some (.lst ((rules.map (·.1)).map V.str)) := by
      rw [upd_same]
      unfold stS
      rw [List.map_map]; rfl
    generalize upd H5 pl (.lst ((stS adr (rules.map (·.1))).map fun kv => kV kv.1)) = H6 at s6 hpl ⊢
    refine ⟨_, rfl, pl, D, rules.map (·.1), rules.map (·.1), stF rules, rfl, hpl, fun x hx => hx, ⟨adr, s6 _ _ hD, fun z hz => ?_⟩, by rw [List.length_map]; omega, fun z hz => ⟨?_, fun y hy => ?_⟩, fun v H7 fw s7 => ?_⟩
    · have := s6 _ _ (had z hz).1
      rwa [if_pos hz] at this
    · obtain ⟨i, hi⟩ := List.getElem?_of_mem hz
      rw [List.getElem?_map] at hi
      cases e : rules[i]? with
      | none => rw [e] at hi; cases hi
      | some p =>
        rw [e] at hi
        obtain rfl : p.1 = z := Option.some.inj hi
        rw [stF_at nd e]
        have h1 := leanN_len (rules.map (·.1)) p.2.leans
        have h2 := leans_len p.2
        have h3 := tr p (List.mem_of_getElem? e)
        omega
    · obtain ⟨i, hi⟩ := List.getElem?_of_mem hz
      rw [List.getElem?_map] at hi
      cases e : rules[i]? with
      | none => rw [e] at hi; cases hi
      | some p =>
        rw [e] at hi
        obtain rfl : p.1 = z := Option.some.inj hi
        rw [stF_at nd e] at hy
        exact leanN_in y hy
    · rw [first_ring fw]
      exact q _ (s5.trans (s6.trans s7))
def sp_look_formulas (K : PySem.W.Frag) : Sp := fun vs H Q E => ∃ (r : Addr) (F : Fm), vs = [.ref r] ∧ FmAt H r F ∧ FmOk F ∧ (∀ H', lookO F = none → Same H H' → Q (.bl true) H') ∧
  ∀ (d : Addr) (H' : Hp) (z x : Str), lookO F = some (z, x) → H' d = some (.xd [("name", .str x), ("word", .str z)]) → Same H H' → E (.ref (nsA K)) (some d) H'
theorem ok_look_formulas {f : Addr} {fd : FuncData} (F : Fun K "look_formulas" "look_formulas" s_look_formulas f fd) (T : Top w K mg) : FnOk P w K mg base (L2.CX P w) 4 f fd ["formulas"] (sp_look_formulas K) := by
  obtain ⟨f_refuse_formula, fd_refuse_formula, F_refuse_formula, b_refuse_formula, m_refuse_formula⟩ := T.d_refuse_formula
  have G_refuse_formula := ok_refuse_formula (P := P) (w := w) (base := base) F_refuse_formula T
  obtain ⟨f_first_again, fd_first_again, F_first_again, b_first_again, m_first_again⟩ := T.d_first_again
  have G_first_again := ok_first_again (P := P) (w := w) (base := base) F_first_again T
  obtain ⟨f_first_lost, fd_first_lost, F_first_lost, b_first_lost, m_first_lost⟩ := T.d_first_lost
  have G_first_lost := ok_first_lost (P := P) (w := w) (base := base) F_first_lost T
  obtain ⟨f_rule_on_ring, fd_rule_on_ring, F_rule_on_ring, b_rule_on_ring, m_rule_on_ring⟩ := T.d_rule_on_ring
  have G_rule_on_ring := ok_rule_on_ring (P := P) (w := w) (base := base) F_rule_on_ring T
  obtain ⟨fdI, N⟩ := T.x_ns
  have GI := ok_NsInit (P := P) (w := w) (base := base) N
  refine F.okX sc_look_formulas (fun vs H Q E h => ?_) (fun cdv A outer s H vs Q E hr h => ?_)
  · obtain ⟨r, F, rfl, _⟩ := h
    rfl
  obtain ⟨r, F, rfl, hF, ok, q1, q2⟩ := h
  have hF0 := hF
  obtain ⟨a1, a2, a3, a4, wv, rv, e0, e1, e2, e3, e4, e5, e6⟩ := hF
  refine ⟨_, (pss_cons (ps_asg (pv 0) (pg_tupK K rfl rfl (pgs_cons (pg_name (i := 1) sc_look_formulas.nd rfl (Or.inl rfl)) (pgs_cons (pg_name (i := 2) sc_look_formulas.nd rfl (Or.inl rfl)) (pgs_cons (pg_name (i := 3) sc_look_formulas.nd rfl (Or.inl rfl)) (pgs_cons (pg_name (i := 4) sc_look_formulas.nd rfl (Or.inl rfl)) pgs_nil))))))
      (pss_cons (ps_set (i := 5) sc_look_formulas.nd rfl (Or.inl rfl) (pe_op op_cat (pe_callTy (call_list_ofK K rfl) (by rfl) T.m_list (by decide +kernel) (pa_cons (pv 1) pa_nil)) (pe_lc (own := [("name", 6), ("tree", 7)]) (g := gTup K 2 (gCons (gName 6) (gCons (gName 7) gNil))) (tt := tYes) (by rfl) sc_look_formulas.nd (pi_tupK K rfl (pv 3)) (blkOk_by (own := [("name", 6), ("tree", 7)]) (N := N_look_formulas) (sc := defScope s_look_formulas) (by decide +kernel)) (fun _ _ _ _ _ => (pg_tupK K rfl rfl (pgs_cons (pg_name (i := 6) sc_look_formulas.nd rfl (Or.inl rfl)) (pgs_cons (pg_name (i := 7) sc_look_formulas.nd rfl (Or.inl rfl)) pgs_nil)))) (fun _ _ _ _ _ => pts_nil) (fun _ _ _ _ _ => (pv 6)))))
      (pss_cons (ps_expr (pe_callS G_refuse_formula (hr.mono (by decide)) (by rfl) m_refuse_formula F_refuse_formula.kp b_refuse_formula (fun σ => passAt (takes_of rfl rfl rfl rfl) σ) (pa_cons pe_str (pa_cons (pe_call G_first_again (hr.mono (by decide)) (by rfl) m_first_again F_first_again.kp b_first_again .nil pass0 (pa_cons (pv 5) pa_nil)) pa_nil))))
      (pss_cons (ps_expr (pe_callS G_refuse_formula (hr.mono (by decide)) (by rfl) m_refuse_formula F_refuse_formula.kp b_refuse_formula (fun σ => passAt (takes_of rfl rfl rfl rfl) σ) (pa_cons pe_str (pa_cons (pe_call G_first_again (hr.mono (by decide)) (by rfl) m_first_again F_first_again.kp b_first_again .nil pass0 (pa_cons (pe_lc (own := [("name", 6), ("things", 8)]) (g := gTup K 2 (gCons (gName 6) (gCons (gName 8) gNil))) (tt := tYes) (by rfl) sc_look_formulas.nd (pi_tupK K rfl (pv 2)) (blkOk_by (own := [("name", 6), ("things", 8)]) (N := N_look_formulas) (sc := defScope s_look_formulas) (by decide +kernel)) (fun _ _ _ _ _ => (pg_tupK K rfl rfl (pgs_cons (pg_name (i := 6) sc_look_formulas.nd rfl (Or.inl rfl)) (pgs_cons (pg_name (i := 8) sc_look_formulas.nd rfl (Or.inl rfl)) pgs_nil)))) (fun _ _ _ _ _ => pts_nil) (fun _ _ _ _ _ => (pv 6))) pa_nil)) pa_nil))))
      (pss_cons (ps_expr (pe_callS G_refuse_formula (hr.mono (by decide)) (by rfl) m_refuse_formula F_refuse_formula.kp b_refuse_formula (fun σ => passAt (takes_of rfl rfl rfl rfl) σ) (pa_cons pe_str (pa_cons (pe_call G_first_lost (hr.mono (by decide)) (by rfl) m_first_lost F_first_lost.kp b_first_lost .nil pass0 (pa_cons (pv 0) (pa_cons (pv 5) pa_nil))) pa_nil))))
      (pss_cons (ps_expr (pe_callS G_refuse_formula (hr.mono (by decide)) (by rfl) m_refuse_formula F_refuse_formula.kp b_refuse_formula (fun σ => passAt (takes_of rfl rfl rfl rfl) σ) (pa_cons pe_str (pa_cons (pe_call G_rule_on_ring (hr.mono (by decide)) (by rfl) m_rule_on_ring F_rule_on_ring.kp b_rule_on_ring .nil pass0 (pa_cons (pv 3) pa_nil)) pa_nil))))
      (pss_one (ps_ret pe_bl)))))))), ?_⟩
  have lo : F.own.length ≤ 1000 := by
    unfold Fm.own
    rw [List.length_append, List.length_map]
    have := ok.li
    have := ok.lr
    omega
  refine ⟨_, rfl, r, _, rfl, SqT.of e0, rfl, _, _, rfl, _, _, rfl, _, _, rfl, _, _, rfl, rfl, ?_⟩
  refine ⟨_, rfl, a1, _, rfl, .inr (SqT.of e1), fun L1 n1 => ?_⟩
  have s1 : Same H (upd H L1 (.lst (F.ins.map V.str))) := same_new n1
  have hL1 : (upd H L1 (.lst (F.ins.map V.str))) L1 = some (.lst (F.ins.map V.str)) := upd_same
  generalize upd H L1 (.lst (F.ins.map V.str)) = H1 at s1 hL1 ⊢
  refine ⟨_, rfl, a3, rfl, ⟨_, SqT.of (s1 _ _ e4)⟩, fun D nD => ?_⟩
  refine lc_tup (K := K) (a := a3) (xs := rv) (fun i H9 => H9 D = some (.lst (((F.rules.take i).map (·.1)).map V.str)) ∧ Same H1 H9) ⟨upd_same, same_new nD⟩ (fun i H9 _ ⟨_, s9⟩ => SqT.of (s9 _ _ (s1 _ _ e4))) ?_ ?_
  · rintro j z H9 hz ⟨hD, s9⟩
    obtain ⟨u, hu, b, c, rfl, hb, _⟩ := e5.getL hz
    refine ⟨b, _, rfl, SqT.of (s9 _ _ (s1 _ _ hb)), rfl, _, _, rfl, _, _, rfl, rfl, rfl, yes_in ⟨_, rfl, _, hD, ?_, ?_, Same.own s9 nD⟩⟩
    · have := ok.lr
      rw [List.length_map, List.length_map, List.length_take]
      exact small1000 (by omega)
    · rw [upd_same, List.take_add_one, hu, List.map_append, List.map_append]
      rfl
  rintro H2 ⟨hD, s2⟩
  rw [e5.length, List.take_length] at hD
  refine ⟨L1, D, _, _, rfl, rfl, s2 _ _ hL1, hD, ?_, fun p np => ?_⟩
  · rw [← List.length_append, ← List.map_append, List.length_map]
    exact little lo
  have s12 := s1.trans s2
  have s3 : Same H2 (upd H2 p (.lst (F.ins.map V.str ++ (F.rules.map (·.1)).map V.str))) := same_new np
  have hp : (upd H2 p (.lst (F.ins.map V.str ++ (F.rules.map (·.1)).map V.str))) p = some (.lst (F.own.map V.str)) := by
    rw [upd_same, ← List.map_append]; rfl
  generalize upd H2 p (.lst (F.ins.map V.str ++ (F.rules.map (·.1)).map V.str)) = H3 at s3 hp ⊢
  have s13 := s12.trans s3
  have stop : ∀ {z : Str} {o : Option Str} {H5 : Hp}, (∀ x, o = some x → lookO F = some (z, x)) → Same H H5 → ∀ (d : Addr) (H' : Hp) (x : Str), o = some x → H' d = some (.xd [("name", .str x), ("word", .str z)]) → Same H5 H' → E (.ref (nsA K)) (some d) H' := fun lk s5 d H' x e h1 s => q2 d H' _ x (lk x e) h1 (s5.trans s)
  refine ⟨_, rfl, p, F.own, rfl, hp, lo, fun H4 s4 => ?_⟩
  have s14 := s13.trans s4
  refine ⟨_, _, rfl, fun n1 => ?_, stop (fun x e => by unfold lookO; rw [e]) s14⟩
  refine ⟨_, rfl, a2, rfl, ⟨_, SqT.of (s14 _ _ e2)⟩, fun C nC => ?_⟩
  refine lc_tup (K := K) (a := a2) (xs := wv) (fun i H9 => H9 C = some (.lst (((F.was.take i).map (·.1)).map V.str)) ∧ Same H4 H9) ⟨upd_same, same_new nC⟩ (fun i H9 _ ⟨_, s9⟩ => SqT.of (s9 _ _ (s14 _ _ e2))) ?_ ?_
  · rintro j z H9 hz ⟨hC, s9⟩
    obtain ⟨u, hu, b, c, rfl, hb, _⟩ := e3.getL hz
    refine ⟨b, _, rfl, SqT.of (s9 _ _ (s14 _ _ hb)), rfl, _, _, rfl, _, _, rfl, rfl, rfl, yes_in ⟨_, rfl, _, hC, ?_, ?_, Same.own s9 nC⟩⟩
    · have := ok.lw
      rw [List.length_map, List.length_map, List.length_take]
      exact small1000 (by omega)
    · rw [upd_same, List.take_add_one, hu, List.map_append, List.map_append]
      rfl
  rintro H5 ⟨hC, s5⟩
  rw [e3.length, List.take_length] at hC
  have s15 := s14.trans s5
  refine ⟨C, F.kept, rfl, hC, ?_, fun H6 s6 => ?_⟩
  · have := ok.lw
    unfold Fm.kept
    rw [List.length_map]
    omega
  have s16 := s15.trans s6
  refine ⟨_, _, rfl, fun n2 => ?_, stop (fun x e => by unfold lookO; rw [n1]; dsimp only; rw [e]) s16⟩
  refine ⟨_, rfl, _, rfl, r, p, F, rfl, hF0.keep (TK.same s16), ok, s6 _ _ (s5 _ _ (s4 _ _ hp)), fun H7 s7 => ?_⟩
  have s17 := s16.trans s7
  refine ⟨_, _, rfl, fun n3 => ?_, stop (fun x e => by unfold lookO; rw [n1]; dsimp only; rw [n2]; dsimp only; rw [e]) s17⟩
  have ndR : (F.rules.map (·.1)).Nodup := by
    have := dup_nodup n1
    unfold Fm.own at this
    exact (List.nodup_append.mp this).2.1
  refine ⟨_, rfl, a3, rv, F.rules, rfl, s17 _ _ e4, e5.imp fun _ _ z => z.keep (TK.same s17), ndR, ok.lr, ok.tr, fun H8 s8 => ?_⟩
  have s18 := s17.trans s8
  refine ⟨_, _, rfl, fun n4 => ?_, stop (fun x e => by unfold lookO; rw [n1]; dsimp only; rw [n2]; dsimp only; rw [n3]; dsimp only; rw [e]) s18⟩
  exact q1 H8 (by unfold lookO; rw [n1]; dsimp only; rw [n2]; dsimp only; rw [n3]; dsimp only; rw [n4]) s18
end
/-! ### data of known size -/
structure Neat (d : PyData) (dp wt : Nat) : Prop where
  lay : d.canLay0 = true
  dep : d.depth ≤ dp
  wei : d.weight ≤ wt
  sho : d.intsShort 13 = true
  say : d.showable = true
  nod : d.hasDict = false
structure NeatAll (ds : List PyData) (dp wt : Nat) : Prop where
  lay : PyData.canLayAll0 ds = true
  dep : PyData.depthAll ds ≤ dp
  wei : PyData.weightAll ds ≤ wt
  sho : PyData.intsShortAll 13 ds = true
  say : PyData.showableAll ds = true
  nod : PyData.hasDictAll ds = false
theorem Neat.non {dp : Nat} : Neat .none dp 0 := ⟨rfl, Nat.zero_le _, Nat.le_refl _, by simp [PyData.intsShort], by simp [PyData.showable], by simp [PyData.hasDict]⟩
theorem Neat.bool {b : Bool} {dp : Nat} : Neat (.bool b) dp 0 := ⟨rfl, Nat.zero_le _, Nat.le_refl _, by simp [PyData.intsShort], by simp [PyData.showable], by simp [PyData.hasDict]⟩
theorem Neat.int {i : Int} {dp : Nat} (h : i.natAbs < 10 ^ 12) : Neat (.int i) dp 41 := by
  have l : i.natAbs.log2 < 40 := by
    by_cases z : i.natAbs = 0
    · rw [z]; decide
    · exact (Nat.log2_lt z).mpr (Nat.lt_trans h (by decide))
  refine ⟨rfl, Nat.zero_le _, ?_, ?_, ?_, by simp [PyData.hasDict]⟩
  · simp only [PyData.weight]
    split <;> omega
  · simp only [PyData.intsShort, decide_eq_true_eq]
    exact PyData.shown_int_le h
  · simp only [PyData.showable, decide_eq_true_eq]
    omega
theorem Neat.str {x : Str} {n dp : Nat} (h : PyData.canLay0 (.str x) = true) (hn : x.cps.size ≤ n) : Neat (.str x) dp n := ⟨h, Nat.zero_le _, hn, by simp [PyData.intsShort], by simp [PyData.showable], by simp [PyData.hasDict]⟩
theorem NeatAll.nil {dp : Nat} : NeatAll [] dp 0 := ⟨rfl, Nat.zero_le _, Nat.le_refl _, by simp [PyData.intsShortAll], by simp [PyData.showableAll], by simp [PyData.hasDictAll]⟩
theorem NeatAll.cons {d : PyData} {ds : List PyData} {dp a b : Nat} (h : Neat d dp a) (t : NeatAll ds dp b) : NeatAll (d :: ds) dp (a + 1 + b) := by
  refine ⟨?_, ?_, ?_, ?_, ?_, ?_⟩
  · simp only [PyData.canLayAll0, h.lay, t.lay, Bool.and_self]
  · simp only [PyData.depthAll]
    exact Nat.max_le.mpr ⟨h.dep, t.dep⟩
  · simp only [PyData.weightAll]
    have := h.wei
    have := t.wei
    omega
  · simp only [PyData.intsShortAll, h.sho, t.sho, Bool.and_self]
  · simp only [PyData.showableAll, h.say, t.say, Bool.and_self]
  · simp only [PyData.hasDictAll, h.nod, t.nod, Bool.or_self]
theorem Neat.mono {d : PyData} {a b c e : Nat} (h : Neat d a b) (x : a ≤ c) (y : b ≤ e) : Neat d c e := ⟨h.lay, Nat.le_trans h.dep x, Nat.le_trans h.wei y, h.sho, h.say, h.nod⟩
theorem NeatAll.mono {d : List PyData} {a b c e : Nat} (h : NeatAll d a b) (x : a ≤ c) (y : b ≤ e) : NeatAll d c e := ⟨h.lay, Nat.le_trans h.dep x, Nat.le_trans h.wei y, h.sho, h.say, h.nod⟩
theorem Neat.tup {ds : List PyData} {dp n : Nat} (h : NeatAll ds dp n) : Neat (.tuple ds) (dp + 1) n := by
  refine ⟨?_, ?_, ?_, ?_, ?_, ?_⟩
  · simp only [PyData.canLay0, h.lay]
  · simp only [PyData.depth]
    have := h.dep
    omega
  · simp only [PyData.weight]
    exact h.wei
  · simp only [PyData.intsShort, h.sho]
  · simp only [PyData.showable, h.say]
  · simp only [PyData.hasDict, h.nod]
theorem Neat.lst {ds : List PyData} {dp n : Nat} (h : NeatAll ds dp n) : Neat (.list ds) (dp + 1) n := by
  refine ⟨?_, ?_, ?_, ?_, ?_, ?_⟩
  · simp only [PyData.canLay0, h.lay]
  · simp only [PyData.depth]
    have := h.dep
    omega
  · simp only [PyData.weight]
    exact h.wei
  · simp only [PyData.intsShort, h.sho]
  · simp only [PyData.showable, h.say]
  · simp only [PyData.hasDict, h.nod]
theorem NeatAll.map {α : Type} {f : α → PyData} {dp n : Nat} : ∀ {l : List α}, (∀ x ∈ l, Neat (f x) dp n) → NeatAll (l.map f) dp (l.length * (n + 1))
  | [], _ => by rw [List.length_nil, Nat.zero_mul]; exact .nil
  | x :: l, h => by
    have t : NeatAll (l.map f) dp (l.length * (n + 1)) := NeatAll.map fun y hy => h y (List.mem_cons_of_mem _ hy)
    have := NeatAll.cons (h x (List.mem_cons_self ..)) t
    refine NeatAll.mono this (Nat.le_refl _) ?_
    rw [List.length_cons, Nat.add_mul]
    omega
theorem Neat.shaped {d : PyData} {dp n : Nat} (h : Neat d dp n) (k : dp ≤ 60) : SeqAt.shaped d = true := by
  unfold SeqAt.shaped
  rw [h.lay, Bool.true_and]
  exact decide_eq_true (by have := h.dep; omega)
theorem Neat.fits {d : PyData} {dp n : Nat} (h : Neat d dp n) (k : dp ≤ 60) (m : n ≤ 1000000) : d.shown.length ≤ sizeLine := by
  refine PyData.shown_fits_of_layable0 (B := 13) (by decide) (by decide) ?_ h.sho
  have a : d.canLay0 = true := h.lay
  have b : decide (d.depth ≤ 64) = true := decide_eq_true (by have := h.dep; omega)
  have c : decide (d.weight ≤ 2 ^ 20) = true := decide_eq_true (by have := h.wei; omega)
  unfold PyData.layable0
  rw [a, b, c]
  rfl
theorem dp_ints {K : PySem.W.Frag} {H : Hp} : ∀ ns : List Int, DpAll K H (ns.map V.int) (ns.map PyData.int)
  | [] => .nil
  | n :: ns => .cons (.int n) (dp_ints ns)
theorem dp_nats {K : PySem.W.Frag} {H : Hp} : ∀ ns : List Nat, DpAll K H (ns.map nV) (ns.map fun n => PyData.int ((n : Nat) : Int))
  | [] => .nil
  | n :: ns => .cons (.int _) (dp_nats ns)
theorem eqv_nil {ds : List PyData} : PyData.eqvAll ds [] = ds.isEmpty := by cases ds <;> rfl
def Small (v : Int) : Prop := -1000000 ≤ v ∧ v ≤ 1000000
section
variable {P : Program} {w : World} {K : PySem.W.Frag} {mg : Str → Option Value} {base : Heap}
def sp_law_thing (K : PySem.W.Frag) : Sp := fun vs H Q _ => ∃ f c : Addr, vs = [.ref f] ∧ Flow H f c ∧ ∀ (v : Int) (H' : Hp), Small v → Flow H' f c → But f H H' → Q (.int v) H'
theorem ok_law_thing {f : Addr} {fd : FuncData} (F : Fun K "_law_thing" "_law_thing" s_law_thing f fd) (T : Top w K mg) : FnOk P w K mg base CX0 2 f fd ["_law_flow_here"] (sp_law_thing K) := by
  obtain ⟨f_law_pick, fd_law_pick, F_law_pick, b_law_pick, m_law_pick⟩ := T.d_law_pick
  have G_law_pick := ok_law_pick (P := P) (w := w) (base := base) F_law_pick T
  refine F.ok sc_law_thing (fun vs H Q E h => ?_) (fun cdv A outer s H vs Q E hr h => ?_)
  · obtain ⟨f, c, rfl, _⟩ := h
    rfl
  obtain ⟨f, c, rfl, hF, q⟩ := h
  refine ⟨_, (pss_cons (ps_if (pt_cmpR op_gt (pe_call G_law_pick (hr.mono (by decide)) (by rfl) m_law_pick F_law_pick.kp b_law_pick .nil pass0 (pa_cons (pv 0) (pa_cons pe_int pa_nil))) pe_int (nomark _)) (pss_one (ps_ret (pe_op op_sub (pe_call G_law_pick (hr.mono (by decide)) (by rfl) m_law_pick F_law_pick.kp b_law_pick .nil pass0 (pa_cons (pv 0) (pa_cons pe_int pa_nil))) pe_int))) pss_nil)
      (pss_one (ps_ret (pe_op op_sub (pe_call G_law_pick (hr.mono (by decide)) (by rfl) m_law_pick F_law_pick.kp b_law_pick .nil pass0 (pa_cons (pv 0) (pa_cons pe_int pa_nil))) pe_int)))), ?_⟩
  refine ⟨_, rfl, f, c, 3, rfl, by decide, by decide +kernel, hF, fun v1 H1 a1 b1 F1 B1 => ⟨_, _, rfl, rfl, _, rfl, if_bl (fun _ => ?_) (fun _ => ?_)⟩⟩
  · exact ⟨_, rfl, f, c, 7, rfl, by decide, by decide +kernel, F1, fun v2 H2 a2 b2 F2 B2 => ⟨_, _, rfl, rfl, q _ _ ⟨by omega, by omega⟩ F2 (B1.trans B2)⟩⟩
  · exact ⟨_, rfl, f, c, 2000001, rfl, by decide, by decide +kernel, F1, fun v2 H2 a2 b2 F2 B2 => ⟨_, _, rfl, rfl, q _ _ ⟨by omega, by omega⟩ F2 (B1.trans B2)⟩⟩
end
section
variable {P : Program} {w : World} {K : PySem.W.Frag} {mg : Str → Option Value} {base : Heap}
def sp_law_shuffled (K : PySem.W.Frag) : Sp := fun vs H Q _ => ∃ (f c l : Addr) (xs : List V), vs = [.ref f, .ref l] ∧ SqL K H l xs ∧ l ≠ f ∧ xs.length ≤ 500 ∧ Flow H f c ∧
  ∀ (p : Addr) (ys : List V) (H' : Hp), ys.Perm xs → H p = none → H' p = some (.lst ys) → Flow H' f c → But f H H' → Q (.ref p) H'
theorem But.seqL {K : PySem.W.Frag} {f a : Addr} {H H1 : Hp} {xs : List V} (b : But f H H1) (h : SqL K H a xs) (n : a ≠ f) : SqL K H1 a xs := by
  rcases h with h | h
  · left
    rcases h with h | ⟨o, h⟩
    · exact .inl (b _ _ h n)
    · exact .inr ⟨o, b _ _ h n⟩
  · exact .inr h
theorem same_seqL {K : PySem.W.Frag} {a : Addr} {H H1 : Hp} {xs : List V} (b : Same H H1) (h : SqL K H a xs) : SqL K H1 a xs := by
  rcases h with h | h
  · left
    rcases h with h | ⟨o, h⟩
    · exact .inl (b _ _ h)
    · exact .inr ⟨o, b _ _ h⟩
  · exact .inr h
theorem log_small {m : Nat} (h : m ≤ 500) : ((m : Int)).natAbs.log2 < 9000 := by
  rw [Int.natAbs_natCast]
  exact Nat.lt_of_le_of_lt (Nat.log2_le_self m) (by omega)
theorem perm_erase {α : Type} : ∀ {l : List α} {j : Nat} {y : α}, l[j]? = some y → (y :: l.eraseIdx j).Perm l
  | [], _, _, h => nomatch h
  | a :: l, 0, y, h => by
    cases h
    exact List.Perm.refl _
  | a :: l, j + 1, y, h => by
    have ih : (y :: l.eraseIdx j).Perm l := perm_erase h
    exact (List.Perm.swap a y _).trans (ih.cons a)
theorem ok_law_shuffled {f : Addr} {fd : FuncData} (F : Fun K "_law_shuffled" "_law_shuffled" s_law_shuffled f fd) (T : Top w K mg) : FnOk P w K mg base CX0 2 f fd ["_law_flow_here", "_law_some"] (sp_law_shuffled K) := by
  obtain ⟨f_law_pick, fd_law_pick, F_law_pick, b_law_pick, m_law_pick⟩ := T.d_law_pick
  have G_law_pick := ok_law_pick (P := P) (w := w) (base := base) F_law_pick T
  refine F.ok sc_law_shuffled (fun vs H Q E h => ?_) (fun cdv A outer s H vs Q E hr h => ?_)
  · obtain ⟨f, c, l, xs, rfl, _⟩ := h
    rfl
  obtain ⟨f, c, l, xs, rfl, hL, nl, hlen, hF, q⟩ := h
  refine ⟨_, (pss_cons (ps_set (i := 2) sc_law_shuffled.nd rfl (Or.inr rfl) (pe_callTy (call_list_ofK K rfl) (by rfl) T.m_list (by decide +kernel) (pa_cons (pv 1) pa_nil)))
      (pss_one (ps_ret (pe_lc (own := [("_law_k", 3)]) (g := gName 3) (tt := tYes) (by rfl) sc_law_shuffled.nd (pi_range1 (by rfl) T.m_range (pa_cons (pe_callB (call_len_seqK K rfl) (by rfl) T.m_len (by decide +kernel) (pa_cons (pv 1) pa_nil)) pa_nil)) (blkOk_by (own := [("_law_k", 3)]) (N := N_law_shuffled) (sc := defScope s_law_shuffled) (by decide +kernel)) (fun _ _ _ _ _ => (pg_name (i := 3) sc_law_shuffled.nd rfl (Or.inl rfl))) (fun _ _ _ _ _ => pts_nil) (fun _ _ _ _ _ => (pe_bmK K rfl PySem.F.plainAttrs_list PySem.F.slot_list_pop PySem.F.type_list_pop mt_popAt (pv 2) (pa_cons (pe_call G_law_pick (hr.mono (by decide)) (by rfl) m_law_pick F_law_pick.kp b_law_pick .nil pass0 (pa_cons (pv 0) (pa_cons (pe_callB (call_len_seqK K rfl) (by rfl) T.m_len (by decide +kernel) (pa_cons (pv 2) pa_nil)) pa_nil))) pa_nil))))))), ?_⟩
  refine ⟨_, rfl, l, _, rfl, .inl hL, fun lf nlf => ?_⟩
  refine ⟨_, rfl, l, _, rfl, .inl (same_seqL (same_new nlf) hL), _, rfl, by omega, (by omega), fun D nD => ?_⟩
  have F1 : Flow (upd H lf (.lst xs)) f c := hF.new nlf
  have dl : D ≠ lf := (ne_of_none upd_same nD).symm
  refine lc_range (lo := 0) (n := xs.length) (fun i H5 => ∃ acc rest : List V, H5 D = some (.lst acc) ∧ H5 lf = some (.lst rest) ∧ acc.length = i ∧ rest.length + i = xs.length ∧ (acc ++ rest).Perm xs ∧ Flow H5 f c ∧ But f H H5)
    ⟨[], xs, upd_same, by rw [upd_ne dl.symm]; exact upd_same, rfl, by omega, List.Perm.refl _, F1.new nD, (But.refl.new nlf).new nD⟩ ?_ ?_
  · rintro i H5 hi ⟨acc, rest, hD, hl, ha, hr2, hp, F5, B5⟩
    refine ⟨rfl, yes_in ?_⟩
    refine ⟨_, rfl, .inl ⟨rfl, _, SqL.of hl⟩, _, rfl, _, rfl, lf, _, rfl, .inl (SqL.of hl), f, c, ((rest.length : Nat) : Int), rfl, by omega, log_small (by omega), F5, fun v H6 v0 v1 F6 B6 => ?_⟩
    have hl6 := B6 _ _ hl (hF.ne nlf)
    have hv : v.toNat < rest.length := by omega
    have e1 : seqIndex? v rest.length = some v.toNat := by
      rw [seqIndex_of v0 (by omega)]
    refine ⟨lf, rest, v, v.toNat, rest[v.toNat], rfl, rfl, hl6, by omega, by omega, e1, List.getElem?_eq_getElem hv, ?_⟩
    have hD6 := B6 _ _ hD (fun e => by rw [e] at nD; rw [show upd H lf (.lst xs) f = H f from upd_ne (hF.ne nlf).symm] at nD; obtain ⟨_, _, _, _, _, e1, _⟩ := hF; rw [e1] at nD; cases nD)
    refine ⟨acc, by rw [upd_ne dl]; exact hD6, small1000 (by omega), acc ++ [rest[v.toNat]], rest.eraseIdx v.toNat, upd_same, by rw [upd_ne dl.symm]; exact upd_same, by rw [List.length_append, ha]; rfl, ?_, ?_, ?_, ?_⟩
    · rw [List.length_eraseIdx, if_pos hv]
      omega
    · refine List.Perm.trans ?_ hp
      rw [List.append_assoc]
      exact List.Perm.append_left acc (perm_erase (List.getElem?_eq_getElem hv))
    · have dc : D ≠ c := fun e => by
        rw [e] at nD
        obtain ⟨_, _, _, _, _, _, e1, _⟩ := F1
        rw [e1] at nD
        cases nD
      exact (F6.lst (hF.ne nlf) (hF.nec nlf)).lst (F1.ne nD) dc
    · exact ((B5.trans B6).own nlf).own (same_none (same_new nlf) nD)
  · rintro H5 ⟨acc, rest, hD, hl, ha, hr2, hp, F5, B5⟩
    have er : rest = [] := by
      cases rest with
      | nil => rfl
      | cons a l => simp at hr2
    subst er
    rw [List.append_nil] at hp
    exact q D acc H5 hp (same_none (same_new nlf) nD) hD F5 B5
end
/-! ### a text's signs as a list; a text several times -/
section
variable {X : Cx}
theorem call_list_strK (hc : X.calm = true) : CallR X (.type "list") (fun xs H Q => ∃ z : Str, xs = [.str z] ∧ z.cps.size ≤ sizeLine ∧ ∀ l, H l = none → Q (.ref l) (upd H l (.lst (z.cps.toList.map fun c => V.str ⟨#[c]⟩)))) := by
  intro pins st σ H xs us Q J rel asked
  obtain ⟨z, rfl, hz, now⟩ := asked
  obtain ⟨u, rfl, t, rfl⟩ := vals1 rel
  refine call_list_str (J.ok.hd hc) z t (fun h' tk acc c kp at_ items => ?_) hz
  have len : (z.cps.toList.map fun c => V.str ⟨#[c]⟩).length = acc.toList.length := by
    rw [List.length_map, Array.length_toList, Array.length_toList, items.1]
  refine ⟨.ref st.heap.objs.size, upd H st.heap.objs.size (.lst (z.cps.toList.map fun c => V.str ⟨#[c]⟩)), J.laid kp (Nat.le_refl _) (show ObjOk X.prog X.w _ _ _ (.lst (z.cps.toList.map fun c => V.str ⟨#[c]⟩)) from ⟨by rw [List.length_map, Array.length_toList]; exact hz, acc.toList, c, ?_, ?_⟩), rfl, now _ (J.hok.fresh (Nat.le_refl _))⟩
  · refine vals_of_at len fun j x v e1 e2 => ?_
    obtain ⟨cc, tt, e3, e4⟩ := items.2 j v (by rw [← Array.getElem?_toList]; exact e2)
    rw [List.getElem?_map, Array.getElem?_toList, e3] at e1
    have e1 : V.str ⟨#[cc]⟩ = x := Option.some.inj e1
    subst e1
    exact ⟨tt, e4⟩
  · rw [Array.toArray_toList]
    exact at_
theorem op_rep_str : OpR X (binaryOp .Mult) (fun x y H Q => ∃ (z : Str) (n : Int), x = .str z ∧ y = .int n ∧ MulOk z n ∧ Q (.str (Txt.mul z n)) H) := by
  intro pins st σ H x y v u Q J rx ry asked
  obtain ⟨z, n, rfl, rfl, hm, now⟩ := asked
  obtain ⟨t, rfl⟩ := rx
  obtain ⟨t2, rfl⟩ := ry
  exact PySem.SB.mul hm fun t3 k => ⟨.str (Txt.mul z n), H, J.tok _, ⟨_, rfl⟩, now⟩
end
/-! ### words and names drawn -/
abbrev cps (z : Str) : List Nat := z.cps.toList
theorem strlen (x : Str) : x.length = (cps x).length := by simp [Str.length, cps]
theorem join_cps : ∀ ys : List Str, cps (Txt.join "" ys) = ys.flatMap cps := by
  intro ys
  rw [TL.join_eq]
  induction ys with
  | nil => rfl
  | cons x r ih =>
    cases r with
    | nil => rw [List.flatMap_cons, List.flatMap_nil, List.append_nil]; rfl
    | cons y r =>
      have e : (Str.join "" (x :: y :: r)) = (x ++ ("" : Str)) ++ Str.join "" (y :: r) := rfl
      rw [e, List.flatMap_cons, ← ih]
      show ((x.cps ++ ("" : Str).cps) ++ (Str.join "" (y :: r)).cps).toList = _
      rw [Array.toList_append, Array.toList_append, show ("" : Str).cps.toList = [] from by decide +kernel, List.append_nil]
theorem join_len : ∀ ys : List Str, (Txt.join "" ys).length = (ys.map (·.length)).sum := by
  intro ys
  rw [strlen, join_cps, List.length_flatMap]
  congr 1
theorem ones_sum : ∀ {ys : List Str}, (∀ y ∈ ys, y.length = 1) → (ys.map (·.length)).sum = ys.length
  | [], _ => rfl
  | y :: r, h => by
    have a := h y (List.mem_cons_self ..)
    have b := ones_sum fun z hz => h z (List.mem_cons_of_mem _ hz)
    rw [List.map_cons, List.sum_cons, List.length_cons, a, b]
    omega
theorem ones_fit {ys : List Str} (h : ∀ y ∈ ys, y.length = 1) (l : ys.length ≤ 1000) : (ys.map (·.length)).sum + ys.length * Str.length "" ≤ 16777216 := by
  rw [ones_sum h, show Str.length ("" : Str) = 0 by decide +kernel]
  omega
theorem str_inj {a b : Str} (h : cps a = cps b) : a = b := by
  obtain ⟨⟨a⟩⟩ := a
  obtain ⟨⟨b⟩⟩ := b
  have h : a = b := h
  rw [h]
def Ltr (z : Str) : Prop := ∀ c ∈ cps z, 97 ≤ c ∧ c ≤ 122
/-- a word of one to m letters -/
structure Wd (m : Nat) (z : Str) : Prop where
  lo : 1 ≤ z.length
  hi : z.length ≤ m
  ltr : Ltr z
theorem letters_ok : ∀ c ∈ cps "abcdefghijklmnopqrstuvwxyz", 97 ≤ c ∧ c ≤ 122 := by decide +kernel
theorem sign_at {z : Str} {v : Int} (h0 : 0 ≤ v) (h1 : v < (z.length : Int)) : ∃ c, atI z.cps.toList v = some c ∧ c ∈ cps z := by
  have hl : z.cps.toList.length = z.length := Array.length_toList
  have hk : v.toNat < z.cps.toList.length := by omega
  have q : atI z.cps.toList ((v.toNat : Nat) : Int) = some z.cps.toList[v.toNat] := atI_nat (List.getElem?_eq_getElem hk)
  rw [show ((v.toNat : Nat) : Int) = v by omega] at q
  exact ⟨_, q, List.getElem_mem hk⟩
def takL : List Str := ["in", "out", "was", "if", "then", "else", "most", "least"]
section
variable {P : Program} {w : World} {K : PySem.W.Frag} {mg : Str → Option Value} {base : Heap}
def sp_law_word (K : PySem.W.Frag) : Sp := fun vs H Q _ => ∃ (f c : Addr) (m : Nat), vs = [.ref f, nV m] ∧ 1 ≤ m ∧ m ≤ 8 ∧ Flow H f c ∧ ∀ (a : Str) (H' : Hp), Wd m a → Flow H' f c → But f H H' → Q (.str a) H'
theorem ok_law_word {f : Addr} {fd : FuncData} (F : Fun K "_law_word" "_law_word" s_law_word f fd) (T : Top w K mg) : FnOk P w K mg base CX0 2 f fd ["_law_flow_here", "_law_most"] (sp_law_word K) := by
  obtain ⟨f_law_pick, fd_law_pick, F_law_pick, b_law_pick, m_law_pick⟩ := T.d_law_pick
  have G_law_pick := ok_law_pick (P := P) (w := w) (base := base) F_law_pick T
  refine F.ok sc_law_word (fun vs H Q E h => ?_) (fun cdv A outer s H vs Q E hr h => ?_)
  · obtain ⟨f, c, m, rfl, _⟩ := h
    rfl
  obtain ⟨f, c, m, rfl, m1, m8, hF, q⟩ := h
  refine ⟨_, (pss_cons (ps_set (i := 2) sc_law_word.nd rfl (Or.inr rfl) pe_str)
      (pss_one (ps_ret (pe_join pe_str (pe_lc (own := [("_law_k", 3)]) (g := gName 3) (tt := tYes) (by rfl) sc_law_word.nd (pi_range1 (by rfl) T.m_range (pa_cons (pe_op op_add pe_int (pe_call G_law_pick (hr.mono (by decide)) (by rfl) m_law_pick F_law_pick.kp b_law_pick .nil pass0 (pa_cons (pv 0) (pa_cons (pv 1) pa_nil)))) pa_nil)) (blkOk_by (own := [("_law_k", 3)]) (N := N_law_word) (sc := defScope s_law_word) (by decide +kernel)) (fun _ _ _ _ _ => (pg_name (i := 3) sc_law_word.nd rfl (Or.inl rfl))) (fun _ _ _ _ _ => pts_nil) (fun _ _ _ _ _ => (pe_ix ix_str (pv 2) (pe_call G_law_pick (hr.mono (by decide)) (by rfl) m_law_pick F_law_pick.kp b_law_pick .nil pass0 (pa_cons (pv 0) (pa_cons pe_int pa_nil))) (fun _ _ => rfl)))))))), ?_⟩
  refine ⟨⟨_, rfl⟩, ?_⟩
  refine ⟨_, rfl, _, rfl, f, c, ((m : Nat) : Int), rfl, by omega, log_small (by omega), hF, fun tv H1 t0 t1 F1 B1 => ?_⟩
  refine ⟨_, _, rfl, rfl, _, rfl, by omega, by omega, fun D nD => lc_range (lo := 0) (n := (1 + tv).toNat) (fun i H5 => ∃ ys : List Str, H5 D = some (.lst (ys.map V.str)) ∧ ys.length = i ∧ (∀ y ∈ ys, y.length = 1) ∧ (∀ y ∈ ys, Ltr y) ∧ Flow H5 f c ∧ But f H1 H5) ⟨[], upd_same, rfl, (fun _ z => nomatch z), (fun _ z => nomatch z), F1.new nD, But.refl.new nD⟩ ?_ ?_⟩
  · rintro i H5 hi ⟨ys, hD, ly, on, lt, F5, B5⟩
    have mf : D ≠ f := F1.ne nD
    have mc : D ≠ c := F1.nec nD
    refine ⟨rfl, yes_in ⟨_, rfl, _, rfl, f, c, 26, rfl, by decide, by decide +kernel, F5, fun v H6 v0 v1 F6 B6 => ?_⟩⟩
    obtain ⟨cc, ec, mc2⟩ := sign_at (z := "abcdefghijklmnopqrstuvwxyz") v0 (by rw [show Str.length "abcdefghijklmnopqrstuvwxyz" = 26 by decide +kernel]; exact v1)
    refine ⟨_, v, cc, rfl, rfl, by decide +kernel, ec, _, B6 _ _ hD mf, ?_, ys ++ [⟨#[cc]⟩], ?_, ?_, ?_, ?_, F6.lst mf mc, (B5.trans B6).own nD⟩
    · rw [List.length_map, ly]; exact small1000 (by omega)
    · rw [upd_same, List.map_append]; rfl
    · rw [List.length_append, ly]; rfl
    · intro z hz
      rcases List.mem_append.mp hz with hz | hz
      · exact on z hz
      · rw [List.mem_singleton.mp hz]; rfl
    · intro z hz
      rcases List.mem_append.mp hz with hz | hz
      · exact lt z hz
      · rw [List.mem_singleton.mp hz]
        intro d hd
        obtain rfl : d = cc := List.mem_singleton.mp hd
        exact letters_ok d mc2
  · rintro H5 ⟨ys, hD, ly, on, lt, F5, B5⟩
    refine ⟨_, D, ys, rfl, rfl, .inl (SqL.of hD), ones_fit on (by omega), ?_⟩
    refine q _ _ ⟨?_, ?_, ?_⟩ F5 (B1.trans B5)
    · rw [join_len, ones_sum on]; omega
    · rw [join_len, ones_sum on]; omega
    · intro d hd
      rw [join_cps] at hd
      obtain ⟨y, hy, hd⟩ := List.mem_flatMap.mp hd
      exact lt y hy d hd
def sp_law_taken (K : PySem.W.Frag) : Sp := fun vs H Q _ => vs = [] ∧ ∀ (p : Addr) (H' : Hp), H p = none → H' p = some (.lst (takL.map V.str)) → Same H H' → Q (.ref p) H'
theorem ok_law_taken {f : Addr} {fd : FuncData} (F : Fun K "_law_taken" "_law_taken" s_law_taken f fd) (T : Top w K mg) : FnOk P w K mg base CX0 1 f fd [] (sp_law_taken K) := by
  refine F.ok sc_law_taken (fun vs H Q E h => ?_) (fun cdv A outer s H vs Q E hr h => ?_)
  · obtain ⟨rfl, _⟩ := h
    rfl
  obtain ⟨rfl, q⟩ := h
  refine ⟨_, (pss_one (ps_ret (pe_lst (pa_cons pe_str (pa_cons pe_str (pa_cons pe_str (pa_cons pe_str (pa_cons pe_str (pa_cons pe_str (pa_cons pe_str (pa_cons pe_str pa_nil))))))))))), ?_⟩
  exact ⟨(by show 8 ≤ sizeLine; decide), fun p hp => q p _ hp upd_same (same_new hp)⟩
end
def ZA : Str := "zyxwvutsrqponmlkjihgfedcba"
def zaS (j : Nat) : Str := ⟨#[122 - j]⟩
theorem za_at : ∀ j < 26, (cps ZA)[j]? = some (122 - j) := by decide +kernel
theorem zaS_inj {i j : Nat} (hi : i < 26) (hj : j < 26) (h : zaS i = zaS j) : i = j := by
  have : cps (zaS i) = cps (zaS j) := by rw [h]
  have : [122 - i] = [122 - j] := this
  have := (List.cons.inj this).1
  omega
theorem zaS_wd {j : Nat} (h : j < 26) : Wd 6 (zaS j) := ⟨Nat.le_refl 1, (by show 1 ≤ 6; decide), fun c hc => by
  obtain rfl : c = 122 - j := List.mem_singleton.mp hc
  omega⟩
theorem za_few {s : Nat} {forb : List Str} (hs : s < 26) (h : ∀ j, j < s → zaS j ∈ forb) : s ≤ forb.length := by
  have := few_in (l := (List.range s).map zaS) (m := forb) ?_ ?_
  · rwa [List.length_map, List.length_range] at this
  · rw [List.nodup_iff_pairwise_ne, List.pairwise_map]
    exact List.Pairwise.imp_of_mem (fun {a b} ha hb n e => n (zaS_inj (by have := List.mem_range.mp ha; omega) (by have := List.mem_range.mp hb; omega) e)) (List.nodup_iff_pairwise_ne.mp List.nodup_range)
  · intro x hx
    obtain ⟨j, hj, rfl⟩ := List.mem_map.mp hx
    exact h j (List.mem_range.mp hj)
theorem cut6 {z : Str} (h : z.length ≤ 6) : cutS z none (some 6) = z := by
  refine str_inj ?_
  unfold cutS
  show (List.take _ (List.drop _ (cps z))) = cps z
  rw [show (6 : Int) = ((6 : Nat) : Int) from rfl, HT.sIx_nat, HT.sIx_none, List.drop_zero, Nat.sub_zero, Nat.min_eq_right h, List.take_of_length_le (by rw [← strlen]; exact Nat.le_refl _)]
theorem Wd.cat {a b : Nat} {x y : Str} (h : Wd a x) (g : Wd b y) : Wd (a + b) (x ++ y) := by
  have e : (x ++ y).length = x.length + y.length := Array.size_append ..
  refine ⟨by rw [e]; have := h.lo; omega, by rw [e]; exact Nat.add_le_add h.hi g.hi, fun c hc => ?_⟩
  have hc : c ∈ (x.cps ++ y.cps).toList := hc
  rw [Array.toList_append] at hc
  rcases List.mem_append.mp hc with z | z
  · exact h.ltr c z
  · exact g.ltr c z
theorem mul_one (z : Str) : Txt.mul z 1 = z := rfl
theorem mulOk_one (z : Str) : MulOk z 1 := ⟨by decide, fun _ h => by simp at h, fun _ h => by simp at h⟩
theorem flat_strs (l : List Str) : (l.map V.str).all flatV = true := List.all_eq_true.mpr fun x hx => by
  obtain ⟨y, _, rfl⟩ := List.mem_map.mp hx
  rfl
theorem or_in {K : PySem.W.Frag} {nm : Str} {ns : List Str} {p : Addr} {σ : L2.St} {H : Hp} {Q : Bool → Hp → Prop} (h5 : σ[5]? = some (some (.str nm))) (h2 : σ[2]? = some (some (.ref p))) (hp : H p = some (.lst (ns.map V.str))) (yes : ∀ Hx, Same H Hx → nm ∈ ns ++ takL → Q true Hx) (no : ∀ Hx, Same H Hx → nm ∉ ns ++ takL → Q false Hx) :
    tOr (tTest (tOp (rIn K false) (tVar 5) (tVar 2))) (tTest (tOp (rIn K false) (tVar 5) (tCall (sp_law_taken K) [] E0 tNil))) σ H Q := by
  refine ⟨_, h5, _, h2, p, _, rfl, .inl (SqL.of hp), rfl, flat_strs ns, _, rfl, if_in (zs := ns) (fun e => ?_) (fun e => ?_)⟩
  · exact yes H (Same.refl _) (List.mem_append.mpr (.inl e))
  · refine ⟨_, h5, rfl, fun p2 H1 np hp1 s1 => ⟨p2, _, rfl, .inl (SqL.of hp1), rfl, flat_strs takL, _, rfl, ?_⟩⟩
    cases c : inV (.str nm) (takL.map V.str) with
    | true => exact yes H1 s1 (List.mem_append.mpr (.inr (inV_strs.mp c)))
    | false => exact no H1 s1 fun z => (List.mem_append.mp z).elim e fun z => by rw [inV_strs.mpr z] at c; cases c
section
variable {P : Program} {w : World} {K : PySem.W.Frag} {mg : Str → Option Value} {base : Heap}
def sp_law_names (K : PySem.W.Frag) : Sp := fun vs H Q _ => ∃ (f c : Addr) (m : Nat), vs = [.ref f, nV m] ∧ 1 ≤ m ∧ m ≤ 9 ∧ Flow H f c ∧ ∀ (p : Addr) (ns : List Str) (H' : Hp), H p = none → H' p = some (.lst (ns.map V.str)) → ns.length = m → ns.Nodup → (∀ z ∈ ns, Wd 6 z ∧ z ∉ takL) → Flow H' f c → But f H H' → Q (.ref p) H'
theorem ok_law_names {f : Addr} {fd : FuncData} (F : Fun K "_law_names" "_law_names" s_law_names f fd) (T : Top w K mg) : FnOk P w K mg base CX0 3 f fd ["_law_flow_here", "_law_many"] (sp_law_names K) := by
  obtain ⟨f_law_word, fd_law_word, F_law_word, b_law_word, m_law_word⟩ := T.d_law_word
  have G_law_word := ok_law_word (P := P) (w := w) (base := base) F_law_word T
  obtain ⟨f_law_pick, fd_law_pick, F_law_pick, b_law_pick, m_law_pick⟩ := T.d_law_pick
  have G_law_pick := ok_law_pick (P := P) (w := w) (base := base) F_law_pick T
  obtain ⟨f_law_taken, fd_law_taken, F_law_taken, b_law_taken, m_law_taken⟩ := T.d_law_taken
  have G_law_taken := ok_law_taken (P := P) (w := w) (base := base) F_law_taken T
  refine F.ok sc_law_names (fun vs H Q E h => ?_) (fun cdv A outer s H vs Q E hr h => ?_)
  · obtain ⟨f, c, m, rfl, _⟩ := h
    rfl
  obtain ⟨f, c, mm, rfl, mm1, mm9, hF, q⟩ := h
  refine ⟨_, (pss_cons (ps_set (i := 2) sc_law_names.nd rfl (Or.inl rfl) (pe_lst pa_nil))
      (pss_cons (ps_set (i := 3) sc_law_names.nd rfl (Or.inl rfl) (pe_call G_law_word (hr.mono (by decide)) (by rfl) m_law_word F_law_word.kp b_law_word .nil pass0 (pa_cons (pv 0) (pa_cons pe_int pa_nil))))
      (pss_cons (ps_for PassesOwn.never rfl (pi_range1 (by rfl) T.m_range (pa_cons (pv 1) pa_nil)) (pg_name (i := 4) sc_law_names.nd rfl (Or.inl rfl))
        (pss_cons (ps_set (i := 5) sc_law_names.nd rfl (Or.inl rfl) (pe_ix (ix_listK K rfl) (pe_lst (pa_cons (pe_call G_law_word (hr.mono (by decide)) (by rfl) m_law_word F_law_word.kp b_law_word .nil pass0 (pa_cons (pv 0) (pa_cons pe_int pa_nil))) (pa_cons (pe_slice sl_str (pe_op op_add_str (pv 3) (pe_call G_law_word (hr.mono (by decide)) (by rfl) m_law_word F_law_word.kp b_law_word .nil pass0 (pa_cons (pv 0) (pa_cons pe_int pa_nil)))) po_none (po_some pe_int)) (pa_cons (pv 3) pa_nil)))) (pe_call G_law_pick (hr.mono (by decide)) (by rfl) m_law_pick F_law_pick.kp b_law_pick .nil pass0 (pa_cons (pv 0) (pa_cons pe_int pa_nil))) (fun _ _ => rfl)))
      (pss_cons (ps_set (i := 6) sc_law_names.nd rfl (Or.inl rfl) pe_int)
      (pss_cons (ps_while PassesOwn.never (PW.pt (pw_or (pt_cmpR (op_in_seqK K rfl) (pv 5) (pv 2) (by with_unfolding_all rfl)) (pw_or1 (pt_cmpR (op_in_seqK K rfl) (pv 5) (pe_call0 G_law_taken (hr.mono (by decide)) (by rfl) m_law_taken F_law_taken.kp b_law_taken .nil pass0) (by with_unfolding_all rfl)))))
        (pss_cons (ps_set (i := 5) sc_law_names.nd rfl (Or.inl rfl) (pe_op op_rep_str (pe_ix ix_str pe_str (pe_op op_mod (pv 6) pe_int) (fun _ _ => rfl)) (pe_op op_add pe_int (pe_op op_fdiv (pv 6) pe_int))))
      (pss_one (ps_set (i := 6) sc_law_names.nd rfl (Or.inl rfl) (pe_op op_add (pv 6) pe_int)))))
      (pss_one (ps_expr (pe_bmK K rfl PySem.F.plainAttrs_list PySem.F.slot_list_append PySem.F.type_list_append mt_append (pv 2) (pa_cons (pv 5) pa_nil))))))))
      (pss_one (ps_ret (pv 2)))))), ?_⟩
  refine ⟨(by show 0 ≤ sizeLine; decide), fun p np => ?_⟩
  have pf : p ≠ f := hF.ne np
  have pc : p ≠ c := hF.nec np
  have F0 := hF.new (o := .lst []) np
  have B0 : But f H (upd H p (.lst [])) := But.refl.new np
  have hp0 : (upd H p (.lst [])) p = some (.lst []) := upd_same
  generalize upd H p (.lst []) = H0 at F0 B0 hp0 ⊢
  refine ⟨_, rfl, f, c, 4, rfl, by decide, by decide, F0, fun stem H1 ws F1 B1 => ?_⟩
  have hp1 := B1 _ _ hp0 pf
  have nstem : Wd 6 stem := ⟨ws.lo, Nat.le_trans ws.hi (by decide), ws.ltr⟩
  refine ⟨_, rfl, _, rfl, by omega, by omega, for_range (lo := 0) (n := ((mm : Nat) : Int).toNat) (fun i σ H5 => ∃ (ns : List Str) (v4 v5 v6 : Option V), σ = [some (.ref f), some (nV mm), some (.ref p), some (.str stem), v4, v5, v6] ∧ H5 p = some (.lst (ns.map V.str)) ∧ ns.length = i ∧ ns.Nodup ∧ (∀ z ∈ ns, Wd 6 z ∧ z ∉ takL) ∧ Flow H5 f c ∧ But f H H5) ⟨[], none, none, none, rfl, hp1, rfl, List.nodup_nil, (fun _ z => nomatch z), F1, B0.trans B1⟩ ?_ ?_⟩
  · rintro i σ H5 hi ⟨ns, v4, v5, v6, rfl, hp5, ln, nd, gd, F5, B5⟩
    refine ⟨_, rfl, f, c, 6, rfl, by decide, by decide, F5, fun w1 H6 g1 F6 B6 => ?_⟩
    refine ⟨_, rfl, _, rfl, f, c, 2, rfl, by decide, by decide, F6, fun w2 H7 g2 F7 B7 => ?_⟩
    have ls : stem.length + w2.length ≤ 6 := by
      have := ws.hi
      have := g2.hi
      omega
    refine ⟨_, _, rfl, rfl, little (by omega), ?_⟩
    refine ⟨_, rfl, _, rfl, little (by rw [show (stem ++ w2).length = stem.length + w2.length from Array.size_append ..]; omega), ?_⟩
    refine ⟨_, rfl, (by show 3 ≤ sizeLine; decide), fun l nl => ?_⟩
    have mlf : l ≠ f := F7.ne nl
    have mlp : p ≠ l := fun z => by
      rw [← z] at nl
      rw [B7 _ _ (B6 _ _ hp5 pf) pf] at nl
      cases nl
    have F8 := F7.new (o := .lst [V.str w1, V.str (cutS (stem ++ w2) none (some 6)), V.str stem]) nl
    have B8 := ((B5.trans B6).trans B7).new (o := .lst [V.str w1, V.str (cutS (stem ++ w2) none (some 6)), V.str stem]) nl
    have hl8 : (upd H7 l (.lst [V.str w1, V.str (cutS (stem ++ w2) none (some 6)), V.str stem])) l = some (.lst [V.str w1, V.str (cutS (stem ++ w2) none (some 6)), V.str stem]) := upd_same
    have hp8 : (upd H7 l (.lst [V.str w1, V.str (cutS (stem ++ w2) none (some 6)), V.str stem])) p = some (.lst (ns.map V.str)) := by
      rw [upd_ne mlp]
      exact B7 _ _ (B6 _ _ hp5 pf) pf
    generalize upd H7 l (.lst [V.str w1, V.str (cutS (stem ++ w2) none (some 6)), V.str stem]) = H8 at F8 B8 hl8 hp8 ⊢
    refine ⟨_, rfl, f, c, 3, rfl, by decide, by decide +kernel, F8, fun v H9 v0 v1 F9 B9 => ?_⟩
    have hl9 := B9 _ _ hl8 mlf
    have hp9 := B9 _ _ hp8 pf
    have B9 := B8.trans B9
    obtain ⟨nm, en, gnm⟩ : ∃ nm, atI [V.str w1, V.str (cutS (stem ++ w2) none (some 6)), V.str stem] v = some (.str nm) ∧ Wd 6 nm := by
      have : v = 0 ∨ v = 1 ∨ v = 2 := by omega
      rcases this with rfl | rfl | rfl
      · exact ⟨w1, atI_nat (j := 0) rfl, g1⟩
      · exact ⟨_, atI_nat (j := 1) rfl, by
          rw [cut6 (by rw [show (stem ++ w2).length = stem.length + w2.length from Array.size_append ..]; exact ls)]
          exact ws.cat g2⟩
      · exact ⟨stem, atI_nat (j := 2) rfl, nstem⟩
    refine ⟨l, _, v, _, rfl, rfl, SqL.of hl9, en, ?_⟩
    let W : Nat → L2.St → Hp → Prop := fun m σ H10 => ∃ (nm : Str) (sp : Nat), σ = [some (.ref f), some (nV mm), some (.ref p), some (.str stem), some (.int (0 + (i : Int))), some (.str nm), some (nV sp)] ∧ Wd 6 nm ∧ (∀ j, j + 1 < sp → zaS j ∈ ns ++ takL) ∧ (∀ j, sp = j + 1 → nm = zaS j) ∧ sp ≤ 18 ∧ m = 20 - sp ∧ Same H9 H10
    refine ⟨W, ⟨_, nm, 0, rfl, gnm, (fun j z => absurd z (by omega)), (fun j z => absurd z (by omega)), by decide, rfl, Same.refl _⟩, ?_⟩
    rintro m σ H10 ⟨nm, sp, rfl, gn, f1, f2, l18, rfl, s10⟩
    have lnf : (ns ++ takL).length ≤ 16 := by
      rw [List.length_append, show takL.length = 8 from rfl]
      omega
    refine or_in rfl rfl (s10 _ _ hp9) (fun H11 s11 e => ?_) (fun H11 s11 e => ?_)
    · have sx := s10.trans s11
      have all : ∀ j, j < sp → zaS j ∈ ns ++ takL := fun j hj => by
        by_cases z : j + 1 = sp
        · rw [← f2 j z.symm]; exact e
        · exact f1 j (by omega)
      have l16 : sp ≤ 16 := Nat.le_trans (za_few (by omega) all) lnf
      refine if_bl (fun _ => ?_) (fun z => nomatch z)
      refine ⟨fun σ' H' => ∃ m', m' < 20 - sp ∧ W m' σ' H', fun _ _ z => z, ?_⟩
      have e1 : (nV sp, V.int 26) = (V.int (sp : Int), V.int 26) := rfl
      have m26 : ((sp : Int) % 26) = ((sp : Nat) : Int) := by omega
      have d26 : ((sp : Int) / 26) = 0 := by omega
      refine ⟨_, rfl, _, _, rfl, rfl, (by show (0 : Int) < 26; decide), _, _, 122 - sp, rfl, rfl, by decide, ?_, _, rfl, _, _, rfl, rfl, ⟨by decide, by decide⟩, _, _, rfl, rfl, _, _, rfl, rfl, ?_, ?_⟩
      · rw [m26]
        exact atI_nat (za_at sp (by omega))
      · rw [d26]
        exact mulOk_one _
      rw [d26]
      have nx : Txt.mul ⟨#[122 - sp]⟩ (1 + 0) = zaS sp := rfl
      rw [nx]
      refine ⟨_, rfl, _, _, rfl, rfl, 20 - (sp + 1), by omega, zaS sp, sp + 1, ?_, zaS_wd (by omega), fun j hj => all j (by omega), fun j hj => by rw [show j = sp by omega], by omega, rfl, sx⟩
      show [some (V.ref f), some (nV mm), some (V.ref p), some (V.str stem), some (V.int (0 + (i : Int))), some (V.str (zaS sp)), some (V.int ((sp : Int) + 1))] = _
      rw [show ((sp : Int) + 1) = (((sp + 1 : Nat)) : Int) by omega]
    · have sx := s10.trans s11
      refine if_bl (fun z => nomatch z) (fun _ => ?_)
      have hp11 := sx _ _ hp9
      refine ⟨_, rfl, .inl ⟨rfl, _, SqL.of hp11⟩, _, rfl, p, _, _, rfl, rfl, hp11, small1000 (by rw [List.length_map]; omega), ns ++ [nm], _, _, _, rfl, ?_, ?_, ?_, fun z hz => ?_, (F9.same sx).lst pf pc, (B9.same sx).own np⟩
      · rw [upd_same, List.map_append]; rfl
      · rw [List.length_append, ln]; rfl
      · rw [List.nodup_append]
        exact ⟨nd, by simp, fun a ha b hb z => e (List.mem_append.mpr (.inl (by rw [← List.mem_singleton.mp hb, ← z]; exact ha)))⟩
      · rcases List.mem_append.mp hz with z | z
        · exact gd _ z
        · rw [List.mem_singleton.mp z]
          exact ⟨gn, fun y => e (List.mem_append.mpr (.inr y))⟩
  · rintro σ H5 ⟨ns, v4, v5, v6, rfl, hp5, ln, nd, gd, F5, B5⟩
    exact ⟨_, rfl, q p ns H5 np hp5 (by omega) nd gd F5 B5⟩
end
theorem All2.perm {α β : Type} {R : α → β → Prop} : ∀ {as as' : List α} {bs : List β}, as'.Perm as → All2 R as bs → ∃ bs' : List β, bs'.Perm bs ∧ All2 R as' bs' := by
  intro as as' bs p
  induction p generalizing bs with
  | nil => intro a; exact ⟨bs, .refl _, a⟩
  | cons x _ ih =>
    intro a
    cases a with
    | cons h t => obtain ⟨b', p', a'⟩ := ih t; exact ⟨_ :: b', p'.cons _, .cons h a'⟩
  | swap x y l =>
    intro a
    cases a with
    | cons h t => cases t with
      | cons h2 t2 => exact ⟨_ :: _ :: _, .swap .., .cons h2 (.cons h t2)⟩
  | trans _ _ ih1 ih2 =>
    intro a
    obtain ⟨b1, p1, a1⟩ := ih2 a
    obtain ⟨b2, p2, a2⟩ := ih1 a1
    exact ⟨b2, p2.trans p1, a2⟩
/-! ### trees drawn -/
def Tr.small : Tr → Prop
  | .nm _ _ => True
  | .no i => Small i
  | .tm k t => (-9 ≤ k ∧ k ≤ 9) ∧ t.small
  | .o2 _ a b => a.small ∧ b.small
  | .o3 a b c => a.small ∧ b.small ∧ c.small
structure TOk (now names : List Str) (t : Tr) : Prop where
  ln : ∀ q ∈ t.leans, (q.2 = 0 ∧ q.1 ∈ now) ∨ (1 ≤ q.2 ∧ q.2 ≤ 6 ∧ q.1 ∈ names)
  sm : t.small
theorem Flow.neS {H : Hp} {f c p : Addr} {zs : List Str} (h : Flow H f c) (e : H p = some (.lst (zs.map V.str))) : p ≠ f := fun z => by
  obtain ⟨ns, i, a, q, r, e1, _⟩ := h
  rw [z, e1] at e
  cases zs with
  | nil => cases e
  | cons y zs => cases e
theorem at_strs {zs : List Str} {v : Int} (h0 : 0 ≤ v) (h1 : v < (zs.length : Int)) : ∃ z, atI (zs.map V.str) v = some (.str z) ∧ z ∈ zs := by
  have hk : v.toNat < zs.length := by omega
  have q : atI (zs.map V.str) ((v.toNat : Nat) : Int) = some (.str zs[v.toNat]) := atI_nat (by rw [List.getElem?_map, List.getElem?_eq_getElem hk]; rfl)
  rw [show ((v.toNat : Nat) : Int) = v by omega] at q
  exact ⟨_, q, List.getElem_mem hk⟩
theorem Wd.lay {m : Nat} {z : Str} (h : Wd m z) : PyData.canLay0 (.str z) = true := by
  show PyData.strOk z = true
  unfold PyData.strOk
  rw [Array.all_eq_true_iff_forall_mem]
  intro c hc
  have := (h.ltr c (Array.mem_def.mp hc)).2
  exact decide_eq_true (by omega)
theorem Wd.size {m : Nat} {z : Str} (h : Wd m z) : z.cps.size ≤ m := h.hi
theorem dp_strs {K : PySem.W.Frag} {H : Hp} : ∀ l : List Str, DpAll K H (l.map V.str) (l.map PyData.str)
  | [] => .nil
  | n :: ns => .cons (.str n) (dp_strs ns)
theorem strs_shaped {m : Nat} {l : List Str} (h : ∀ z ∈ l, Wd m z) : SeqAt.shaped (.list (l.map PyData.str)) = true :=
  (Neat.lst (NeatAll.map (f := PyData.str) (dp := 0) (n := m) fun z hz => Neat.str (h z hz).lay (h z hz).size)).shaped (by decide)
section
variable {P : Program} {w : World} {K : PySem.W.Frag} {mg : Str → Option Value} {base : Heap}
def sp_law_leaf (K : PySem.W.Frag) : Sp := fun vs H Q _ => ∃ (f c nw na : Addr) (now names : List Str), vs = [.ref f, .ref nw, .ref na] ∧ H nw = some (.lst (now.map V.str)) ∧ H na = some (.lst (names.map V.str)) ∧ now.length ≤ 100 ∧ names.length ≤ 100 ∧ (∀ z ∈ now, Wd 6 z) ∧ (∀ z ∈ names, Wd 6 z) ∧ Flow H f c ∧ ∀ (v : V) (t : Tr) (H' : Hp), TrAt H' v t → TOk now names t → t.parts.length = 1 → Flow H' f c → But f H H' → Q v H'
theorem ok_law_leaf {f : Addr} {fd : FuncData} (F : Fun K "_law_leaf" "_law_leaf" s_law_leaf f fd) (T : Top w K mg) : FnOk P w K mg base CX0 3 f fd ["_law_flow_here", "_law_now", "_law_names_here"] (sp_law_leaf K) := by
  obtain ⟨f_law_thing, fd_law_thing, F_law_thing, b_law_thing, m_law_thing⟩ := T.d_law_thing
  have G_law_thing := ok_law_thing (P := P) (w := w) (base := base) F_law_thing T
  obtain ⟨f_law_pick, fd_law_pick, F_law_pick, b_law_pick, m_law_pick⟩ := T.d_law_pick
  have G_law_pick := ok_law_pick (P := P) (w := w) (base := base) F_law_pick T
  refine F.ok sc_law_leaf (fun vs H Q E h => ?_) (fun cdv A outer s H vs Q E hr h => ?_)
  · obtain ⟨f, c, nw, na, now, names, rfl, _⟩ := h
    rfl
  obtain ⟨f, c, nw, na, now, names, rfl, hnw, hna, ln, la, gw, ga, hF, q⟩ := h
  have nwf := hF.neS hnw
  have naf := hF.neS hna
  let R1 : TS := fun D' σ' H' => D'.rt = Q ∧ σ' = [some (.ref f), some (.ref nw), some (.ref na)] ∧ Flow H' f c ∧ But f H H'
  refine ⟨_, (pss_cons (ps_if (PW.pt (pw_and (pt_cmpR (op_neDK K rfl hr.units) (pv 1) (pe_lst pa_nil) (nomark _)) (pw_and1 (pt_cmpR op_eq (pe_call G_law_pick (hr.mono (by decide)) (by rfl) m_law_pick F_law_pick.kp b_law_pick .nil pass0 (pa_cons (pv 0) (pa_cons pe_int pa_nil))) pe_int (nomark _))))) (pss_one (ps_ret (pe_tup (pa_cons pe_str (pa_cons (pe_ix (ix_listK K rfl) (pv 1) (pe_call G_law_pick (hr.mono (by decide)) (by rfl) m_law_pick F_law_pick.kp b_law_pick .nil pass0 (pa_cons (pv 0) (pa_cons (pe_callB (call_len_seqK K rfl) (by rfl) T.m_len (by decide +kernel) (pa_cons (pv 1) pa_nil)) pa_nil))) (fun _ _ => rfl)) (pa_cons pe_int pa_nil)))))) pss_nil)
      (PSs.to (pss_cons (ps_if (PW.pt (pw_and (pt_cmpR (op_neDK K rfl hr.units) (pv 2) (pe_lst pa_nil) (nomark _)) (pw_and1 (pt_cmpR op_gt (pe_call G_law_pick (hr.mono (by decide)) (by rfl) m_law_pick F_law_pick.kp b_law_pick .nil pass0 (pa_cons (pv 0) (pa_cons pe_int pa_nil))) pe_int (nomark _))))) (pss_one (ps_ret (pe_tup (pa_cons pe_str (pa_cons (pe_ix (ix_listK K rfl) (pv 2) (pe_call G_law_pick (hr.mono (by decide)) (by rfl) m_law_pick F_law_pick.kp b_law_pick .nil pass0 (pa_cons (pv 0) (pa_cons (pe_callB (call_len_seqK K rfl) (by rfl) T.m_len (by decide +kernel) (pa_cons (pv 2) pa_nil)) pa_nil))) (fun _ _ => rfl)) (pa_cons (pe_op op_add pe_int (pe_call G_law_pick (hr.mono (by decide)) (by rfl) m_law_pick F_law_pick.kp b_law_pick .nil pass0 (pa_cons (pv 0) (pa_cons pe_int pa_nil)))) pa_nil)))))) pss_nil)
      (pss_one (ps_ret (pe_tup (pa_cons pe_str (pa_cons (pe_call G_law_thing (hr.mono (by decide)) (by rfl) m_law_thing F_law_thing.kp b_law_thing .nil pass0 (pa_cons (pv 0) pa_nil)) pa_nil)))))) R1 ?tail1)), ?_⟩
  case tail1 =>
    rintro D' σ' H1 ⟨eD, rfl, F1, B1⟩
    have hna1 := B1 _ _ hna naf
    refine ⟨_, rfl, (by show 0 ≤ sizeLine; decide), fun p1 np1 => ?_⟩
    have s2 : Same H1 (upd H1 p1 (.lst [])) := same_new np1
    have hp1 : (upd H1 p1 (.lst [])) p1 = some (.lst []) := upd_same
    have F2 := F1.new (o := .lst []) np1
    generalize upd H1 p1 (.lst []) = H2 at s2 hp1 F2 ⊢
    have B2 : But f H H2 := B1.same s2
    refine ⟨_, _, .lst (SqL.of (s2 _ _ hna1)) (dp_strs _), .lst (SqL.of hp1) .nil, strs_shaped ga, rfl, _, rfl, ?_⟩
    have number : ∀ H3, Flow H3 f c → But f H H3 → tRet (tTup (tCons (tC (V.str "number")) (tCons (tCall (sp_law_thing K) [] E0 (tCons (tVar 0) tNil)) tNil))) D' [some (.ref f), some (.ref nw), some (.ref na)] H3 := fun H3 F3 B3 => by
      refine ⟨_, rfl, f, c, rfl, F3, fun v H4 sv F4 B4 => ⟨(by show 2 ≤ sizeLine; decide), fun p2 np2 => ?_⟩⟩
      rw [eD]
      exact q (.ref p2) (.no v) _ ⟨p2, rfl, upd_same⟩ ⟨(fun q hq => by cases hq), sv⟩ rfl (F4.new np2) ((B3.trans B4).new np2)
    have ee : PyData.eqv (.list (names.map PyData.str)) (.list []) = (names.map PyData.str).isEmpty := eqv_nil
    rw [ee]
    cases hn : names with
    | nil =>
      refine if_bl (fun z => nomatch z) (fun _ => if_bl (fun z => nomatch z) fun _ => ?_)
      exact number H2 F2 B2
    | cons n1 nr =>
      refine if_bl (fun _ => ?_) (fun z => nomatch z)
      refine ⟨_, rfl, f, c, 3, rfl, by decide, by decide, F2, fun v H3 v0 v1 F3 B3 => ⟨_, _, rfl, rfl, _, rfl, if_bl (fun _ => ?_) (fun _ => number H3 F3 (B2.trans B3))⟩⟩
      have hna3 := B3 _ _ (s2 _ _ hna1) naf
      have pos : 0 < names.length := by rw [hn]; exact Nat.succ_pos _
      refine ⟨_, rfl, _, rfl, _, rfl, na, _, rfl, .inl (SqL.of hna3), f, c, ((names.length : Nat) : Int), ?_, by omega, log_small (by omega), F3, fun v2 H4 v20 v21 F4 B4 => ?_⟩
      · rw [List.length_map, List.append_nil]
      have hna4 := B4 _ _ hna3 naf
      obtain ⟨z, ez, mz⟩ := at_strs v20 v21
      refine ⟨na, _, v2, _, rfl, rfl, SqL.of hna4, ez, _, rfl, f, c, 6, rfl, by decide, by decide, F4, fun v3 H5 v30 v31 F5 B5 => ⟨_, _, rfl, rfl, (by show 3 ≤ sizeLine; decide), fun p2 np2 => ?_⟩⟩
      rw [eD]
      refine q (.ref p2) (.nm z (1 + v3).toNat) _ ⟨p2, rfl, ?_⟩ ⟨fun q hq => .inr ?_, trivial⟩ rfl (F5.new np2) ((((B2.trans B3).trans B4).trans B5).new np2)
      · rw [upd_same, show nV (1 + v3).toNat = V.int (1 + v3) from by show V.int _ = _; rw [Int.toNat_of_nonneg (by omega)]]
      · rw [List.mem_singleton.mp hq]
        exact ⟨(by show 1 ≤ (1 + v3).toNat; omega), (by show (1 + v3).toNat ≤ 6; omega), mz⟩
  refine ⟨_, rfl, (by show 0 ≤ sizeLine; decide), fun p1 np1 => ?_⟩
  have s1 : Same H (upd H p1 (.lst [])) := same_new np1
  have hp1 : (upd H p1 (.lst [])) p1 = some (.lst []) := upd_same
  have F1 := hF.new (o := .lst []) np1
  generalize upd H p1 (.lst []) = H1 at s1 hp1 F1 ⊢
  have B1 : But f H H1 := But.refl.same s1
  refine ⟨_, _, .lst (SqL.of (s1 _ _ hnw)) (dp_strs _), .lst (SqL.of hp1) .nil, strs_shaped gw, rfl, _, rfl, ?_⟩
  have ee : PyData.eqv (.list (now.map PyData.str)) (.list []) = (now.map PyData.str).isEmpty := eqv_nil
  rw [ee]
  cases hn : now with
  | nil =>
    refine if_bl (fun z => nomatch z) (fun _ => if_bl (fun z => nomatch z) fun _ => ?_)
    exact ⟨rfl, rfl, F1, B1⟩
  | cons n1 nr =>
    refine if_bl (fun _ => ?_) (fun z => nomatch z)
    refine ⟨_, rfl, f, c, 2, rfl, by decide, by decide, F1, fun v H3 v0 v1 F3 B3 => ⟨rfl, _, rfl, if_bl (fun _ => ?_) (fun _ => ⟨rfl, rfl, F3, B1.trans B3⟩)⟩⟩
    have hnw3 := B3 _ _ (s1 _ _ hnw) nwf
    have pos : 0 < now.length := by rw [hn]; exact Nat.succ_pos _
    refine ⟨_, rfl, _, rfl, _, rfl, nw, _, rfl, .inl (SqL.of hnw3), f, c, ((now.length : Nat) : Int), ?_, by omega, log_small (by omega), F3, fun v2 H4 v20 v21 F4 B4 => ?_⟩
    · rw [List.length_map, List.append_nil]
    have hnw4 := B4 _ _ hnw3 nwf
    obtain ⟨z, ez, mz⟩ := at_strs v20 v21
    refine ⟨nw, _, v2, _, rfl, rfl, SqL.of hnw4, ez, (by show 3 ≤ sizeLine; decide), fun p2 np2 => ?_⟩
    refine q (.ref p2) (.nm z 0) _ ⟨p2, rfl, upd_same⟩ ⟨fun q hq => .inl ?_, trivial⟩ rfl (F4.new np2) (((B1.trans B3).trans B4).new np2)
    rw [List.mem_singleton.mp hq]
    exact ⟨rfl, mz⟩
/-- a tree of at most so many parts; n: how deep the calls may go -/
def spT (K : PySem.W.Frag) : Nat → Sp
  | 0 => fun _ _ _ _ => False
  | n + 1 => fun vs H Q _ => ∃ (f c nw na : Addr) (now names : List Str) (r : Nat), vs = [.ref f, nV r, .ref nw, .ref na] ∧ 1 ≤ r ∧ r ≤ n + 3 ∧ r ≤ 20 ∧ H nw = some (.lst (now.map V.str)) ∧ H na = some (.lst (names.map V.str)) ∧ now.length ≤ 100 ∧ names.length ≤ 100 ∧ (∀ z ∈ now, Wd 6 z) ∧ (∀ z ∈ names, Wd 6 z) ∧ Flow H f c ∧ ∀ (v : V) (t : Tr) (H' : Hp), TrAt H' v t → TOk now names t → t.parts.length ≤ r → Flow H' f c → But f H H' → Q v H'
def wsT : List Str := ["", "", "times", "sum", "gap", "below", "most", "least", "pick", "sum"]
theorem parts_one (t : Tr) : 1 ≤ t.parts.length := by rw [t.parts_eq, List.length_append]; exact Nat.le_add_left ..
theorem tree_step {f : Addr} {fd : FuncData} (T : Top w K mg) (n : Nat) (below : ∀ (f : Addr) (fd : FuncData), Fun K "_law_tree" "_law_tree" s_law_tree f fd → FnOk P w K mg base CX0 (n + 3) f fd ["_law_flow_here", "_law_room", "_law_now", "_law_names_here"] (spT K n)) (F : Fun K "_law_tree" "_law_tree" s_law_tree f fd) :
    FnOk P w K mg base CX0 (n + 4) f fd ["_law_flow_here", "_law_room", "_law_now", "_law_names_here"] (spT K (n + 1)) := by
  obtain ⟨f_law_tree, fd_law_tree, F_law_tree, b_law_tree, m_law_tree⟩ := T.d_law_tree
  have G_law_tree := below f_law_tree fd_law_tree F_law_tree
  obtain ⟨f_law_pick, fd_law_pick, F_law_pick, b_law_pick, m_law_pick⟩ := T.d_law_pick
  have G_law_pick := ok_law_pick (P := P) (w := w) (base := base) F_law_pick T
  obtain ⟨f_law_leaf, fd_law_leaf, F_law_leaf, b_law_leaf, m_law_leaf⟩ := T.d_law_leaf
  have G_law_leaf := ok_law_leaf (P := P) (w := w) (base := base) F_law_leaf T
  obtain ⟨f_law_shuffled, fd_law_shuffled, F_law_shuffled, b_law_shuffled, m_law_shuffled⟩ := T.d_law_shuffled
  have G_law_shuffled := ok_law_shuffled (P := P) (w := w) (base := base) F_law_shuffled T
  refine F.ok sc_law_tree (fun vs H Q E h => ?_) (fun cdv A outer s H vs Q E hr h => ?_)
  · obtain ⟨f, c, nw, na, now, names, r, rfl, _⟩ := h
    rfl
  obtain ⟨f, c, nw, na, now, names, r, rfl, r1, rn, r20, hnw, hna, ln, la, gw, ga, hF, q⟩ := h
  have nwf := hF.neS hnw
  have naf := hF.neS hna
  refine ⟨_, (pss_cons (ps_set (i := 4) sc_law_tree.nd rfl (Or.inl rfl) (pe_ix (ix_listK K rfl) (pe_lst (pa_cons pe_str (pa_cons pe_str (pa_cons pe_str (pa_cons pe_str (pa_cons pe_str (pa_cons pe_str (pa_cons pe_str (pa_cons pe_str (pa_cons pe_str (pa_cons pe_str pa_nil))))))))))) (pe_call G_law_pick (hr.mono (by omega)) (by rfl) m_law_pick F_law_pick.kp b_law_pick .nil pass0 (pa_cons (pv 0) (pa_cons pe_int pa_nil))) (fun _ _ => rfl)))
      (pss_cons (ps_if (PW.pt (pw_or (pt_cmpR op_eq (pv 4) pe_str (nomark _)) (pw_or1 (pt_cmpR op_lt (pv 1) pe_int (nomark _))))) (pss_one (ps_ret (pe_call G_law_leaf (hr.mono (by omega)) (by rfl) m_law_leaf F_law_leaf.kp b_law_leaf .nil pass0 (pa_cons (pv 0) (pa_cons (pv 2) (pa_cons (pv 3) pa_nil)))))) pss_nil)
      (pss_cons (ps_if (pt_cmpR op_eq (pv 4) pe_str (nomark _)) (pss_one (ps_ret (pe_tup (pa_cons (pv 4) (pa_cons (pe_op op_sub (pe_call G_law_pick (hr.mono (by omega)) (by rfl) m_law_pick F_law_pick.kp b_law_pick .nil pass0 (pa_cons (pv 0) (pa_cons pe_int pa_nil))) pe_int) (pa_cons (pe_call G_law_tree (hr.mono (Nat.le_refl _)) (by rfl) m_law_tree F_law_tree.kp b_law_tree .nil pass0 (pa_cons (pv 0) (pa_cons (pe_op op_sub (pv 1) pe_int) (pa_cons (pv 2) (pa_cons (pv 3) pa_nil))))) pa_nil)))))) pss_nil)
      (pss_cons (ps_set (i := 5) sc_law_tree.nd rfl (Or.inl rfl) (pe_op op_add pe_int (pe_call G_law_pick (hr.mono (by omega)) (by rfl) m_law_pick F_law_pick.kp b_law_pick .nil pass0 (pa_cons (pv 0) (pa_cons (pe_op op_sub (pv 1) pe_int) pa_nil)))))
      (pss_cons (ps_if (pt_cmpR op_eq (pv 4) pe_str (nomark _)) (pss_cons (ps_set (i := 6) sc_law_tree.nd rfl (Or.inl rfl) (pe_lst (pa_cons (pe_call G_law_tree (hr.mono (Nat.le_refl _)) (by rfl) m_law_tree F_law_tree.kp b_law_tree .nil pass0 (pa_cons (pv 0) (pa_cons (pv 5) (pa_cons (pv 2) (pa_cons (pv 3) pa_nil))))) (pa_cons (pe_call G_law_leaf (hr.mono (by omega)) (by rfl) m_law_leaf F_law_leaf.kp b_law_leaf .nil pass0 (pa_cons (pv 0) (pa_cons (pv 2) (pa_cons (pv 3) pa_nil)))) pa_nil))))
      (pss_one (ps_ret (pe_op (op_catAK K rfl) (pe_tup (pa_cons (pv 4) pa_nil)) (pe_callTy (call_tuple_ofK K rfl) (by rfl) T.m_tuple (by decide +kernel) (pa_cons (pe_call G_law_shuffled (hr.mono (by omega)) (by rfl) m_law_shuffled F_law_shuffled.kp b_law_shuffled .nil pass0 (pa_cons (pv 0) (pa_cons (pe_op op_cat (pv 6) (pe_lst (pa_cons (pe_call G_law_tree (hr.mono (Nat.le_refl _)) (by rfl) m_law_tree F_law_tree.kp b_law_tree .nil pass0 (pa_cons (pv 0) (pa_cons (pe_op op_sub (pe_op op_sub (pv 1) pe_int) (pv 5)) (pa_cons (pv 2) (pa_cons (pv 3) pa_nil))))) pa_nil))) pa_nil))) pa_nil)))))) pss_nil)
      (pss_one (ps_ret (pe_tup (pa_cons (pv 4) (pa_cons (pe_call G_law_tree (hr.mono (Nat.le_refl _)) (by rfl) m_law_tree F_law_tree.kp b_law_tree .nil pass0 (pa_cons (pv 0) (pa_cons (pv 5) (pa_cons (pv 2) (pa_cons (pv 3) pa_nil))))) (pa_cons (pe_call G_law_tree (hr.mono (Nat.le_refl _)) (by rfl) m_law_tree F_law_tree.kp b_law_tree .nil pass0 (pa_cons (pv 0) (pa_cons (pe_op op_sub (pe_op op_sub (pv 1) pe_int) (pv 5)) (pa_cons (pv 2) (pa_cons (pv 3) pa_nil))))) pa_nil))))))))))), ?_⟩
  refine ⟨(by show 10 ≤ sizeLine; decide), fun l nl => ?_⟩
  have lf : l ≠ f := hF.ne nl
  generalize e1 : upd H l _ = H1
  have s1 : Same H H1 := by rw [← e1]; exact same_new nl
  have hl1 : H1 l = some (.lst (wsT.map V.str)) := by rw [← e1]; exact upd_same
  have F1 : Flow H1 f c := by rw [← e1]; exact hF.new nl
  have B1 : But f H H1 := But.refl.same s1
  clear e1
  refine ⟨_, rfl, f, c, 10, rfl, by decide, by decide, F1, fun v H2 v0 v1 F2 B2 => ?_⟩
  obtain ⟨wd, ew, mw⟩ := at_strs (zs := wsT) v0 v1
  have hl2 := B2 _ _ hl1 lf
  replace B2 := B1.trans B2
  have hnw2 := B2 _ _ hnw nwf
  have hna2 := B2 _ _ hna naf
  refine ⟨l, _, v, _, rfl, rfl, SqL.of hl2, ew, ?_⟩
  have leaf : ∀ D : Ends, D.rt = Q → tRet (tCall (sp_law_leaf K) [] E0 (tCons (tVar 0) (tCons (tVar 2) (tCons (tVar 3) tNil)))) D [some (.ref f), some (nV r), some (.ref nw), some (.ref na), some (.str wd), none, none] H2 := fun D eD => by
    refine ⟨_, rfl, _, rfl, _, rfl, f, c, nw, na, now, names, rfl, hnw2, hna2, ln, la, gw, ga, F2, fun v t H3 ht ok lp F3 B3 => ?_⟩
    rw [eD]
    exact q v t H3 ht ok (by omega) F3 (B2.trans B3)
  refine ⟨_, rfl, rfl, _, rfl, if_str (fun e => ?_) (fun e => ?_)⟩
  · exact if_bl (fun _ => leaf _ rfl) (fun z => nomatch z)
  refine ⟨_, rfl, _, _, rfl, rfl, _, rfl, if_bl (fun _ => leaf _ rfl) (fun c4 => ?_)⟩
  have c4 : ¬ ((r : Nat) : Int) < 4 := of_decide_eq_false c4
  obtain ⟨m, rfl⟩ : ∃ m, n = m + 1 := ⟨n - 1, by omega⟩
  refine ⟨_, rfl, rfl, _, rfl, if_str (fun et => ?_) (fun et => ?_)⟩
  · refine ⟨_, rfl, _, rfl, f, c, 19, rfl, by decide, by decide, F2, fun v2 H3 v20 v21 F3 B3 => ⟨_, _, rfl, rfl, _, rfl, _, rfl, _, _, rfl, rfl, _, rfl, _, rfl, f, c, nw, na, now, names, r - 1, ?_, by omega, by omega, by omega, B3 _ _ hnw2 nwf, B3 _ _ hna2 naf, ln, la, gw, ga, F3, fun v3 t H4 ht ok lp F4 B4 => ⟨(by show 3 ≤ sizeLine; decide), fun p np => ?_⟩⟩⟩
    · rw [show nV (r - 1) = V.int (((r : Nat) : Int) - 1) from congrArg V.int (by omega)]
      rfl
    · have := parts_one t
      refine q (.ref p) (.tm (v2 - 9) t) _ ⟨p, v3, rfl, ?_, ht.keep (TK.new np)⟩ ⟨ok.ln, ⟨by omega, by omega⟩, ok.sm⟩ ?_ (F4.new np) (((B2.trans B3).trans B4).new np)
      · rw [upd_same, et]
      · show (t.parts ++ [_]).length ≤ r
        rw [List.length_append]
        show _ + 1 ≤ r
        omega
  refine ⟨_, rfl, _, rfl, _, _, rfl, rfl, f, c, ((r - 3 : Nat) : Int), ?_, by omega, log_small (by omega), F2, fun v2 H3 v20 v21 F3 B3 => ⟨_, _, rfl, rfl, ?_⟩⟩
  · rw [show V.int ((r - 3 : Nat) : Int) = V.int (((r : Nat) : Int) - 3) from congrArg V.int (by omega)]
    rfl
  have hnw3 := B3 _ _ hnw2 nwf
  have hna3 := B3 _ _ hna2 naf
  replace B3 := B2.trans B3
  obtain ⟨o, eo, o1, o2⟩ : ∃ o : Nat, 1 + v2 = ((o : Nat) : Int) ∧ 1 ≤ o ∧ o + 3 ≤ r := ⟨(1 + v2).toNat, by omega, by omega, by omega⟩
  have ev : V.int (1 + v2) = nV o := congrArg V.int eo
  have ea : [V.ref f, V.int (1 + v2), V.ref nw, V.ref na] = [V.ref f, nV o, V.ref nw, V.ref na] := by rw [ev]
  refine ⟨_, rfl, rfl, _, rfl, if_str (fun ep => ?_) (fun ep => ?_)⟩
  · refine ⟨_, rfl, _, rfl, _, rfl, _, rfl, f, c, nw, na, now, names, o, ea, by omega, by omega, by omega, hnw3, hna3, ln, la, gw, ga, F3, fun va ta H4 hta oka lpa F4 B4 => ?_⟩
    have hnw4 := B4 _ _ hnw3 nwf
    have hna4 := B4 _ _ hna3 naf
    refine ⟨_, rfl, _, rfl, _, rfl, f, c, nw, na, now, names, rfl, hnw4, hna4, ln, la, gw, ga, F4, fun vb tb H5 htb okb lpb F5 B5 => ?_⟩
    refine ⟨(by show 2 ≤ sizeLine; decide), fun pl npl => ?_⟩
    have plf : pl ≠ f := F5.ne npl
    have s6 : Same H5 (upd H5 pl (.lst [va, vb])) := same_new npl
    have hpl : (upd H5 pl (.lst [va, vb])) pl = some (.lst [va, vb]) := upd_same
    have F6 := F5.new (o := .lst [va, vb]) npl
    replace hta := (hta.keep (TK.but F4 B5)).keep (TK.same s6)
    replace htb := htb.keep (TK.same s6)
    have B6 := ((B3.trans B4).trans B5).same s6
    generalize upd H5 pl (.lst [va, vb]) = H6 at s6 hpl F6 hta htb B6 ⊢
    have eb : [V.ref f, V.int (((r : Nat) : Int) - 2 - (1 + v2)), V.ref nw, V.ref na] = [V.ref f, nV (r - 2 - o), V.ref nw, V.ref na] := by
      rw [show nV (r - 2 - o) = V.int (((r : Nat) : Int) - 2 - (1 + v2)) from congrArg V.int (by omega)]
    refine ⟨_, rfl, (by show 1 ≤ sizeLine; decide), fun pt npt => ?_⟩
    have st : Same H6 (upd H6 pt (.tup [.str wd])) := same_new npt
    have hpt : (upd H6 pt (.tup [.str wd])) pt = some (.tup [.str wd]) := upd_same
    have ptf : pt ≠ f := F6.ne npt
    replace F6 := F6.new (o := .tup [.str wd]) npt
    replace hta := hta.keep (TK.same st)
    replace htb := htb.keep (TK.same st)
    replace hpl := st _ _ hpl
    replace B6 := B6.same st
    generalize upd H6 pt (.tup [.str wd]) = H6 at st hpt hpl F6 hta htb B6 ⊢
    refine ⟨_, rfl, _, rfl, _, rfl, _, rfl, _, _, rfl, rfl, _, rfl, _, _, rfl, rfl, _, rfl, _, rfl, f, c, nw, na, now, names, r - 2 - o, eb, by omega, by omega, by omega, B6 _ _ hnw nwf, B6 _ _ hna naf, ln, la, gw, ga, F6, fun vc tc H7 htc okc lpc F7 B7 => ?_⟩
    have hpl7 := B7 _ _ hpl plf
    refine ⟨(by show 1 ≤ sizeLine; decide), fun p8 np8 => ?_⟩
    have hp8 : (upd H7 p8 (.lst [vc])) p8 = some (.lst [vc]) := upd_same
    have s8 : Same H7 (upd H7 p8 (.lst [vc])) := same_new np8
    have F8 := F7.new (o := .lst [vc]) np8
    replace hta := (hta.keep (TK.but F6 B7)).keep (TK.same s8)
    replace htb := (htb.keep (TK.but F6 B7)).keep (TK.same s8)
    replace htc := htc.keep (TK.same s8)
    have B8 := (B6.trans B7).same s8
    generalize upd H7 p8 (.lst [vc]) = H8 at s8 hp8 F8 hta htb htc B8 ⊢
    refine ⟨pl, p8, _, _, rfl, rfl, s8 _ _ hpl7, hp8, (by show 3 ≤ sizeLine; decide), fun p9 np9 => ?_⟩
    have p9f : p9 ≠ f := F8.ne np9
    have hp9 : (upd H8 p9 (.lst ([va, vb] ++ [vc]))) p9 = some (.lst [va, vb, vc]) := upd_same
    have s9 : Same H8 (upd H8 p9 (.lst ([va, vb] ++ [vc]))) := same_new np9
    have F9 := F8.new (o := .lst ([va, vb] ++ [vc])) np9
    generalize upd H8 p9 (.lst ([va, vb] ++ [vc])) = H9 at s9 hp9 F9 ⊢
    have al : All2 (TrAt H9) [va, vb, vc] [ta, tb, tc] := .cons (hta.keep (TK.same s9)) (.cons (htb.keep (TK.same s9)) (.cons (htc.keep (TK.same s9)) .nil))
    refine ⟨f, c, p9, [va, vb, vc], rfl, SqL.of hp9, p9f, (by show 3 ≤ 500; decide), F9, fun p10 ys H10 pm np10 hp10 F10 B10 => ?_⟩
    have al10 : All2 (TrAt H10) [va, vb, vc] [ta, tb, tc] := al.imp fun _ _ z => z.keep (TK.but F9 B10)
    obtain ⟨ts, pt2, al2⟩ := All2.perm pm al10
    have l3 : ts.length = 3 := pt2.length_eq
    obtain ⟨ka, kb, kc, rfl⟩ : ∃ a b c, ts = [a, b, c] := by
      match ts, l3 with
      | [a, b, c], _ => exact ⟨a, b, c, rfl⟩
    have okk : ∀ t ∈ [ka, kb, kc], TOk now names t := fun t ht => by
      rcases List.mem_cons.mp (pt2.mem_iff.mp ht) with rfl | ht
      · exact oka
      rcases List.mem_cons.mp ht with rfl | ht
      · exact okb
      rw [List.mem_singleton.mp ht]
      exact okc
    have sum : ka.parts.length + kb.parts.length + kc.parts.length = ta.parts.length + tb.parts.length + tc.parts.length := by
      have := (pt2.map fun t => t.parts.length).sum_nat
      simp only [List.map_cons, List.map_nil, List.sum_cons, List.sum_nil] at this
      omega
    refine ⟨p10, ys, rfl, .inl ⟨SqL.of hp10, fun p11 np11 => ?_⟩⟩
    have s11 : Same H10 (upd H10 p11 (.tup ys)) := same_new np11
    have hp11 : (upd H10 p11 (.tup ys)) p11 = some (.tup ys) := upd_same
    have F11 := F10.new (o := .tup ys) np11
    have B11 := ((B8.same s9).trans B10).same s11
    have al11 : All2 (TrAt (upd H10 p11 (.tup ys))) ys [ka, kb, kc] := al2.imp fun _ _ z => z.keep (TK.same s11)
    have hpt11 := s11 _ _ (B10 _ _ (s9 _ _ (s8 _ _ (B7 _ _ hpt ptf))) ptf)
    generalize upd H10 p11 (.tup ys) = H11 at s11 hp11 F11 B11 al11 hpt11 ⊢
    have ly : ys.length = 3 := pm.length_eq
    refine catA_of hpt11 hp11 (by rw [ly]; show 4 ≤ 1000; decide) fun p12 H12 h12 s12 => ?_
    have al12 := al11.imp fun _ _ z => TrAt.keep (TK.same s12) z
    obtain ⟨ya, yb, yc, rfl⟩ : ∃ a b c, ys = [a, b, c] := by
      match ys, ly with
      | [a, b, c], _ => exact ⟨a, b, c, rfl⟩
    have o1 := okk ka (by simp)
    have o2 := okk kb (by simp)
    have o3 := okk kc (by simp)
    refine q (.ref p12) (.o3 ka kb kc) _ (TrAt.mk ?_ al12) ⟨fun z hz => ?_, o1.sm, o2.sm, o3.sm⟩ ?_ (F11.same s12) (B11.same s12)
    · rw [h12, ep]; rfl
    · rcases List.mem_append.mp hz with hz | hz
      · rcases List.mem_append.mp hz with hz | hz
        · exact o1.ln z hz
        · exact o2.ln z hz
      · exact o3.ln z hz
    · show (ka.parts ++ kb.parts ++ kc.parts ++ [_]).length ≤ r
      rw [List.length_append, List.length_append, List.length_append]
      show _ + 1 ≤ r
      omega
  · obtain ⟨w2, rfl⟩ : ∃ w2 : W2, wd = w2.s := by
      unfold wsT at mw
      simp only [List.mem_cons, List.not_mem_nil, or_false] at mw
      rcases mw with h | h | h | h | h | h | h | h | h | h
      · exact absurd h e
      · exact absurd h e
      · exact absurd h et
      · exact ⟨.sum, h⟩
      · exact ⟨.gap, h⟩
      · exact ⟨.below, h⟩
      · exact ⟨.most, h⟩
      · exact ⟨.least, h⟩
      · exact absurd h ep
      · exact ⟨.sum, h⟩
    refine ⟨_, rfl, _, rfl, _, rfl, _, rfl, _, rfl, f, c, nw, na, now, names, o, ea, by omega, by omega, by omega, hnw3, hna3, ln, la, gw, ga, F3, fun va ta H4 hta oka lpa F4 B4 => ?_⟩
    have hnw4 := B4 _ _ hnw3 nwf
    have hna4 := B4 _ _ hna3 naf
    have eb : [V.ref f, V.int (((r : Nat) : Int) - 1 - (1 + v2)), V.ref nw, V.ref na] = [V.ref f, nV (r - 1 - o), V.ref nw, V.ref na] := by
      rw [show nV (r - 1 - o) = V.int (((r : Nat) : Int) - 1 - (1 + v2)) from congrArg V.int (by omega)]
    refine ⟨_, rfl, _, rfl, _, _, rfl, rfl, _, rfl, _, _, rfl, rfl, _, rfl, _, rfl, f, c, nw, na, now, names, r - 1 - o, eb, by omega, by omega, by omega, hnw4, hna4, ln, la, gw, ga, F4, fun vb tb H5 htb okb lpb F5 B5 => ⟨(by show 3 ≤ sizeLine; decide), fun p np => ?_⟩⟩
    have hta5 := (hta.keep (TK.but F4 B5)).keep (TK.new (o := .tup [.str w2.s, va, vb]) np)
    refine q (.ref p) (.o2 w2 ta tb) _ ⟨p, va, vb, rfl, upd_same, hta5, htb.keep (TK.new np)⟩ ⟨fun z hz => ?_, oka.sm, okb.sm⟩ ?_ (F5.new np) (((B3.trans B4).trans B5).new np)
    · rcases List.mem_append.mp hz with hz | hz
      · exact oka.ln z hz
      · exact okb.ln z hz
    · show (ta.parts ++ tb.parts ++ [_]).length ≤ r
      rw [List.length_append, List.length_append]
      show _ + 1 ≤ r
      omega
theorem tree_all (T : Top w K mg) : ∀ (n : Nat) (f : Addr) (fd : FuncData), Fun K "_law_tree" "_law_tree" s_law_tree f fd → FnOk P w K mg base CX0 (n + 3) f fd ["_law_flow_here", "_law_room", "_law_now", "_law_names_here"] (spT K n)
  | 0, f, fd, F => by
    refine F.ok sc_law_tree (fun vs H Q E h => h.elim) (fun cdv A outer s H vs Q E hr h => h.elim)
  | n + 1, f, fd, F => tree_step T n (tree_all T n) F
abbrev sp_law_tree (K : PySem.W.Frag) : Sp := spT K 8
theorem ok_law_tree {f : Addr} {fd : FuncData} (F : Fun K "_law_tree" "_law_tree" s_law_tree f fd) (T : Top w K mg) : FnOk P w K mg base CX0 11 f fd ["_law_flow_here", "_law_room", "_law_now", "_law_names_here"] (sp_law_tree K) := tree_all T 8 f fd F
end
/-! ### formulas drawn -/
abbrev stV (tf : Str → V) (ns : List Str) : List (Key × V) := ns.map fun z => (Sum.inr z, tf z)
theorem stV_val {tf : Str → V} {ns : List Str} (z : Str) : valV (stV tf ns) (Sum.inr z) = if z ∈ ns then some (tf z) else none := by
  induction ns with
  | nil => rfl
  | cons x r ih =>
    unfold valV at ih ⊢
    show Option.map _ (List.find? _ ((Sum.inr x, tf x) :: stV tf r)) = _
    rw [List.find?_cons]
    by_cases h : x = z
    · subst h
      rw [decide_eq_true rfl, if_pos (List.mem_cons_self ..)]; rfl
    · rw [decide_eq_false fun k => h (Sum.inr.inj k)]
      have : (z ∈ x :: r) ↔ z ∈ r := ⟨fun k => (List.mem_cons.mp k).resolve_left fun y => h y.symm, List.mem_cons_of_mem _⟩
      by_cases k : z ∈ r
      · rw [if_pos (this.mpr k)]
        rw [if_pos k] at ih
        exact ih
      · rw [if_neg fun y => k (this.mp y)]
        rw [if_neg k] at ih
        exact ih
theorem stV_put (tf : Str → V) {ns : List Str} {z : Str} (h : z ∉ ns) (v : V) : putK (stV tf ns) (Sum.inr z) v = stV (fun y => if y = z then v else tf y) (ns ++ [z]) := by
  rw [putK_new _ (by rw [stV_val, if_neg h])]
  unfold stV
  rw [List.map_append]
  congr 1
  · refine List.map_congr_left fun y hy => ?_
    show (_, tf y) = (_, if y = z then v else tf y)
    rw [if_neg (show ¬ y = z from fun e => h (e ▸ hy))]
  · show [_] = [(_, if z = z then v else tf z)]
    rw [if_pos rfl]
/-- what is so of formulas that the law draws -/
structure GFm (most : Nat) (F : Fm) : Prop where
  li : F.ins.length ≤ 4
  lr : F.rules.length ≤ most
  lw : F.was.length ≤ 9
  lo : F.outs.length ≤ 4
  nd : F.own.Nodup
  wd : ∀ z ∈ F.own, Wd 6 z ∧ z ∉ takL
  kn : F.kept.Nodup
  ko : ∀ z ∈ F.kept, z ∈ F.own
  th : ∀ p ∈ F.was, p.2.length ≤ 7 ∧ ∀ x ∈ p.2, Small x
  oo : ∀ z ∈ F.outs, z ∈ F.own
  tr : ∀ p ∈ F.rules, p.2.parts.length ≤ 10 ∧ p.2.small ∧ ∀ q ∈ p.2.leans, q.1 ∈ F.own ∧ q.2 ≤ 6
  rk : ∃ rk : Str → Nat, ∀ p ∈ F.rules, ∀ q ∈ p.2.leans, q.2 = 0 → rk q.1 < rk p.1
/-- the names of what comes in and of the rules, as the law draws them -/
structure Dr (most : Nat) (ins own : List Str) : Prop where
  li : ins.length ≤ 4
  lo : own.length ≤ most
  nd : (ins ++ own).Nodup
  wd : ∀ z ∈ ins ++ own, Wd 6 z ∧ z ∉ takL
theorem perm_strs {ys : List V} {own : List Str} (p : ys.Perm (own.map V.str)) : ∃ zs : List Str, ys = zs.map V.str ∧ zs.Perm own := by
  have base : ∀ l : List Str, All2 (fun v z => v = V.str z) (l.map V.str) l := by
    intro l
    induction l with
    | nil => exact .nil
    | cons x r ih => exact .cons rfl ih
  obtain ⟨zs, pz, al⟩ := All2.perm p (base own)
  refine ⟨zs, ?_, pz⟩
  clear pz p
  induction al with
  | nil => rfl
  | cons e _ ih => rw [List.map_cons, e, ih]
section
variable {P : Program} {w : World} {K : PySem.W.Frag} {mg : Str → Option Value} {base : Heap}
def sp_law_formulas (K : PySem.W.Frag) : Sp := fun vs H Q _ => ∃ (f c : Addr) (most : Nat), vs = [.ref f, nV most] ∧ most ≤ 5 ∧ Flow H f c ∧ ∀ (r : Addr) (F : Fm) (H' : Hp), FmAt H' r F → GFm most F → Flow H' f c → But f H H' → Q (.ref r) H'
theorem ok_law_formulas {f : Addr} {fd : FuncData} (F : Fun K "_law_formulas" "_law_formulas" s_law_formulas f fd) (T : Top w K mg) : FnOk P w K mg base CX0 12 f fd ["_law_flow_here", "_law_most"] (sp_law_formulas K) := by
  obtain ⟨f_law_names, fd_law_names, F_law_names, b_law_names, m_law_names⟩ := T.d_law_names
  have G_law_names := ok_law_names (P := P) (w := w) (base := base) F_law_names T
  obtain ⟨f_law_tree, fd_law_tree, F_law_tree, b_law_tree, m_law_tree⟩ := T.d_law_tree
  have G_law_tree := ok_law_tree (P := P) (w := w) (base := base) F_law_tree T
  obtain ⟨f_law_pick, fd_law_pick, F_law_pick, b_law_pick, m_law_pick⟩ := T.d_law_pick
  have G_law_pick := ok_law_pick (P := P) (w := w) (base := base) F_law_pick T
  obtain ⟨f_law_shuffled, fd_law_shuffled, F_law_shuffled, b_law_shuffled, m_law_shuffled⟩ := T.d_law_shuffled
  have G_law_shuffled := ok_law_shuffled (P := P) (w := w) (base := base) F_law_shuffled T
  obtain ⟨f_law_thing, fd_law_thing, F_law_thing, b_law_thing, m_law_thing⟩ := T.d_law_thing
  have G_law_thing := ok_law_thing (P := P) (w := w) (base := base) F_law_thing T
  refine F.ok sc_law_formulas (fun vs H Q E h => ?_) (fun cdv A outer s H vs Q E hr h => ?_)
  · obtain ⟨f, c, most, rfl, _⟩ := h
    rfl
  obtain ⟨f, c, most, rfl, m5, hF, q⟩ := h
  let sg : Addr → Addr → Addr → Addr → Option V → Option V → Option V → Option V → Option V → Option V → L2.St := fun nl il ol el v6 v7 v8 v9 v10 v11 => [some (.ref f), some (nV most), some (.ref nl), some (.ref il), some (.ref ol), some (.ref el), v6, v7, v8, v9, v10, v11]
  let Base : Addr → Addr → List Str → List Str → Hp → Prop := fun il el ins own H' => H' il = some (.lst (ins.map V.str)) ∧ H' el = some (.lst ((ins ++ own).map V.str)) ∧ Dr most ins own ∧ Flow H' f c ∧ But f H H' ∧ H il = none ∧ H el = none
  let R1 : TS := fun D' σ' H' => D'.rt = Q ∧ ∃ (nl il ol el td : Addr) (ins own : List Str), σ' = sg nl il ol el (some (.ref td)) none none none none none ∧ Base il el ins own H' ∧ H' ol = some (.lst (own.map V.str)) ∧ H' td = some (.dK []) ∧ H td = none
  let R2 : TS := fun D' σ' H' => D'.rt = Q ∧ ∃ (nl il ol el td : Addr) (ins own : List Str) (v7 v8 : Option V) (tf : Str → V) (tt : Str → Tr), σ' = sg nl il ol el (some (.ref td)) v7 v8 none none none ∧ Base il el ins own H' ∧ H' ol = some (.lst (own.map V.str)) ∧ H' td = some (.dK (stV tf own)) ∧ ∀ (j : Nat) (z : Str), own[j]? = some z → TrAt H' (tf z) (tt z) ∧ TOk (ins ++ own.take j) (ins ++ own) (tt z) ∧ (tt z).parts.length ≤ 10
  let R3 : TS := fun D' σ' H' => D'.rt = Q ∧ ∃ (nl il ol el rl : Addr) (ins own : List Str) (v6 v7 v8 : Option V) (rv : List V) (rules : List (Str × Tr)), σ' = sg nl il ol el v6 v7 v8 (some (.ref rl)) none none ∧ Base il el ins own H' ∧ H' rl = some (.lst rv) ∧ All2 (RlAt H') rv rules ∧ (rules.map (·.1)).Perm own ∧ ∀ p ∈ rules, ∃ j : Nat, own[j]? = some p.1 ∧ TOk (ins ++ own.take j) (ins ++ own) p.2 ∧ p.2.parts.length ≤ 10
  let R4 : TS := fun D' σ' H' => D'.rt = Q ∧ ∃ (nl il ol el rl wl : Addr) (ins own : List Str) (v6 v7 v8 : Option V) (rv wv : List V) (rules : List (Str × Tr)) (was : List (Str × List Int)), σ' = sg nl il ol el v6 v7 v8 (some (.ref rl)) (some (.ref wl)) none ∧ Base il el ins own H' ∧ H' rl = some (.lst rv) ∧ All2 (RlAt H') rv rules ∧ (rules.map (·.1)).Perm own ∧ (∀ p ∈ rules, ∃ j : Nat, own[j]? = some p.1 ∧ TOk (ins ++ own.take j) (ins ++ own) p.2 ∧ p.2.parts.length ≤ 10) ∧
    H' wl = some (.lst wv) ∧ All2 (WaAt H') wv was ∧ (was.map (·.1)).Sublist (ins ++ own) ∧ (∀ p ∈ was, p.2.length ≤ 7 ∧ ∀ x ∈ p.2, Small x)
  refine ⟨_, (pss_cons (ps_set (i := 2) sc_law_formulas.nd rfl (Or.inl rfl) (pe_call G_law_names (hr.mono (by decide)) (by rfl) m_law_names F_law_names.kp b_law_names .nil pass0 (pa_cons (pv 0) (pa_cons pe_int pa_nil))))
      (pss_cons (ps_set (i := 3) sc_law_formulas.nd rfl (Or.inl rfl) (pe_slice (sl_listK K rfl) (pv 2) po_none (po_some (pe_call G_law_pick (hr.mono (by decide)) (by rfl) m_law_pick F_law_pick.kp b_law_pick .nil pass0 (pa_cons (pv 0) (pa_cons pe_int pa_nil))))))
      (pss_cons (ps_set (i := 4) sc_law_formulas.nd rfl (Or.inl rfl) (pe_slice (sl_listK K rfl) (pv 2) (po_some pe_int) (po_some (pe_op op_add pe_int (pe_call G_law_pick (hr.mono (by decide)) (by rfl) m_law_pick F_law_pick.kp b_law_pick .nil pass0 (pa_cons (pv 0) (pa_cons (pe_op op_add (pv 1) pe_int) pa_nil)))))))
      (pss_cons (ps_set (i := 5) sc_law_formulas.nd rfl (Or.inr rfl) (pe_op op_cat (pv 3) (pv 4)))
      (pss_cons (ps_set (i := 6) sc_law_formulas.nd rfl (Or.inr rfl) pe_dnewK)
      (PSs.to (pss_cons (ps_for PassesOwn.never rfl (pi_enum (by rfl) T.m_enumerate (pa_cons (pv 4) pa_nil)) (pg_tupK K rfl rfl (pgs_cons (pg_name (i := 7) sc_law_formulas.nd rfl (Or.inl rfl)) (pgs_cons (pg_name (i := 8) sc_law_formulas.nd rfl (Or.inl rfl)) pgs_nil)))
        (pss_one (ps_dput (hu_of hr) (pv 6) (pv 8) (pe_call G_law_tree (hr.mono (by decide)) (by rfl) m_law_tree F_law_tree.kp b_law_tree .nil pass0 (pa_cons (pv 0) (pa_cons (pe_op op_add pe_int (pe_call G_law_pick (hr.mono (by decide)) (by rfl) m_law_pick F_law_pick.kp b_law_pick .nil pass0 (pa_cons (pv 0) (pa_cons pe_int pa_nil)))) (pa_cons (pe_op op_cat (pv 3) (pe_slice (sl_listK K rfl) (pv 4) po_none (po_some (pv 7)))) (pa_cons (pv 5) pa_nil))))) (by rfl))))
      (PSs.to (pss_cons (ps_setLc (i := 9) (own := [("_law_name", 8)]) (g := gName 8) (tt := tYes) (by rfl) sc_law_formulas.nd rfl rfl (sw_true rfl rfl rfl (by decide +kernel)) (pi_listK K rfl (pe_call G_law_shuffled (hr.mono (by decide)) (by rfl) m_law_shuffled F_law_shuffled.kp b_law_shuffled .nil pass0 (pa_cons (pv 0) (pa_cons (pv 4) pa_nil)))) (blkOk_by (own := [("_law_name", 8)]) (N := N_law_formulas) (sc := defScope s_law_formulas) (by decide +kernel)) (fun _ _ _ _ _ => (pg_name (i := 8) sc_law_formulas.nd rfl (Or.inl rfl))) (fun _ _ _ _ _ => pts_nil) (fun _ _ _ _ _ => (pe_tup (pa_cons (pv 8) (pa_cons (pe_dget (hu_of hr) (pv 6) (pv 8) (fun _ _ => rfl)) pa_nil)))))
      (PSs.to (pss_cons (ps_set (i := 10) sc_law_formulas.nd rfl (Or.inl rfl) (pe_lst pa_nil))
      (pss_cons (ps_for PassesOwn.never rfl (pi_listK K rfl (pv 5)) (pg_name (i := 8) sc_law_formulas.nd rfl (Or.inl rfl))
        (pss_one (ps_if (pt_cmpR op_eq (pe_call G_law_pick (hr.mono (by decide)) (by rfl) m_law_pick F_law_pick.kp b_law_pick .nil pass0 (pa_cons (pv 0) (pa_cons pe_int pa_nil))) pe_int (nomark _)) (pss_one (ps_expr (pe_bmK K rfl PySem.F.plainAttrs_list PySem.F.slot_list_append PySem.F.type_list_append mt_append (pv 10) (pa_cons (pe_tup (pa_cons (pv 8) (pa_cons (pe_callTy (call_tuple_ofK K rfl) (by rfl) T.m_tuple (by decide +kernel) (pa_cons (pe_lc (own := [("_law_k", 7)]) (g := gName 7) (tt := tYes) (by rfl) sc_law_formulas.nd (pi_range1 (by rfl) T.m_range (pa_cons (pe_call G_law_pick (hr.mono (by decide)) (by rfl) m_law_pick F_law_pick.kp b_law_pick .nil pass0 (pa_cons (pv 0) (pa_cons pe_int pa_nil))) pa_nil)) (blkOk_by (own := [("_law_k", 7)]) (N := N_law_formulas) (sc := defScope s_law_formulas) (by decide +kernel)) (fun _ _ _ _ _ => (pg_name (i := 7) sc_law_formulas.nd rfl (Or.inl rfl))) (fun _ _ _ _ _ => pts_nil) (fun _ _ _ _ _ => (pe_call G_law_thing (hr.mono (by decide)) (by rfl) m_law_thing F_law_thing.kp b_law_thing .nil pass0 (pa_cons (pv 0) pa_nil)))) pa_nil)) pa_nil))) pa_nil)))) pss_nil)))
      (PSs.to (pss_cons (ps_setLc (i := 11) (own := [("_law_k", 7)]) (g := gName 7) (by rfl) sc_law_formulas.nd rfl rfl (sw_true rfl rfl rfl (by decide +kernel)) (pi_range1 (by rfl) T.m_range (pa_cons (pe_call G_law_pick (hr.mono (by decide)) (by rfl) m_law_pick F_law_pick.kp b_law_pick .nil pass0 (pa_cons (pv 0) (pa_cons pe_int pa_nil))) pa_nil)) (blkOk_by (own := [("_law_k", 7)]) (N := N_law_formulas) (sc := defScope s_law_formulas) (by decide +kernel)) (fun _ _ _ _ _ => (pg_name (i := 7) sc_law_formulas.nd rfl (Or.inl rfl))) (fun _ _ _ _ _ => pts_one (pt_cmpR (op_neDK K rfl hr.units) (pv 5) (pe_lst pa_nil) (nomark _))) (fun _ _ _ _ _ => (pe_ix (ix_listK K rfl) (pv 5) (pe_call G_law_pick (hr.mono (by decide)) (by rfl) m_law_pick F_law_pick.kp b_law_pick .nil pass0 (pa_cons (pv 0) (pa_cons (pe_callB (call_len_seqK K rfl) (by rfl) T.m_len (by decide +kernel) (pa_cons (pv 5) pa_nil)) pa_nil))) (fun _ _ => rfl))))
      (pss_one (ps_ret (pe_tup (pa_cons (pe_callTy (call_tuple_ofK K rfl) (by rfl) T.m_tuple (by decide +kernel) (pa_cons (pv 3) pa_nil)) (pa_cons (pe_callTy (call_tuple_ofK K rfl) (by rfl) T.m_tuple (by decide +kernel) (pa_cons (pe_call G_law_shuffled (hr.mono (by decide)) (by rfl) m_law_shuffled F_law_shuffled.kp b_law_shuffled .nil pass0 (pa_cons (pv 0) (pa_cons (pv 10) pa_nil))) pa_nil)) (pa_cons (pe_callTy (call_tuple_ofK K rfl) (by rfl) T.m_tuple (by decide +kernel) (pa_cons (pv 9) pa_nil)) (pa_cons (pe_callTy (call_tuple_ofK K rfl) (by rfl) T.m_tuple (by decide +kernel) (pa_cons (pv 11) pa_nil)) pa_nil)))))))) R4 ?tail4))) R3 ?tail3)) R2 ?tail2)) R1 ?tail1)))))), ?_⟩
  case tail4 =>
    rintro D' σ' H1 ⟨eD, nl, il, ol, el, rl, wl, ins, own, v6, v7, v8, rv, wv, rules, was, rfl, ⟨hil, hel, dr, F1, B1, nil0, nel0⟩, hrl, alr, pmr, ru, hwl, alw, sub, wth⟩
    have elf := F1.neS hel
    have ilf := F1.neS hil
    have lins := dr.li
    have lown := dr.lo
    have lrules : rules.length = own.length := by
      have := pmr.length_eq
      rwa [List.length_map] at this
    have notf : ∀ {p : Addr} {xs : List V}, H1 p = some (.lst xs) → (∀ x ∈ xs, ∃ (a : Addr) (ys : List V), x = .ref a ∧ H1 a = some (.tup ys)) → p ≠ f := fun {p xs} e all z => by
      obtain ⟨ns, i, a, q, r, e1, e2, _⟩ := F1
      rw [z, e1] at e
      obtain rfl := HO.lst.inj (Option.some.inj e)
      obtain ⟨b, ys, eb, e3⟩ := all _ (List.mem_cons_self ..)
      cases eb
      rw [e2] at e3
      cases e3
    have rlf : rl ≠ f := notf hrl fun x hx => by
      obtain ⟨j, ej⟩ := List.getElem?_of_mem hx
      obtain ⟨p, _, t, y, rfl, e, _⟩ := alr.getL ej
      exact ⟨t, _, rfl, e⟩
    have wlf : wl ≠ f := notf hwl fun x hx => by
      obtain ⟨j, ej⟩ := List.getElem?_of_mem hx
      obtain ⟨p, _, t, y, rfl, e, _⟩ := alw.getL ej
      exact ⟨t, _, rfl, e⟩
    refine ⟨_, rfl, f, c, 5, rfl, by decide, by decide, F1, fun u H2 u0 u1 F2 B2 => ⟨_, rfl, by omega, by omega, fun D nD => ?_⟩⟩
    have Df : D ≠ f := F2.ne nD
    have Dc : D ≠ c := F2.nec nD
    have hel2 := B2 _ _ hel elf
    refine lc_range (lo := 0) (n := u.toNat) (fun k H9 => ∃ os : List Str, H9 D = some (.lst (os.map V.str)) ∧ os.length ≤ k ∧ (∀ x ∈ os, x ∈ ins ++ own) ∧ Flow H9 f c ∧ But f H2 H9) ⟨[], upd_same, Nat.le_refl _, (fun _ y => by cases y), F2.new nD, But.refl.new nD⟩ ?_ ?_
    · rintro k H9 hk ⟨os, hD, lo, oin, F9, B9⟩
      have hel9 := B9 _ _ hel2 elf
      refine ⟨rfl, ?_⟩
      refine ⟨_, rfl, (by show 0 ≤ sizeLine; decide), fun p1 np1 => ?_⟩
      have s10 : Same H9 (upd H9 p1 (.lst [])) := same_new np1
      have hp1 : (upd H9 p1 (.lst [])) p1 = some (.lst []) := upd_same
      have F10 := F9.new (o := .lst []) np1
      have hD10 := s10 _ _ hD
      have hel10 := s10 _ _ hel9
      generalize upd H9 p1 (.lst []) = H10 at s10 hp1 F10 hD10 hel10 ⊢
      have B10 := B9.same s10
      refine ⟨_, _, .lst (SqL.of hel10) (dp_strs _), .lst (SqL.of hp1) .nil, strs_shaped (m := 6) (fun z hz => (dr.wd z hz).1), rfl, _, rfl, ?_⟩
      have ee : PyData.eqv (.list ((ins ++ own).map PyData.str)) (.list []) = ((ins ++ own).map PyData.str).isEmpty := eqv_nil
      rw [ee]
      by_cases emp : ins ++ own = []
      · have en : (!((ins ++ own).map PyData.str).isEmpty) = false := by rw [emp]; rfl
        rw [en]
        refine if_bl (fun z => nomatch z) (fun _ => ?_)
        exact ⟨os, hD10, by omega, oin, F10, B10⟩
      · have pos : 0 < (ins ++ own).length := List.length_pos_iff.mpr emp
        have ne : (!((ins ++ own).map PyData.str).isEmpty) = true := by
          cases hl : ins ++ own with
          | nil => exact absurd hl emp
          | cons a b => rfl
        rw [ne]
        refine if_bl (fun _ => ?_) (fun z => nomatch z)
        refine ⟨_, rfl, _, rfl, _, rfl, el, _, rfl, .inl (SqL.of hel10), f, c, (((ins ++ own).length : Nat) : Int), ?_, by omega, log_small (by rw [List.length_append]; omega), F10, fun v2 H11 v20 v21 F11 B11 => ?_⟩
        · rw [List.length_map, List.append_nil]
        have hel11 := B11 _ _ hel10 elf
        obtain ⟨z, ez, mz⟩ := at_strs v20 v21
        refine ⟨el, _, v2, _, rfl, rfl, SqL.of hel11, ez, _, B11 _ _ hD10 Df, by rw [List.length_map]; exact small1000 (by omega), os ++ [z], by rw [upd_same, List.map_append]; rfl, by rw [List.length_append]; show _ + 1 ≤ _; omega, fun y hy => ?_, F11.lst Df Dc, (B10.trans B11).own nD⟩
        rcases List.mem_append.mp hy with h | h
        · exact oin y h
        · rw [List.mem_singleton.mp h]; exact mz
    · rintro H3 ⟨os, hD, lo, oin, F3, B3⟩
      have B13 := B2.trans B3
      have hil3 := B13 _ _ hil ilf
      refine ⟨_, rfl, il, _, rfl, .inl ⟨SqL.of hil3, fun a1 na1 => ?_⟩⟩
      have s4 : Same H3 (upd H3 a1 (.tup (ins.map V.str))) := same_new na1
      have ha1 : (upd H3 a1 (.tup (ins.map V.str))) a1 = some (.tup (ins.map V.str)) := upd_same
      have F4 := F3.new (o := .tup (ins.map V.str)) na1
      have B14 := B13.same s4
      have a1f : a1 ≠ f := F3.ne na1
      have hD4 := s4 _ _ hD
      generalize upd H3 a1 (.tup (ins.map V.str)) = H4 at s4 ha1 F4 B14 hD4 ⊢
      have lw := alw.length
      have lw2 := sub.length_le
      rw [List.length_map, List.length_append] at lw2
      refine ⟨_, rfl, _, rfl, f, c, wl, wv, rfl, SqL.of (B14 _ _ hwl wlf), wlf, by omega, F4, fun p ys H5 pm np hp F5 B5 => ?_⟩
      have alw5 : All2 (WaAt H5) wv was := alw.imp fun _ _ y => (y.keep (TK.but F1 B14)).keep (TK.but F4 B5)
      obtain ⟨was2, pw, alw6⟩ := All2.perm pm alw5
      have B15 := B14.trans B5
      refine ⟨p, ys, rfl, .inl ⟨SqL.of hp, fun a2 na2 => ?_⟩⟩
      have s6 : Same H5 (upd H5 a2 (.tup ys)) := same_new na2
      have ha2 : (upd H5 a2 (.tup ys)) a2 = some (.tup ys) := upd_same
      have F6 := F5.new (o := .tup ys) na2
      have B16 := B15.same s6
      have hrl6 := B16 _ _ hrl rlf
      have hD6 := s6 _ _ (B5 _ _ hD4 Df)
      have ha16 := s6 _ _ (B5 _ _ ha1 a1f)
      generalize upd H5 a2 (.tup ys) = H6 at s6 ha2 F6 B16 hrl6 hD6 ha16 ⊢
      refine ⟨_, rfl, rl, rv, rfl, .inl ⟨SqL.of hrl6, fun a3 na3 => ?_⟩⟩
      have s7 : Same H6 (upd H6 a3 (.tup rv)) := same_new na3
      have ha3 : (upd H6 a3 (.tup rv)) a3 = some (.tup rv) := upd_same
      have hD7 := s7 _ _ hD6
      generalize upd H6 a3 (.tup rv) = H7 at s7 ha3 hD7 ⊢
      refine ⟨_, rfl, D, _, rfl, .inl ⟨SqL.of hD7, fun a4 na4 => ⟨(by show 4 ≤ sizeLine; decide), fun r nr => ?_⟩⟩⟩
      have s8 : Same H7 (upd H7 a4 (.tup (os.map V.str))) := same_new na4
      have ha4 : (upd H7 a4 (.tup (os.map V.str))) a4 = some (.tup (os.map V.str)) := upd_same
      generalize upd H7 a4 (.tup (os.map V.str)) = H8 at s8 ha4 nr ⊢
      have s9 : Same H8 (upd H8 r (.tup [.ref a1, .ref a2, .ref a3, .ref a4])) := same_new nr
      have s69 := s7.trans (s8.trans s9)
      rw [eD]
      have ow : (ins ++ rules.map (·.1)).Perm (ins ++ own) := List.Perm.append_left ins pmr
      have mo : ∀ z, z ∈ ins ++ rules.map (·.1) ↔ z ∈ ins ++ own := fun z => ow.mem_iff
      refine q r ⟨ins, was2, rules, os⟩ _ ⟨a1, a2, a3, a4, ys, rv, upd_same, s69 _ _ ha16, s69 _ _ ha2, alw6.imp fun _ _ y => (y.keep (TK.same s6)).keep (TK.same s69), s9 _ _ (s8 _ _ ha3), alr.imp fun _ _ y => (y.keep (TK.but F1 B16)).keep (TK.same s69), s9 _ _ ha4⟩ ?_ (F6.same s69) ((B1.trans B16).same s69)
      have u5 : u.toNat ≤ 4 := by omega
      have m5' := m5
      have pk : (was2.map (·.1)).Perm (was.map (·.1)) := pw.map _
      refine ⟨dr.li, by show rules.length ≤ most; omega, by show was2.length ≤ 9; rw [pw.length_eq]; have := List.length_map (as := was) (·.1); omega, by show os.length ≤ 4; omega, ow.nodup_iff.mpr dr.nd, fun z hz => dr.wd z ((mo z).mp hz), pk.nodup_iff.mpr (List.Nodup.sublist sub dr.nd), fun z hz => (mo z).mpr (sub.subset (pk.mem_iff.mp hz)), fun p hp => wth p (pw.mem_iff.mp hp), fun z hz => (mo z).mpr (oin z hz), fun p hp => ?_, ?_⟩
      · obtain ⟨j, ej, tok, lp⟩ := ru p hp
        refine ⟨lp, tok.sm, fun q hq => ?_⟩
        rcases tok.ln q hq with ⟨e0, m⟩ | ⟨e0, e6, m⟩
        · refine ⟨(mo _).mpr ?_, by omega⟩
          rcases List.mem_append.mp m with m | m
          · exact List.mem_append.mpr (.inl m)
          · exact List.mem_append.mpr (.inr (List.mem_of_mem_take m))
        · exact ⟨(mo _).mpr m, e6⟩
      · have ndo : own.Nodup := (List.nodup_append.mp dr.nd).2.1
        have key : ∃ rk : Str → Nat, (∀ (j : Nat) (z : Str), own[j]? = some z → rk z = j + 1) ∧ ∀ z, z ∉ own → rk z = 0 := by
          classical
          refine ⟨fun z => if h : ∃ j, own[j]? = some z then Classical.choose h + 1 else 0, fun j z e => ?_, fun z hz => dif_neg fun ⟨j, e⟩ => hz (List.mem_of_getElem? e)⟩
          have h : ∃ j, own[j]? = some z := ⟨j, e⟩
          show (if h : ∃ j, own[j]? = some z then Classical.choose h + 1 else 0) = j + 1
          rw [dif_pos h, nodup_get ndo (Classical.choose_spec h) e]
        obtain ⟨rk, k1, k2⟩ := key
        refine ⟨rk, fun p hp q hq q0 => ?_⟩
        obtain ⟨j, ej, tok, lp⟩ := ru p hp
        rw [k1 j _ ej]
        rcases tok.ln q hq with ⟨_, m⟩ | ⟨e0, _, _⟩
        · rcases List.mem_append.mp m with m | m
          · have : q.1 ∉ own := fun y => (List.nodup_append.mp dr.nd).2.2 _ m _ y rfl
            rw [k2 _ this]
            omega
          · obtain ⟨i, hi, ei⟩ := List.mem_take_iff_getElem.mp m
            have := k1 i q.1 (List.getElem?_eq_some_iff.mpr ⟨by omega, ei⟩)
            omega
        · omega
  case tail3 =>
    rintro D' σ' H1 ⟨eD, nl, il, ol, el, rl, ins, own, v6, v7, v8, rv, rules, rfl, ⟨hil, hel, dr, F1, B1, nil0, nel0⟩, hrl, alr, pmr, ru⟩
    have elf := F1.neS hel
    have ilf := F1.neS hil
    have rlf : rl ≠ f := fun z => by
      obtain ⟨_, _, _, _, _, e1, _⟩ := F1
      rw [z, e1] at hrl
      obtain rfl := HO.lst.inj (Option.some.inj hrl)
      cases alr with
      | cons a b => cases b with
        | cons a2 b =>
          obtain ⟨_, _, e, _⟩ := a2
          cases e
    have lins := dr.li
    have lown := dr.lo
    refine ⟨(by show 0 ≤ sizeLine; decide), fun wl nwl => ?_⟩
    have wf : wl ≠ f := F1.ne nwl
    have wc : wl ≠ c := F1.nec nwl
    have nw0 : H wl = none := But.none B1 nwl wf
    have F2 := F1.new (o := .lst []) nwl
    have B2 := B1.new (o := .lst []) nwl
    have hwl2 : (upd H1 wl (.lst [])) wl = some (.lst []) := upd_same
    have hil2 := same_new (o := .lst []) nwl _ _ hil
    have hel2 := same_new (o := .lst []) nwl _ _ hel
    have hrl2 := same_new (o := .lst []) nwl _ _ hrl
    have nil2 : il ≠ wl := ne_of_none hil nwl
    have nel2 : el ≠ wl := ne_of_none hel nwl
    have nrl2 : rl ≠ wl := ne_of_none hrl nwl
    replace alr := alr.imp fun _ _ z => z.keep (TK.new (o := .lst []) nwl)
    generalize upd H1 wl (.lst []) = H2 at F2 B2 hwl2 hil2 hel2 hrl2 alr ⊢
    refine ⟨_, rfl, el, rfl, ⟨_, SqL.of hel2⟩, for_list (K := K) (a := el) (xs := (ins ++ own).map V.str) (fun i σ H5 => ∃ (v7 v8 : Option V) (wv : List V) (was : List (Str × List Int)), σ = sg nl il ol el v6 v7 v8 (some (.ref rl)) (some (.ref wl)) none ∧ Base il el ins own H5 ∧ H5 rl = some (.lst rv) ∧ All2 (RlAt H5) rv rules ∧ H5 wl = some (.lst wv) ∧ All2 (WaAt H5) wv was ∧ (was.map (·.1)).Sublist ((ins ++ own).take i) ∧ (∀ p ∈ was, p.2.length ≤ 7 ∧ ∀ x ∈ p.2, Small x)) ⟨v7, v8, [], [], rfl, ⟨hil2, hel2, dr, F2, B2, nil0, nel0⟩, hrl2, alr, hwl2, .nil, List.nil_sublist _, fun _ z => by cases z⟩ (fun i σ H5 _ ⟨_, _, _, _, _, b, _⟩ => SqL.of b.2.1) ?_ ?_⟩
    · rintro i v σ H5 hx ⟨v7, v8, wv, was, rfl, ⟨hil5, hel5, _, F5, B5, _, _⟩, hrl5, alr5, hwl5, alw5, sub, wth⟩
      rw [List.getElem?_map] at hx
      cases ez : (ins ++ own)[i]? with
      | none => rw [ez] at hx; cases hx
      | some z =>
      rw [ez] at hx
      obtain rfl : V.str z = v := Option.some.inj hx
      have tk : (ins ++ own).take (i + 1) = (ins ++ own).take i ++ [z] := by rw [List.take_add_one, ez]; rfl
      refine ⟨_, rfl, f, c, 2, rfl, by decide, by decide, F5, fun v H6 v0 v1 F6 B6 => ⟨rfl, _, rfl, if_bl (fun _ => ?_) (fun _ => ?_)⟩⟩
      · have hwl6 := B6 _ _ hwl5 wf
        refine ⟨_, rfl, .inl ⟨rfl, _, SqL.of hwl6⟩, _, rfl, _, rfl, f, c, 8, rfl, by decide, by decide, F6, fun u H7 u0 u1 F7 B7 => ⟨_, rfl, by omega, by omega, fun D nD => ?_⟩⟩
        have Df : D ≠ f := F7.ne nD
        have Dc : D ≠ c := F7.nec nD
        have hwl7 := B7 _ _ hwl6 wf
        have Dw : D ≠ wl := fun y => by rw [y, hwl7] at nD; cases nD
        refine lc_range (lo := 0) (n := u.toNat) (fun k H9 => ∃ ts : List Int, H9 D = some (.lst (ts.map V.int)) ∧ ts.length = k ∧ (∀ x ∈ ts, Small x) ∧ Flow H9 f c ∧ But f H7 H9) ⟨[], upd_same, rfl, (fun _ y => by cases y), F7.new nD, But.refl.new nD⟩ ?_ ?_
        · rintro k H9 hk ⟨ts, hD, lt, sm, F9, B9⟩
          refine ⟨rfl, yes_in ⟨_, rfl, f, c, rfl, F9, fun x H10 sx F10 B10 => ⟨ts.map V.int, B10 _ _ hD Df, by rw [List.length_map]; exact small1000 (by omega), ts ++ [x], by rw [upd_same, List.map_append]; rfl, by rw [List.length_append, lt]; rfl, fun y hy => ?_, F10.lst Df Dc, (B9.trans B10).own nD⟩⟩⟩
          rcases List.mem_append.mp hy with h | h
          · exact sm y h
          · rw [List.mem_singleton.mp h]; exact sx
        · rintro H9 ⟨ts, hD, lt, sm, F9, B9⟩
          refine ⟨D, _, rfl, .inl ⟨SqL.of hD, fun pt npt => ⟨(by show 2 ≤ sizeLine; decide), fun pu npu => ?_⟩⟩⟩
          have s10 : Same H9 (upd (upd H9 pt (.tup (ts.map V.int))) pu (.tup [V.str z, V.ref pt])) := (same_new npt).trans (same_new npu)
          have h1 : (upd (upd H9 pt (.tup (ts.map V.int))) pu (.tup [V.str z, V.ref pt])) pt = some (.tup (ts.map V.int)) := same_new npu _ _ upd_same
          have h2 : (upd (upd H9 pt (.tup (ts.map V.int))) pu (.tup [V.str z, V.ref pt])) pu = some (.tup [V.str z, V.ref pt]) := upd_same
          generalize upd (upd H9 pt (.tup (ts.map V.int))) pu (.tup [V.str z, V.ref pt]) = H10 at s10 h1 h2 ⊢
          have B510 : But f H5 H10 := ((B6.trans B7).trans B9).same s10
          have hwl10 := B510 _ _ hwl5 wf
          have k10 : TK H5 (upd H10 wl (.lst (wv ++ [.ref pu]))) := (TK.but F5 B510).trans (TK.lst hwl10)
          have lw := alw5.length
          have lw2 := sub.length_le
          rw [List.length_map, List.length_take, List.length_append] at lw2
          refine ⟨wl, _, _, rfl, rfl, hwl10, small1000 (by omega), _, _, wv ++ [.ref pu], was ++ [(z, ts)], rfl, ⟨by rw [upd_ne nil2]; exact B510 _ _ hil5 ilf, by rw [upd_ne nel2]; exact B510 _ _ hel5 elf, dr, (F9.same s10).lst wf wc, (B5.trans B510).own nw0, nil0, nel0⟩, by rw [upd_ne nrl2]; exact B510 _ _ hrl5 rlf, alr5.imp fun _ _ y => y.keep k10, upd_same, ?_, ?_, ?_⟩
          · refine (alw5.imp fun _ _ y => y.keep k10).snoc ⟨pu, pt, rfl, TK.lst hwl10 _ _ h2, TK.lst hwl10 _ _ h1⟩
          · rw [tk, List.map_append]
            exact sub.append (List.Sublist.refl _)
          · intro p hp
            rcases List.mem_append.mp hp with y | y
            · exact wth p y
            · rw [List.mem_singleton.mp y]
              exact ⟨by show ts.length ≤ 7; omega, sm⟩
      · refine ⟨_, _, wv, was, rfl, ⟨B6 _ _ hil5 ilf, B6 _ _ hel5 elf, dr, F6, B5.trans B6, nil0, nel0⟩, B6 _ _ hrl5 rlf, alr5.imp fun _ _ y => y.keep (TK.but F5 B6), B6 _ _ hwl5 wf, alw5.imp fun _ _ y => y.keep (TK.but F5 B6), ?_, wth⟩
        rw [tk]
        exact sub.trans (List.sublist_append_left _ _)
    · rintro σ H5 ⟨v7, v8, wv, was, rfl, b5, hrl5, alr5, hwl5, alw5, sub, wth⟩
      rw [List.length_map, List.take_of_length_le (Nat.le_refl _)] at sub
      exact ⟨eD, nl, il, ol, el, rl, wl, ins, own, v6, v7, v8, rv, wv, rules, was, rfl, b5, hrl5, alr5, pmr, ru, hwl5, alw5, sub, wth⟩
  case tail2 =>
    rintro D' σ' H1 ⟨eD, nl, il, ol, el, td, ins, own, v7, v8, tf, tt, rfl, ⟨hil, hel, dr, F1, B1, nil0, nel0⟩, hol, htd, hT⟩
    have olf := F1.neS hol
    have elf := F1.neS hel
    have ilf := F1.neS hil
    have tdf : td ≠ f := fun z => by
      obtain ⟨_, _, _, _, _, e1, _⟩ := F1
      rw [z, e1] at htd
      cases htd
    have ndo : own.Nodup := (List.nodup_append.mp dr.nd).2.1
    have lo5 : own.length ≤ 5 := Nat.le_trans dr.lo m5
    refine ⟨_, rfl, _, rfl, f, c, ol, _, rfl, SqL.of hol, olf, by rw [List.length_map]; omega, F1, fun p1 ys H2 pm np1 hp1 F2 B2 => ?_⟩
    obtain ⟨zs, rfl, pz⟩ := perm_strs pm
    refine ⟨p1, rfl, ⟨_, SqL.of hp1⟩, fun D nD => ?_⟩
    have Df : D ≠ f := F2.ne nD
    have Dc : D ≠ c := F2.nec nD
    have pf : p1 ≠ f := F2.neS hp1
    have htd2 := B2 _ _ htd tdf
    refine lc_list (K := K) (a := p1) (xs := zs.map V.str) (fun i H9 => ∃ (rv : List V) (rules : List (Str × Tr)), H9 D = some (.lst rv) ∧ All2 (RlAt H9) rv rules ∧ rules.map (·.1) = zs.take i ∧ (∀ p ∈ rules, ∃ j : Nat, own[j]? = some p.1 ∧ TOk (ins ++ own.take j) (ins ++ own) p.2 ∧ p.2.parts.length ≤ 10) ∧ Same H2 H9) ⟨[], [], upd_same, .nil, rfl, (fun _ z => by cases z), same_new nD⟩ (fun i H9 _ ⟨_, _, _, _, _, _, s9⟩ => SqL.of (s9 _ _ hp1)) ?_ ?_
    · rintro i v H9 hx ⟨rv, rules, hD, al, em, ru, s9⟩
      rw [List.getElem?_map] at hx
      cases ez : zs[i]? with
      | none => rw [ez] at hx; cases hx
      | some z =>
      rw [ez] at hx
      obtain rfl : V.str z = v := Option.some.inj hx
      obtain ⟨j, ej⟩ := List.getElem?_of_mem (pz.mem_iff.mp (List.mem_of_getElem? ez))
      obtain ⟨g1, g2, g3⟩ := hT j z ej
      have gt := DGet.k (k := Sum.inr z) (s9 _ _ htd2)
      rw [stV_val, if_pos (List.mem_of_getElem? ej)] at gt
      refine ⟨rfl, yes_in ⟨_, rfl, _, rfl, _, rfl, td, _, rfl, gt, (by show 2 ≤ sizeLine; decide), fun pt npt => ?_⟩⟩
      have s10 : Same H9 (upd H9 pt (.tup [V.str z, tf z])) := same_new npt
      have nDp : D ≠ pt := fun y => by rw [← y, hD] at npt; cases npt
      have hpt : (upd H9 pt (.tup [V.str z, tf z])) pt = some (.tup [V.str z, tf z]) := upd_same
      have hD10 := s10 _ _ hD
      generalize upd H9 pt (.tup [V.str z, tf z]) = H10 at s10 hpt hD10 ⊢
      have kd : TK H10 (upd H10 D (.lst (rv ++ [.ref pt]))) := TK.lst hD10
      have lr := al.length
      have lr2 : rules.length ≤ own.length := by
        have := congrArg List.length em
        rw [List.length_map, List.length_take] at this
        have := pz.length_eq
        omega
      refine ⟨rv, hD10, small1000 (by omega), rv ++ [.ref pt], rules ++ [(z, tt z)], upd_same, ?_, ?_, ?_, Same.own (s9.trans s10) nD⟩
      · refine ((al.imp fun _ _ y => y.keep ((TK.same s10).trans kd))).snoc ⟨pt, tf z, rfl, kd _ _ hpt, ?_⟩
        exact ((((g1.keep (TK.but F1 B2)).keep (TK.same s9)).keep (TK.same s10)).keep kd)
      · rw [List.map_append, em, List.take_add_one, ez]; rfl
      · intro p hp
        rcases List.mem_append.mp hp with y | y
        · exact ru p y
        · rw [List.mem_singleton.mp y]
          exact ⟨j, ej, g2, g3⟩
    · rintro H9 ⟨rv, rules, hD, al, em, ru, s9⟩
      rw [List.length_map, List.take_of_length_le (Nat.le_refl _)] at em
      refine ⟨eD, nl, il, ol, el, D, ins, own, _, v7, v8, rv, rules, rfl, ⟨s9 _ _ (B2 _ _ hil ilf), s9 _ _ (B2 _ _ hel elf), dr, F2.same s9, (B1.trans B2).same s9, nil0, nel0⟩, hD, al, by rw [em]; exact pz, ru⟩
  case tail1 =>
    rintro D' σ' H1 ⟨eD, nl, il, ol, el, td, ins, own, rfl, ⟨hil, hel, dr, F1, B1, nil0, nel0⟩, hol, htd, ntd⟩
    have olf := F1.neS hol
    have elf := F1.neS hel
    have ilf := F1.neS hil
    have tdf : td ≠ f := fun z => by
      obtain ⟨_, _, _, _, _, e1, _⟩ := F1
      rw [z, e1] at htd
      cases htd
    have ndo : own.Nodup := (List.nodup_append.mp dr.nd).2.1
    refine ⟨_, rfl, ol, _, rfl, SqL.of hol, for_it (n := own.length) (fun i σ H5 => ∃ (v7 v8 : Option V) (tf : Str → V) (tt : Str → Tr), σ = sg nl il ol el (some (.ref td)) v7 v8 none none none ∧ Base il el ins own H5 ∧ H5 ol = some (.lst (own.map V.str)) ∧ H5 td = some (.dK (stV tf (own.take i))) ∧ ∀ (j : Nat) (z : Str), j < i → own[j]? = some z → TrAt H5 (tf z) (tt z) ∧ TOk (ins ++ own.take j) (ins ++ own) (tt z) ∧ (tt z).parts.length ≤ 10) ⟨none, none, fun _ => .non, fun _ => .no 0, rfl, ⟨hil, hel, dr, F1, B1, nil0, nel0⟩, hol, htd, fun j z hj => absurd hj (Nat.not_lt_zero _)⟩ ?_ ?_ ?_ ?_⟩
    · rintro i σ H5 hi ⟨_, _, _, _, rfl, _, h, _⟩
      exact ⟨_, _, SqL.of h, by rw [List.getElem?_map, List.getElem?_eq_getElem hi]; rfl⟩
    · rintro σ H5 ⟨_, _, _, _, rfl, _, h, _⟩
      exact ⟨_, SqL.of h, by rw [List.length_map]; exact Nat.le_refl _⟩
    · rintro i x σ H5 H6 hi ⟨v7, v8, tf, tt, rfl, ⟨hil5, hel5, _, F5, B5, _, _⟩, hol5, htd5, hT⟩ ⟨t, y, rfl, nt, rfl, fy⟩
      have eri : own[i]? = some own[i] := List.getElem?_eq_getElem hi
      obtain ⟨nm, hnm⟩ : ∃ r, r = own[i] := ⟨_, rfl⟩
      rw [← hnm] at eri
      obtain rfl : y = V.str nm := by
        have := fy _ (SqL.of hol5)
        rw [List.getElem?_map, eri] at this
        exact (Option.some.inj this).symm
      have s6 : Same H5 (upd H5 t (.tup [V.int ((i : Nat) : Int), V.str nm])) := same_new nt
      have ht6 : (upd H5 t (.tup [V.int ((i : Nat) : Int), V.str nm])) t = some (.tup [V.int ((i : Nat) : Int), V.str nm]) := upd_same
      have F6 := F5.same s6
      have B6 := B5.same s6
      have hil6 := s6 _ _ hil5
      have hel6 := s6 _ _ hel5
      have hol6 := s6 _ _ hol5
      have htd6 := s6 _ _ htd5
      replace hT : ∀ (j : Nat) (z : Str), j < i → own[j]? = some z → TrAt (upd H5 t (.tup [V.int ((i : Nat) : Int), V.str nm])) (tf z) (tt z) ∧ TOk (ins ++ own.take j) (ins ++ own) (tt z) ∧ (tt z).parts.length ≤ 10 := fun j z hj ez => by
        obtain ⟨g1, g2⟩ := hT j z hj ez
        exact ⟨g1.keep (TK.same s6), g2⟩
      generalize upd H5 t (.tup [V.int ((i : Nat) : Int), V.str nm]) = H6 at ht6 F6 B6 hil6 hel6 hol6 htd6 hT ⊢
      refine ⟨t, _, rfl, SqT.of ht6, rfl, _, _, rfl, _, _, rfl, rfl, ?_⟩
      refine ⟨_, rfl, _, rfl, f, c, 10, rfl, by decide, by decide, F6, fun v H7 v0 v1 F7 B7 => ⟨_, _, rfl, rfl, _, rfl, _, rfl, ?_⟩⟩
      dsimp only [tNoPart]
      refine ⟨_, rfl, _, rfl, ol, _, rfl, SqL.of (B7 _ _ hol6 olf), fun sl nsl => ?_⟩
      have hil7 := B7 _ _ hil6 ilf
      have hel7 := B7 _ _ hel6 elf
      have hol7 := B7 _ _ hol6 olf
      have htd7 := B7 _ _ htd6 tdf
      generalize e8 : upd H7 sl _ = H8
      have s8 : Same H7 H8 := by rw [← e8]; exact same_new nsl
      have hsl : H8 sl = some (.lst ((own.take i).map V.str)) := by rw [← e8, upd_same, cut_take, List.map_take]
      clear e8
      have lo5 : own.length ≤ 5 := Nat.le_trans dr.lo m5
      refine ⟨il, sl, _, _, rfl, rfl, s8 _ _ hil7, hsl, by rw [List.length_map, List.length_map, List.length_take]; have := dr.li; exact little (by omega), fun nw nnw => ?_⟩
      generalize e9 : upd H8 nw _ = H9
      have s9 : Same H8 H9 := by rw [← e9]; exact same_new nnw
      have hnw : H9 nw = some (.lst ((ins ++ own.take i).map V.str)) := by rw [← e9, upd_same, List.map_append]
      clear e9
      have s79 := s8.trans s9
      obtain ⟨r, er, r1, r10⟩ : ∃ r : Nat, 1 + v = ((r : Nat) : Int) ∧ 1 ≤ r ∧ r ≤ 10 := ⟨(1 + v).toNat, by omega, by omega, by omega⟩
      have ea : [V.ref f, V.int (1 + v), V.ref nw, V.ref el] = [V.ref f, nV r, V.ref nw, V.ref el] := by rw [er]
      have subs : ∀ z ∈ ins ++ own.take i, z ∈ ins ++ own := fun z hz => (List.mem_append.mp hz).elim (fun y => List.mem_append.mpr (.inl y)) fun y => List.mem_append.mpr (.inr (List.mem_of_mem_take y))
      have lins := dr.li
      refine ⟨_, rfl, f, c, nw, el, ins ++ own.take i, ins ++ own, r, ea, r1, by omega, by omega, hnw, s79 _ _ hel7, by rw [List.length_append, List.length_take]; omega, by rw [List.length_append]; omega, fun z hz => (dr.wd z (subs z hz)).1, fun z hz => (dr.wd z hz).1, F7.same s79, fun tv tr H10 htr tok lp F10 B10 => ?_⟩
      have htd10 := B10 _ _ (s79 _ _ htd7) tdf
      have nin : nm ∉ own.take i := fun z => by
        obtain ⟨j, hj, ej⟩ := List.mem_take_iff_getElem.mp z
        have := nodup_get ndo eri (List.getElem?_eq_some_iff.mpr ⟨by omega, ej⟩)
        omega
      have tk : own.take (i + 1) = own.take i ++ [nm] := by rw [List.take_add_one, eri]; rfl
      refine ⟨_, rfl, _, rfl, td, _, rfl, DPut.k (k := Sum.inr nm) htd10 ?_, ?_⟩
      · unfold stV
        rw [List.length_map, List.length_take]
        exact small1000 (by omega)
      rw [stV_put tf nin]
      have kd : TK H10 (upd H10 td (.dK (stV (fun y => if y = nm then tv else tf y) (own.take i ++ [nm])))) := fun b xs e => by rw [upd_ne (ne_of e htd10 (fun z => nomatch z))]; exact e
      have ned : ∀ {b : Addr} {xs : List V}, H10 b = some (.lst xs) → (upd H10 td (.dK (stV (fun y => if y = nm then tv else tf y) (own.take i ++ [nm])))) b = some (.lst xs) := fun {b xs} e => by rw [upd_ne (ne_of e htd10 (fun z => nomatch z))]; exact e
      have F11 : Flow (upd H10 td (.dK (stV (fun y => if y = nm then tv else tf y) (own.take i ++ [nm])))) f c := by
        obtain ⟨ns, i, p, q, r, e1, e2, e3⟩ := F10
        exact ⟨ns, i, p, q, r, ned e1, ned e2, e3⟩
      have B11 : But f H (upd H10 td (.dK (stV (fun y => if y = nm then tv else tf y) (own.take i ++ [nm])))) := (((B6.trans B7).same s79).trans B10).own ntd
      refine ⟨_, _, _, fun y => if y = nm then tr else tt y, rfl, ⟨ned (B10 _ _ (s79 _ _ hil7) ilf), ned (B10 _ _ (s79 _ _ hel7) elf), dr, F11, B11, nil0, nel0⟩, ned (B10 _ _ (s79 _ _ hol7) olf), by rw [tk]; exact upd_same, fun j z hj ez => ?_⟩
      by_cases hji : j = i
      · subst hji
        rw [eri] at ez
        obtain rfl := Option.some.inj ez
        show TrAt _ (if nm = nm then tv else tf nm) (if nm = nm then tr else tt nm) ∧ TOk _ _ (if nm = nm then tr else tt nm) ∧ (if nm = nm then tr else tt nm).parts.length ≤ 10
        rw [if_pos rfl, if_pos rfl]
        exact ⟨htr.keep kd, tok, by omega⟩
      · have zn : z ≠ nm := fun e => hji (nodup_get ndo (by rw [← e]; exact ez) eri)
        show TrAt _ (if z = nm then tv else tf z) (if z = nm then tr else tt z) ∧ TOk _ _ (if z = nm then tr else tt z) ∧ (if z = nm then tr else tt z).parts.length ≤ 10
        rw [if_neg zn, if_neg zn]
        obtain ⟨g1, g2⟩ := hT j z (by omega) ez
        exact ⟨(((g1.keep (TK.but F6 B7)).keep (TK.same s79)).keep (TK.but (F7.same s79) B10)).keep kd, g2⟩
    · rintro σ H5 ⟨v7, v8, tf, tt, rfl, b5, hol5, htd5, hT⟩
      rw [List.take_of_length_le (Nat.le_refl _)] at htd5
      exact ⟨eD, nl, il, ol, el, td, ins, own, v7, v8, tf, tt, rfl, b5, hol5, htd5, fun j z e => hT j z (List.getElem?_eq_some_iff.mp e).1 e⟩
  refine ⟨_, rfl, f, c, 9, rfl, by decide, by decide, hF, fun nl ns H1 n1 h1 l9 nd wd F1 B1 => ?_⟩
  have nlf := F1.neS h1
  refine ⟨_, rfl, ?_⟩
  dsimp only [tNoPart]
  refine ⟨_, rfl, f, c, 5, rfl, by decide, by decide, F1, fun v H2 v0 v5 F2 B2 => ⟨v, rfl, nl, _, rfl, SqL.of (B2 _ _ h1 nlf), fun il nil2 => ?_⟩⟩
  obtain ⟨a, rfl⟩ : ∃ a : Nat, v = ((a : Nat) : Int) := ⟨v.toNat, by omega⟩
  generalize e3 : upd H2 il _ = H3
  have hil : H3 il = some (.lst ((ns.take a).map V.str)) := by rw [← e3, upd_same, cut_take, List.map_take]
  have F3 : Flow H3 f c := by rw [← e3]; exact F2.new nil2
  have B3 : But f H H3 := by rw [← e3]; exact (B1.trans B2).new nil2
  have hnl3 : H3 nl = some (.lst (ns.map V.str)) := by rw [← e3]; exact same_new nil2 _ _ (B2 _ _ h1 nlf)
  have ilf := F3.neS hil
  have nil0 : H il = none := But.none (B1.trans B2) nil2 ilf
  clear e3
  have em : [V.ref f, V.int (((most : Nat) : Int) + 1)] = [V.ref f, nV (most + 1)] := by
    rw [show nV (most + 1) = V.int (((most : Nat) : Int) + 1) from congrArg V.int (by omega)]
  refine ⟨_, rfl, _, rfl, _, rfl, _, rfl, _, _, rfl, rfl, f, c, ((most + 1 : Nat) : Int), em, by omega, log_small (by omega), F3, fun v2 H4 v20 v21 F4 B4 => ⟨_, _, rfl, rfl, _, rfl, nl, _, rfl, SqL.of (B4 _ _ hnl3 nlf), fun ol nol => ?_⟩⟩
  obtain ⟨b, eb⟩ : ∃ b : Nat, 4 + v2 = ((4 + b : Nat) : Int) := ⟨v2.toNat, by omega⟩
  generalize e5 : upd H4 ol _ = H5
  have hol : H5 ol = some (.lst (((ns.drop 4).take b).map V.str)) := by
    rw [← e5, upd_same, eb]
    congr 2
    unfold cutV
    rw [show (4 : Int) = ((4 : Nat) : Int) from rfl, HT.sIx_nat, HT.sIx_nat, List.length_map, l9, ← List.map_drop, ← List.map_take]
    congr 1
    rw [show min 4 9 = 4 from rfl]
    rcases Nat.le_total b 5 with h | h
    · rw [Nat.min_eq_left (by omega), show 4 + b - 4 = b by omega]
    · rw [Nat.min_eq_right (by omega), show 9 - 4 = 5 from rfl, List.take_of_length_le (by rw [List.length_drop]; omega), List.take_of_length_le (by rw [List.length_drop]; omega)]
  have F5 : Flow H5 f c := by rw [← e5]; exact F4.new nol
  have B5 : But f H H5 := by rw [← e5]; exact (B3.trans B4).new nol
  have hil5 : H5 il = some (.lst ((ns.take a).map V.str)) := by rw [← e5]; exact same_new nol _ _ (B4 _ _ hil ilf)
  have olf := F5.neS hol
  clear e5
  obtain ⟨ins, hins⟩ : ∃ l, l = ns.take a := ⟨_, rfl⟩
  obtain ⟨own, hown⟩ : ∃ l, l = (ns.drop 4).take b := ⟨_, rfl⟩
  rw [← hins] at hil5
  rw [← hown] at hol
  have li : ins.length ≤ 4 := by rw [hins, List.length_take]; omega
  have lo : own.length ≤ most := by rw [hown, List.length_take]; omega
  have dr : Dr most ins own := by
    have e : (ins ++ own).Sublist ns := by
      rw [hins, hown]
      have h1 : (ns.take a).Sublist (ns.take 4) := by
        rw [show ns.take a = (ns.take 4).take a by rw [List.take_take, Nat.min_eq_left (by omega)]]
        exact List.take_sublist ..
      have h2 : ((ns.drop 4).take b).Sublist (ns.drop 4) := List.take_sublist ..
      have h3 := h1.append h2
      rwa [List.take_append_drop] at h3
    exact ⟨li, lo, List.Nodup.sublist e nd, fun z hz => wd z (e.subset hz)⟩
  refine ⟨_, rfl, _, rfl, il, ol, _, _, rfl, rfl, hil5, hol, by rw [List.length_map, List.length_map]; exact little (by omega), fun el nel => ?_⟩
  generalize e6 : upd H5 el _ = H6
  have hel : H6 el = some (.lst ((ins ++ own).map V.str)) := by rw [← e6, upd_same, List.map_append]
  have s6 : Same H5 H6 := by rw [← e6]; exact same_new nel
  clear e6
  have F6 := F5.same s6
  have B6 := B5.same s6
  have elf := F6.neS hel
  have nel0 : H el = none := But.none B5 nel elf
  intro td ntd
  have tdf : td ≠ f := F6.ne ntd
  refine ⟨rfl, nl, il, ol, el, td, ins, own, rfl, ⟨same_new ntd _ _ (s6 _ _ hil5), same_new ntd _ _ hel, dr, F6.new ntd, B6.new ntd, nil0, nel0⟩, same_new ntd _ _ (s6 _ _ hol), upd_same, But.none B6 ntd tdf⟩
end
section
variable {P : Program} {w : World} {K : PySem.W.Frag} {mg : Str → Option Value} {base : Heap}
def Put {α : Type} (xs : List α) (y : α) (ys : List α) : Prop := ∃ k : Nat, k ≤ xs.length ∧ (ys = xs.take k ++ y :: xs.drop k ∨ ys = xs.take k ++ y :: xs.drop (k + 1) ∨ ys = xs.take k ++ xs.drop (k + 1))
theorem Put.len {α : Type} {xs ys : List α} {y : α} (h : Put xs y ys) : ys.length ≤ xs.length + 1 := by
  obtain ⟨k, hk, rfl | rfl | rfl⟩ := h
  · rw [List.length_append, List.length_cons, List.length_take, List.length_drop]; omega
  · rw [List.length_append, List.length_cons, List.length_take, List.length_drop]; omega
  · rw [List.length_append, List.length_take, List.length_drop]; omega
theorem Put.mem {α : Type} {xs ys : List α} {y : α} (h : Put xs y ys) : ∀ z ∈ ys, z ∈ xs ∨ z = y := by
  obtain ⟨k, hk, rfl | rfl | rfl⟩ := h
  · intro z hz
    rcases List.mem_append.mp hz with hz | hz
    · exact .inl (List.mem_of_mem_take hz)
    · rcases List.mem_cons.mp hz with hz | hz
      · exact .inr hz
      · exact .inl (List.mem_of_mem_drop hz)
  · intro z hz
    rcases List.mem_append.mp hz with hz | hz
    · exact .inl (List.mem_of_mem_take hz)
    · rcases List.mem_cons.mp hz with hz | hz
      · exact .inr hz
      · exact .inl (List.mem_of_mem_drop hz)
  · intro z hz
    rcases List.mem_append.mp hz with hz | hz
    · exact .inl (List.mem_of_mem_take hz)
    · exact .inl (List.mem_of_mem_drop hz)
theorem rep_one (x : V) : (List.replicate (1 : Int).toNat [x]).flatten = [x] := rfl
def sp_law_put (K : PySem.W.Frag) : Sp := fun vs H Q _ => ∃ (f c l : Addr) (xs : List V) (y : V), vs = [.ref f, .ref l, y] ∧ H l = some (.lst xs) ∧ l ≠ f ∧ xs ≠ [] ∧ xs.length ≤ 900 ∧ Flow H f c ∧
  ∀ (p : Addr) (ys : List V) (H' : Hp), Put xs y ys → H p = none → p ≠ f → H' p = some (.lst ys) → Flow H' f c → But f H H' → Q (.ref p) H'
theorem ok_law_put {f : Addr} {fd : FuncData} (F : Fun K "_law_put" "_law_put" s_law_put f fd) (T : Top w K mg) : FnOk P w K mg base CX0 2 f fd ["_law_flow_here", "_law_some", "_law_one"] (sp_law_put K) := by
  obtain ⟨f_law_pick, fd_law_pick, F_law_pick, b_law_pick, m_law_pick⟩ := T.d_law_pick
  have G_law_pick := ok_law_pick (P := P) (w := w) (base := base) F_law_pick T
  refine F.ok sc_law_put (fun vs H Q E h => ?_) (fun cdv A outer s H vs Q E hr h => ?_)
  · obtain ⟨f, c, l, xs, y, rfl, _⟩ := h
    rfl
  obtain ⟨f, c, l, xs, y, rfl, hl, nl, hne, hlen, hF, q⟩ := h
  have hpos := List.length_pos_iff.mpr hne
  refine ⟨_, (pss_cons (ps_set (i := 3) sc_law_put.nd rfl (Or.inl rfl) (pe_call G_law_pick (hr.mono (by decide)) (by rfl) m_law_pick F_law_pick.kp b_law_pick .nil pass0 (pa_cons (pv 0) (pa_cons pe_int pa_nil))))
      (pss_cons (ps_set (i := 4) sc_law_put.nd rfl (Or.inl rfl) (pe_call G_law_pick (hr.mono (by decide)) (by rfl) m_law_pick F_law_pick.kp b_law_pick .nil pass0 (pa_cons (pv 0) (pa_cons (pe_op op_add (pe_callB (call_len_seqK K rfl) (by rfl) T.m_len (by decide +kernel) (pa_cons (pv 1) pa_nil)) (pe_callTy call_int1 (by rfl) T.m_int (by decide +kernel) (pa_cons (pe_cmpR op_eq (pv 3) pe_int (nomark _)) pa_nil))) pa_nil))))
      (pss_cons (ps_if (pt_cmpR op_eq (pv 3) pe_int (nomark _)) (pss_one (ps_ret (pe_op op_cat (pe_op op_cat (pe_slice (sl_listK K rfl) (pv 1) po_none (po_some (pv 4))) (pe_lst (pa_cons (pv 2) pa_nil))) (pe_slice (sl_listK K rfl) (pv 1) (po_some (pv 4)) po_none)))) pss_nil)
      (pss_one (ps_ret (pe_op op_cat (pe_op op_cat (pe_slice (sl_listK K rfl) (pv 1) po_none (po_some (pv 4))) (pe_op op_rep (pe_lst (pa_cons (pv 2) pa_nil)) (pe_op op_sub pe_int (pv 3)))) (pe_slice (sl_listK K rfl) (pv 1) (po_some (pe_op op_add (pv 4) pe_int)) po_none))))))), ?_⟩
  refine ⟨_, rfl, f, c, 3, rfl, by decide, by decide +kernel, hF, fun v1 H1 a1 b1 F1 B1 => ?_⟩
  have hl1 := B1 _ _ hl nl
  have lim : ∀ k : Nat, k ≤ 1 → (((xs.length : Nat) : Int) + (k : Int)).natAbs.log2 < 9000 := fun k hk => by
    rw [show ((xs.length : Nat) : Int) + (k : Int) = ((xs.length + k : Nat) : Int) by omega]
    exact Nat.lt_of_le_of_lt (Nat.log2_le_self _) (by omega)
  obtain ⟨k, ek, k1, k0⟩ : ∃ k : Nat, (if decide (V.int v1 = V.int 0) = true then (1 : Int) else 0) = (k : Int) ∧ k ≤ 1 ∧ (v1 ≠ 0 → k = 0) := by
    by_cases z : V.int v1 = V.int 0
    · exact ⟨1, by rw [decide_eq_true z]; rfl, by decide, fun y => absurd (V.int.inj z) y⟩
    · exact ⟨0, by rw [decide_eq_false z]; rfl, by decide, fun _ => rfl⟩
  refine ⟨_, rfl, _, rfl, l, _, rfl, .inl (SqL.of hl1), _, rfl, rfl, .inr ⟨_, rfl, _, _, rfl, rfl, ?_⟩⟩
  rw [ek]
  refine ⟨f, c, _, rfl, by omega, lim k k1, F1, fun at_ H2 p0 p1 F2 B2 => ?_⟩
  have hl2 := B2 _ _ hl1 nl
  obtain ⟨n, rfl⟩ : ∃ n : Nat, at_ = ((n : Nat) : Int) := ⟨at_.toNat, by omega⟩
  have cl := fun lo hi => cutV_length xs lo hi
  refine ⟨_, rfl, rfl, _, rfl, if_bl (fun _ => ?_) (fun w0 => ?_)⟩
  · refine ⟨_, rfl, _, rfl, _, rfl, l, _, rfl, SqL.of hl2, fun p1 np1 => ?_⟩
    refine ⟨_, rfl, (by show 1 ≤ sizeLine; decide), fun p2 np2 => ⟨p1, p2, _, _, rfl, rfl, same_new np2 _ _ upd_same, upd_same, ?_, fun p3 np3 => ?_⟩⟩
    · have := cl none (some ((n : Nat) : Int))
      exact little (by show _ + 1 ≤ 1000; omega)
    refine ⟨_, rfl, _, rfl, _, rfl, l, _, rfl, SqL.of (same_new np3 _ _ (same_new np2 _ _ (same_new np1 _ _ hl2))), fun p4 np4 => ⟨p3, p4, _, _, rfl, rfl, same_new np4 _ _ upd_same, upd_same, ?_, fun p5 np5 => ?_⟩⟩
    · have := cl (some ((n : Nat) : Int)) none
      rw [cut_take, cut_drop, List.length_append, List.length_take, List.length_drop]
      exact little (by show _ + 1 + _ ≤ 1000; omega)
    have F6 := (((F2.new (o := .lst (cutV xs none (some ((n : Nat) : Int)))) np1).new (o := .lst [y]) np2).new (o := .lst (cutV xs none (some ((n : Nat) : Int)) ++ [y])) np3).new (o := .lst (cutV xs (some ((n : Nat) : Int)) none)) np4
    have BB := ((((B1.trans B2).new (o := .lst (cutV xs none (some ((n : Nat) : Int)))) np1).new (o := .lst [y]) np2).new (o := .lst (cutV xs none (some ((n : Nat) : Int)) ++ [y])) np3).new (o := .lst (cutV xs (some ((n : Nat) : Int)) none)) np4
    refine q p5 _ _ ?_ (BB.none np5 (F6.ne np5)) (F6.ne np5) upd_same (F6.new np5) (BB.new np5)
    refine ⟨n, by omega, .inl ?_⟩
    rw [cut_take, cut_drop, List.append_assoc]
    rfl
  · have w0 : v1 ≠ 0 := fun z => of_decide_eq_false w0 (by rw [z])
    have k00 := k0 w0
    refine ⟨_, rfl, _, rfl, _, rfl, l, _, rfl, SqL.of hl2, fun p1 np1 => ?_⟩
    refine ⟨_, rfl, (by show 1 ≤ sizeLine; decide), fun p2 np2 => ⟨_, rfl, _, _, rfl, rfl, p2, 2 - v1, _, rfl, rfl, upd_same, by omega, by omega, little (by show 1 * _ ≤ 1000; omega), fun p2b np2b => ?_⟩⟩
    have fr : (List.replicate (2 - v1).toNat [y]).flatten = List.replicate (2 - v1).toNat y := by
      generalize (2 - v1).toNat = m
      induction m with
      | zero => rfl
      | succ m ih => rw [List.replicate_succ, List.flatten_cons, ih]; rfl
    rw [fr]
    refine ⟨p1, p2b, _, _, rfl, rfl, same_new np2b _ _ (same_new np2 _ _ upd_same), upd_same, ?_, fun p3 np3 => ?_⟩
    · have := cl none (some ((n : Nat) : Int))
      rw [List.length_replicate]
      exact little (by omega)
    refine ⟨_, rfl, _, rfl, _, _, rfl, rfl, _, rfl, l, _, rfl, SqL.of (same_new np3 _ _ (same_new np2b _ _ (same_new np2 _ _ (same_new np1 _ _ hl2)))), fun p4 np4 => ⟨p3, p4, _, _, rfl, rfl, same_new np4 _ _ upd_same, upd_same, ?_, fun p5 np5 => ?_⟩⟩
    · have := cl none (some ((n : Nat) : Int))
      have := cl (some (((n : Nat) : Int) + 1)) none
      rw [List.length_append, List.length_replicate, cut_take, List.length_take]
      have e : cutV xs (some (((n : Nat) : Int) + 1)) none = xs.drop (n + 1) := cut_drop xs (n + 1)
      rw [e, List.length_drop]
      exact little (by omega)
    have F6 := ((((F2.new (o := .lst (cutV xs none (some ((n : Nat) : Int)))) np1).new (o := .lst [y]) np2).new (o := .lst (List.replicate (2 - v1).toNat y)) np2b).new (o := .lst (cutV xs none (some ((n : Nat) : Int)) ++ List.replicate (2 - v1).toNat y)) np3).new (o := .lst (cutV xs (some (((n : Nat) : Int) + 1)) none)) np4
    have BB := (((((B1.trans B2).new (o := .lst (cutV xs none (some ((n : Nat) : Int)))) np1).new (o := .lst [y]) np2).new (o := .lst (List.replicate (2 - v1).toNat y)) np2b).new (o := .lst (cutV xs none (some ((n : Nat) : Int)) ++ List.replicate (2 - v1).toNat y)) np3).new (o := .lst (cutV xs (some (((n : Nat) : Int) + 1)) none)) np4
    refine q p5 _ _ ?_ (BB.none np5 (F6.ne np5)) (F6.ne np5) upd_same (F6.new np5) (BB.new np5)
    have e : cutV xs (some (((n : Nat) : Int) + 1)) none = xs.drop (n + 1) := cut_drop xs (n + 1)
    rw [cut_take, e]
    by_cases z : v1 = 1
    · refine ⟨n, by omega, .inr (.inl ?_)⟩
      rw [z, List.append_assoc]
      rfl
    · have : v1 = 2 := by omega
      refine ⟨n, by omega, .inr (.inr ?_)⟩
      rw [this]
      show List.take n xs ++ [] ++ _ = _
      rw [List.append_nil]
end
/-! ### all rings at once -/
inductive Via (st : Nat → List Nat) (k : Nat) : Nat → Nat → Prop
  | one {i j : Nat} : j ∈ st i → Via st k i j
  | thru {i m j : Nat} : Via st k i m → m < k → Via st k m j → Via st k i j
theorem Via.up {st : Nat → List Nat} {k i j : Nat} (h : Via st k i j) : Via st (k + 1) i j := by
  induction h with
  | one a => exact .one a
  | thru _ l _ a b => exact .thru a (by omega) b
theorem Via.succ {st : Nat → List Nat} {k i j : Nat} : Via st (k + 1) i j ↔ Via st k i j ∨ (Via st k i k ∧ Via st k k j) := by
  constructor
  · intro h
    induction h with
    | one a => exact .inl (.one a)
    | @thru i m j _ l _ a b =>
      by_cases e : m = k
      · subst e
        exact .inr ⟨a.elim id (·.1), b.elim id (·.2)⟩
      · have l : m < k := by omega
        rcases a with a | ⟨a1, a2⟩
        · rcases b with b | ⟨b1, b2⟩
          · exact .inl (.thru a l b)
          · exact .inr ⟨.thru a l b1, b2⟩
        · rcases b with b | ⟨b1, b2⟩
          · exact .inr ⟨a1, .thru a2 l b⟩
          · exact .inr ⟨a1, b2⟩
  · rintro (h | ⟨a, b⟩)
    · exact h.up
    · exact .thru a.up (Nat.lt_succ_self _) b.up
def Wr (st : Nat → List Nat) : Nat → Nat → Nat → Bool
  | 0 => fun x y => decide (y ∈ st x)
  | k + 1 => fun x y => Wr st k x y || (Wr st k x k && Wr st k k y)
theorem wr_via {st : Nat → List Nat} : ∀ (k x y : Nat), Wr st k x y = true ↔ Via st k x y
  | 0, x, y => by
    show decide (y ∈ st x) = true ↔ _
    rw [decide_eq_true_eq]
    exact ⟨fun h => .one h, fun h => by
      cases h with
      | one a => exact a
      | thru _ l _ => exact absurd l (Nat.not_lt_zero _)⟩
  | k + 1, x, y => by
    show (Wr st k x y || (Wr st k x k && Wr st k k y)) = true ↔ _
    rw [Bool.or_eq_true, Bool.and_eq_true, wr_via k, wr_via k, wr_via k, Via.succ]
theorem wr_same (st : Nat → List Nat) (k y : Nat) : Wr st (k + 1) k y = Wr st k k y := by
  show (Wr st k k y || (Wr st k k k && Wr st k k y)) = _
  cases Wr st k k y <;> cases Wr st k k k <;> rfl
theorem range_set {α : Type} (n : Nat) (f : Nat → α) (i : Nat) (v : α) : ((List.range n).map f).set i v = (List.range n).map fun x => if x = i then v else f x := by
  refine List.ext_getElem? fun k => ?_
  rw [List.getElem?_set, List.getElem?_map, List.getElem?_map, List.length_map, List.length_range]
  by_cases l : k < n
  · rw [List.getElem?_range l]
    by_cases h : i = k
    · subst h
      rw [if_pos rfl, if_pos l]
      show _ = some (if i = i then v else f i)
      rw [if_pos rfl]
    · rw [if_neg h]
      show _ = some (if k = i then v else f k)
      rw [if_neg (Ne.symm h)]
      rfl
  · rw [List.getElem?_eq_none (by rw [List.length_range]; omega)]
    by_cases h : i = k
    · subst h
      rw [if_pos rfl, if_neg l]
      rfl
    · rw [if_neg h]
      rfl
theorem row_at {α : Type} {n j : Nat} (f : Nat → α) (h : j < n) : ((List.range n).map f)[j]? = some (f j) := by
  rw [List.getElem?_map, List.getElem?_range h]; rfl
/-- the table of which hand leads to which, in rows -/
structure Mx (H0 H : Hp) (D : Addr) (n : Nat) (A : Nat → Nat → Bool) : Prop where
  ex : ∃ adr : Nat → Addr, H D = some (.lst ((List.range n).map fun i => V.ref (adr i))) ∧ (∀ i, i < n → H (adr i) = some (.lst ((List.range n).map fun j => V.bl (A i j))) ∧ H0 (adr i) = none ∧ adr i ≠ D) ∧ (∀ i j, i < n → j < n → adr i = adr j → i = j) ∧ Same H0 H ∧ H0 D = none
theorem Mx.put {H0 H : Hp} {D : Addr} {n i j : Nat} {A : Nat → Nat → Bool} {b : Bool} (m : Mx H0 H D n A) (hi : i < n) : ∃ a : Addr, ((∃ xs, H D = some (.lst xs) ∧ xs[i]? = some (V.ref a)) ∧ H a = some (.lst ((List.range n).map fun j => V.bl (A i j)))) ∧
    Mx H0 (upd H a (.lst (((List.range n).map fun j => V.bl (A i j)).set j (.bl b)))) D n (fun x y => if x = i ∧ y = j then b else A x y) := by
  obtain ⟨adr, hD, hr, inj, s, nD⟩ := m.ex
  obtain ⟨r1, r2, r3⟩ := hr i hi
  refine ⟨adr i, ⟨⟨_, hD, row_at _ hi⟩, r1⟩, adr, by rw [upd_ne (Ne.symm r3)]; exact hD, fun x hx => ?_, inj, Same.own s r2, nD⟩
  obtain ⟨q1, q2, q3⟩ := hr x hx
  refine ⟨?_, q2, q3⟩
  by_cases e : x = i
  · subst e
    rw [upd_same, range_set]
    congr 2
    refine List.map_congr_left fun y _ => ?_
    by_cases z : y = j
    · rw [if_pos z, if_pos ⟨rfl, z⟩]
    · rw [if_neg z, if_neg fun c => z c.2]
  · rw [upd_ne (fun c => e (inj _ _ hx hi c)), q1]
    congr 2
    exact List.map_congr_left fun y _ => by rw [if_neg fun c => e c.1]
theorem Mx.row {H0 H H3 : Hp} {D E : Addr} {n i : Nat} {A : Nat → Nat → Bool} {r : Nat → Bool} {xs : List V} (m : Mx H0 H D n A) (hi : i < n) (s3 : Same H H3) (nE : H E = none) (hE : H3 E = some (.lst ((List.range n).map fun j => V.bl (r j)))) (hx : H3 D = some (.lst xs)) :
    Mx H0 (upd H3 D (.lst (xs.set i (.ref E)))) D n (fun x y => if x = i then r y else A x y) := by
  obtain ⟨adr, hD, hr, inj, s, nD⟩ := m.ex
  rw [s3 _ _ hD] at hx
  cases hx
  have ED : E ≠ D := fun z => by rw [z, hD] at nE; cases nE
  have Ea : ∀ x, x < n → adr x ≠ E := fun x hx z => by rw [← z, (hr x hx).1] at nE; cases nE
  refine ⟨fun x => if x = i then E else adr x, ?_, fun x hx => ?_, fun x y hx hy e => ?_, Same.own (s.trans s3) nD, nD⟩
  · rw [upd_same, range_set]
    congr 2
    refine List.map_congr_left fun x _ => ?_
    show (if x = i then V.ref E else V.ref (adr x)) = V.ref (if x = i then E else adr x)
    by_cases e : x = i
    · rw [if_pos e, if_pos e]
    · rw [if_neg e, if_neg e]
  · dsimp only
    by_cases e : x = i
    · rw [if_pos e]
      refine ⟨?_, same_none s nE, ED⟩
      rw [upd_ne ED, hE]
      congr 2
      exact List.map_congr_left fun y _ => by rw [if_pos e]
    · obtain ⟨q1, q2, q3⟩ := hr x hx
      rw [if_neg e]
      refine ⟨?_, q2, q3⟩
      rw [upd_ne q3, s3 _ _ q1]
      congr 2
      exact List.map_congr_left fun y _ => by rw [if_neg e]
  · by_cases e1 : x = i
    · by_cases e2 : y = i
      · omega
      · simp only [if_pos e1, if_neg e2] at e
        exact absurd e.symm (Ea y hy)
    · by_cases e2 : y = i
      · simp only [if_neg e1, if_pos e2] at e
        exact absurd e (Ea x hx)
      · simp only [if_neg e1, if_neg e2] at e
        exact inj x y hx hy e
theorem Mx.get {H0 H : Hp} {D : Addr} {n i : Nat} {A : Nat → Nat → Bool} (m : Mx H0 H D n A) (hi : i < n) : ∃ (a : Addr) (xs : List V), H D = some (.lst xs) ∧ xs[i]? = some (V.ref a) ∧ H a = some (.lst ((List.range n).map fun j => V.bl (A i j))) := by
  obtain ⟨adr, hD, hr, _⟩ := m.ex
  exact ⟨adr i, _, hD, row_at _ hi, (hr i hi).1⟩
theorem Mx.same0 {H0 H : Hp} {D : Addr} {n : Nat} {A : Nat → Nat → Bool} (m : Mx H0 H D n A) : Same H0 H := by
  obtain ⟨_, _, _, _, s, _⟩ := m.ex
  exact s
theorem Mx.same {H0 H H' : Hp} {D : Addr} {n : Nat} {A : Nat → Nat → Bool} (m : Mx H0 H D n A) (s : Same H H') : Mx H0 H' D n A := by
  obtain ⟨adr, hD, hr, inj, s0, nD⟩ := m.ex
  exact ⟨adr, s _ _ hD, fun i hi => ⟨s _ _ (hr i hi).1, (hr i hi).2⟩, inj, s0.trans s, nD⟩
theorem ixN_at {n k : Nat} (h : k < n) : ixN n ((k : Nat) : Int) = some k := by
  unfold ixN
  rw [if_pos (by omega), if_pos (by omega)]
  rfl
/-! ### what the law sees in trees -/
def Tr.dep : Tr → Nat
  | .nm _ _ => 1
  | .no _ => 1
  | .tm _ t => t.dep + 1
  | .o2 _ a b => max a.dep b.dep + 1
  | .o3 a b c => max a.dep (max b.dep c.dep) + 1
theorem Tr.dep_parts (t : Tr) : t.dep ≤ t.parts.length := by
  induction t with
  | nm n k => exact Nat.le_refl _
  | no i => exact Nat.le_refl _
  | tm k t ih => simp only [Tr.dep, Tr.parts, List.length_append]; show _ ≤ _ + 1; omega
  | o2 w a b i1 i2 => simp only [Tr.dep, Tr.parts, List.length_append]; show _ ≤ _ + 1; omega
  | o3 a b c i1 i2 i3 => simp only [Tr.dep, Tr.parts, List.length_append]; show _ ≤ _ + 1; omega
theorem Tr.dep_kid {t u : Tr} (h : u ∈ t.kids) : u.dep + 1 ≤ t.dep := by
  cases t with
  | nm n k => cases h
  | no i => cases h
  | tm k t => rw [List.mem_singleton.mp h]; exact Nat.le_refl _
  | o2 w a b =>
    simp only [Tr.kids, List.mem_cons, List.not_mem_nil, or_false] at h
    simp only [Tr.dep]
    rcases h with rfl | rfl <;> omega
  | o3 a b c =>
    simp only [Tr.kids, List.mem_cons, List.not_mem_nil, or_false] at h
    simp only [Tr.dep]
    rcases h with rfl | rfl | rfl <;> omega
theorem Tr.leans_kids {t : Tr} (h : t.isNm = false) : t.leans = t.kids.flatMap Tr.leans := by
  cases t with
  | nm n k => cases h
  | no i => rfl
  | tm k t => simp [Tr.leans, Tr.kids]
  | o2 w a b => simp [Tr.leans, Tr.kids]
  | o3 a b c => simp [Tr.leans, Tr.kids]
def Tr.isNo : Tr → Bool
  | .no _ => true
  | _ => false
theorem Tr.wd_no (t : Tr) : t.isNo = decide (t.wd = "number") := by
  cases t with
  | o2 w a b => cases w <;> rfl
  | _ => rfl
section
variable {P : Program} {w : World} {K : PySem.W.Frag} {mg : Str → Option Value} {base : Heap}
def sp_law_parts (K : PySem.W.Frag) : Sp := fun vs H Q _ => ∃ (v : V) (t : Tr), vs = [v] ∧ TrAt H v t ∧ ∀ (p : Addr) (l : List V) (H' : Hp), H p = none → H' p = some (.lst l) → All2 (TrAt H') l t.kids → Same H H' → Q (.ref p) H'
theorem ok_law_parts {f : Addr} {fd : FuncData} (F : Fun K "_law_parts" "_law_parts" s_law_parts f fd) (T : Top w K mg) : FnOk P w K mg base CX0 1 f fd ["_law_tree_here"] (sp_law_parts K) := by
  refine F.ok sc_law_parts (fun vs H Q E h => ?_) (fun cdv A outer s H vs Q E hr h => ?_)
  · obtain ⟨v, t, rfl, _⟩ := h
    rfl
  obtain ⟨v, t, rfl, ht, q⟩ := h
  obtain ⟨a, ks, rfl, ha, ak⟩ := ht.op
  obtain ⟨r, er, sort⟩ := t.hd_wd
  have ha0 := ha
  rw [er, List.cons_append] at ha
  refine ⟨_, (pss_cons (ps_if (PW.pt (pw_or (pt_cmpR op_eq (pe_ix (ix_tupK K rfl) (pv 0) pe_int (fun _ _ => rfl)) pe_str (nomark _)) (pw_or1 (pt_cmpR op_eq (pe_ix (ix_tupK K rfl) (pv 0) pe_int (fun _ _ => rfl)) pe_str (nomark _))))) (pss_one (ps_ret (pe_lst pa_nil))) pss_nil)
      (pss_one (ps_ret (pe_lc (own := [("_law_part", 1)]) (g := gName 1) (by rfl) sc_law_parts.nd (pi_tupK K rfl (pe_slice (sl_tupAK K rfl) (pv 0) (po_some pe_int) po_none)) (blkOk_by (own := [("_law_part", 1)]) (N := N_law_parts) (sc := defScope s_law_parts) (by decide +kernel)) (fun _ _ _ _ _ => (pg_name (i := 1) sc_law_parts.nd rfl (Or.inl rfl))) (fun _ _ _ _ _ => pts_one (pt_val (pe_callB (call_isiKK K rfl) (by rfl) T.m_isinstance (by decide +kernel) (pa_cons (pv 1) (pa_cons (pe_bltn (v := .ty "tuple") (by rfl) T.m_tuple (by decide +kernel) rfl) pa_nil))))) (fun _ _ _ _ _ => (pv 1)))))), ?_⟩
  have leaf : t.kids = [] → ∀ D : Ends, D.rt = Q → tRet (tLst tNil) D [some (.ref a), none] H := fun e D eD => by
    refine ⟨(by show 0 ≤ sizeLine; decide), fun p np => ?_⟩
    rw [eD]
    exact q p [] _ np upd_same (by rw [e]; exact .nil) (same_new np)
  refine ⟨_, rfl, a, _, _, _, rfl, rfl, SqT.of ha, atI_nat (j := 0) rfl, rfl, _, rfl, ?_⟩
  by_cases w1 : t.wd = "name"
  · rw [decide_eq_true (show V.str t.wd = V.str "name" by rw [w1])]
    refine if_bl (fun _ => if_bl (fun _ => leaf ?_ _ rfl) (fun z => nomatch z)) (fun z => nomatch z)
    have : t.isNm = true := by rw [t.wd_nm, decide_eq_true w1]
    cases t <;> first | rfl | cases this
  rw [decide_eq_false (show ¬ V.str t.wd = V.str "name" from fun z => w1 (V.str.inj z))]
  refine if_bl (fun z => nomatch z) (fun _ => ?_)
  refine ⟨_, rfl, a, _, _, _, rfl, rfl, SqT.of ha, atI_nat (j := 0) rfl, rfl, _, rfl, ?_⟩
  by_cases w2 : t.wd = "number"
  · rw [decide_eq_true (show V.str t.wd = V.str "number" by rw [w2])]
    refine if_bl (fun _ => leaf ?_ _ rfl) (fun z => nomatch z)
    have : t.isNo = true := by rw [t.wd_no, decide_eq_true w2]
    cases t <;> first | rfl | cases this
  rw [decide_eq_false (show ¬ V.str t.wd = V.str "number" from fun z => w2 (V.str.inj z))]
  refine if_bl (fun z => nomatch z) (fun _ => ?_)
  refine ⟨_, rfl, ?_⟩
  dsimp only [tNoPart]
  refine ⟨_, rfl, slA_of ha0 fun p8 H8 h8 s8 => ?_⟩
  rw [show (1 : Int) = ((1 : Nat) : Int) from rfl, cut_drop, er, List.cons_append, List.drop_succ_cons, List.drop_zero] at h8
  refine ⟨p8, rfl, ⟨_, SqT.of h8⟩, fun D nD => ?_⟩
  refine lc_tup (K := K) (a := p8) (xs := r ++ ks) (fun i H9 => H9 D = some (.lst (((r ++ ks).take i).filter refB)) ∧ Same H8 H9) ⟨upd_same, same_new nD⟩ (fun i H9 _ ⟨_, s9⟩ => SqT.of (s9 _ _ h8)) ?_ ?_
  · rintro i z H9 hz ⟨hD, s9⟩
    refine ⟨rfl, ?_⟩
    have zm : (∃ y, z = V.str y) ∨ (∃ y, z = V.int y) ∨ ∃ b u, z = V.ref b ∧ TrAt H9 (.ref b) u := by
      rcases List.mem_append.mp (List.mem_of_getElem? hz) with m | m
      · rcases sort z m with y | y
        · exact .inl y
        · exact .inr (.inl y)
      · obtain ⟨j, hj⟩ := List.getElem?_of_mem m
        obtain ⟨u, _, hu⟩ := ak.getL hj
        obtain ⟨b, _, rfl, _⟩ := hu.op
        exact .inr (.inr ⟨b, u, rfl, hu.keep (TK.same (s8.trans s9))⟩)
    have tk : (r ++ ks).take (i + 1) = (r ++ ks).take i ++ [z] := by rw [List.take_add_one, hz]; rfl
    rcases zm with ⟨y, rfl⟩ | ⟨y, rfl⟩ | ⟨b, u, rfl, hu⟩
    · refine ⟨_, rfl, _, _, _, _, _, rfl, .ty "tuple", .base (.str _), kit_tupS, _, rfl, ?_⟩
      refine ⟨?_, s9⟩
      rw [hD, tk, List.filter_append]
      rw [show [V.str y].filter refB = [] from rfl, List.append_nil]
    · refine ⟨_, rfl, _, _, _, _, _, rfl, .ty "tuple", .base (.int _), kit_tupI, _, rfl, ?_⟩
      refine ⟨?_, s9⟩
      rw [hD, tk, List.filter_append]
      rw [show [V.int y].filter refB = [] from rfl, List.append_nil]
    · obtain ⟨_, k2, e2, hb, _⟩ := hu.op
      cases e2
      refine ⟨_, rfl, _, _, _, _, _, rfl, .ty "tuple", .base (.tup hb), kit_tupT, _, rfl, ?_⟩
      refine ⟨_, rfl, _, hD, ?_, ?_⟩
      · have : ((((r ++ ks).take i).filter refB)).length ≤ (r ++ ks).length := Nat.le_trans (List.length_filter_le ..) (by rw [List.length_take]; omega)
        rw [List.length_append] at this
        have l1 : r.length ≤ 3 := by
          have := congrArg List.length er
          have h3 : t.hd.length ≤ 3 := by cases t <;> simp [Tr.hd]
          rw [this, List.length_cons] at h3
          omega
        have l2 := ak.length
        have l3 := t.kids_len
        exact Nat.lt_of_le_of_lt this (small1000 (by omega))
      · refine ⟨?_, Same.own s9 nD⟩
        rw [upd_same, tk, List.filter_append]
        rfl
  rintro H9 ⟨hD, s9⟩
  rw [List.take_length, List.filter_append, refB_hd sort, List.nil_append, refB_kids ak] at hD
  exact q D ks H9 (same_none s8 nD) hD (ak.imp fun _ _ z => z.keep (TK.same (s8.trans s9))) (s8.trans s9)
/-- what a tree leans on, as the law tells it; n: how deep -/
def spU (K : PySem.W.Frag) : Nat → Sp
  | 0 => fun _ _ _ _ => False
  | n + 1 => fun vs H Q _ => ∃ (v : V) (t : Tr), vs = [v] ∧ TrAt H v t ∧ t.dep ≤ n + 1 ∧ t.parts.length ≤ 400 ∧ ∀ (p : Addr) (l : List V) (H' : Hp), H p = none → H' p = some (.lst l) → All2 (LnAt H') l t.leans → Same H H' → Q (.ref p) H'
theorem uses_step {f : Addr} {fd : FuncData} (T : Top w K mg) (n : Nat) (below : ∀ (f : Addr) (fd : FuncData), Fun K "_law_uses" "_law_uses" s_law_uses f fd → FnOk P w K mg base CX0 (n + 1) f fd ["_law_tree_here"] (spU K n)) (F : Fun K "_law_uses" "_law_uses" s_law_uses f fd) :
    FnOk P w K mg base CX0 (n + 2) f fd ["_law_tree_here"] (spU K (n + 1)) := by
  obtain ⟨f_law_uses, fd_law_uses, F_law_uses, b_law_uses, m_law_uses⟩ := T.d_law_uses
  have G_law_uses := below f_law_uses fd_law_uses F_law_uses
  obtain ⟨f_law_parts, fd_law_parts, F_law_parts, b_law_parts, m_law_parts⟩ := T.d_law_parts
  have G_law_parts := ok_law_parts (P := P) (w := w) (base := base) F_law_parts T
  refine F.ok sc_law_uses (fun vs H Q E h => ?_) (fun cdv A outer s H vs Q E hr h => ?_)
  · obtain ⟨v, t, rfl, _⟩ := h
    rfl
  obtain ⟨v, t, rfl, ht, hdep, hl, q⟩ := h
  obtain ⟨a, ks, rfl, ha, ak⟩ := ht.op
  obtain ⟨r, er, sort⟩ := t.hd_wd
  have ha0 := ha
  rw [er, List.cons_append] at ha
  refine ⟨_, (pss_cons (ps_if (pt_cmpR op_eq (pe_ix (ix_tupK K rfl) (pv 0) pe_int (fun _ _ => rfl)) pe_str (nomark _)) (pss_one (ps_ret (pe_lst (pa_cons (pe_tup (pa_cons (pe_ix (ix_tupK K rfl) (pv 0) pe_int (fun _ _ => rfl)) (pa_cons (pe_ix (ix_tupK K rfl) (pv 0) pe_int (fun _ _ => rfl)) pa_nil))) pa_nil)))) pss_nil)
      (pss_cons (ps_set (i := 1) sc_law_uses.nd rfl (Or.inl rfl) (pe_lst pa_nil))
      (pss_cons (ps_for PassesOwn.never rfl (pi_listK K rfl (pe_call G_law_parts (hr.mono (by omega)) (by rfl) m_law_parts F_law_parts.kp b_law_parts .nil pass0 (pa_cons (pv 0) pa_nil))) (pg_name (i := 2) sc_law_uses.nd rfl (Or.inl rfl))
        (pss_one (ps_set (i := 1) sc_law_uses.nd rfl (Or.inl rfl) (pe_op op_cat (pv 1) (pe_call G_law_uses (hr.mono (Nat.le_refl _)) (by rfl) m_law_uses F_law_uses.kp b_law_uses .nil pass0 (pa_cons (pv 2) pa_nil))))))
      (pss_one (ps_ret (pv 1)))))), ?_⟩
  refine ⟨_, rfl, a, _, _, _, rfl, rfl, SqT.of ha, atI_nat (j := 0) rfl, rfl, _, rfl, ?_⟩
  by_cases w1 : t.wd = "name"
  · rw [decide_eq_true (show V.str t.wd = V.str "name" by rw [w1])]
    refine if_bl (fun _ => ?_) (fun z => nomatch z)
    have un : t.isNm = true := by rw [t.wd_nm, decide_eq_true w1]
    cases t with
    | nm nn k =>
      have ha : H a = some (.tup ([.str "name", .str nn, nV k] ++ ks)) := ha0
      refine ⟨_, rfl, a, _, _, _, rfl, rfl, SqT.of ha, atI_nat (j := 1) rfl, _, rfl, a, _, _, _, rfl, rfl, SqT.of ha, atI_nat (j := 2) rfl, (by show 2 ≤ sizeLine; decide), fun p2 np2 => ⟨(by show 1 ≤ sizeLine; decide), fun p3 np3 => ?_⟩⟩
      exact q p3 [.ref p2] _ (same_none (same_new np2) np3) upd_same (.cons ⟨p2, rfl, same_new np3 _ _ upd_same⟩ .nil) ((same_new np2).trans (same_new np3))
    | _ => cases un
  rw [decide_eq_false (show ¬ V.str t.wd = V.str "name" from fun z => w1 (V.str.inj z))]
  refine if_bl (fun z => nomatch z) (fun _ => ?_)
  have un : t.isNm = false := by rw [t.wd_nm, decide_eq_false w1]
  have lk := t.leans_kids un
  refine ⟨(by show 0 ≤ sizeLine; decide), fun p1 np1 => ?_⟩
  have s1 : Same H (upd H p1 (.lst [])) := same_new np1
  have hp1 : (upd H p1 (.lst [])) p1 = some (.lst []) := upd_same
  generalize upd H p1 (.lst []) = H1 at s1 hp1 ⊢
  refine ⟨_, rfl, .ref a, t, rfl, ht.keep (TK.same s1), fun p2 l2 H2 n2 h2 al2 s2 => ?_⟩
  have s12 := s1.trans s2
  refine ⟨p2, rfl, ⟨_, SqL.of h2⟩, for_list (K := K) (a := p2) (xs := l2) (fun i σ H5 => ∃ (fl : Addr) (lv : List V) (v2 : Option V), σ = [some (.ref a), some (.ref fl), v2] ∧ H fl = none ∧ H5 fl = some (.lst lv) ∧ All2 (LnAt H5) lv ((t.kids.take i).flatMap Tr.leans) ∧ Same H2 H5) ⟨p1, [], none, rfl, np1, s2 _ _ hp1, .nil, Same.refl _⟩ (fun i σ H5 _ ⟨_, _, _, _, _, _, _, s5⟩ => SqL.of (s5 _ _ h2)) ?_ ?_⟩
  · rintro i x σ H5 hx ⟨fl, lv, v2, rfl, nf, hf, al, s5⟩
    obtain ⟨u, hu, tu⟩ := al2.getL hx
    have um := List.mem_of_getElem? hu
    have ud := Tr.dep_kid um
    have up1 := parts_one u
    obtain ⟨m, rfl⟩ : ∃ m, n = m + 1 := by
      cases n with
      | zero =>
        have : 1 ≤ u.dep := by cases u <;> simp [Tr.dep]
        omega
      | succ m => exact ⟨m, rfl⟩
    have upl : u.parts.length ≤ 400 := by
      have : u.parts.length ≤ t.parts.length := by
        rw [t.parts_eq, List.length_append, List.length_flatMap]
        have : u.parts.length ≤ (t.kids.map fun t => t.parts.length).sum := by
          have key : ∀ l : List Tr, u ∈ l → u.parts.length ≤ (l.map fun t => t.parts.length).sum := by
            intro l
            induction l with
            | nil => intro h; cases h
            | cons y l ih =>
              intro h
              rw [List.map_cons, List.sum_cons]
              rcases List.mem_cons.mp h with rfl | h
              · omega
              · have := ih h; omega
          exact key _ um
        omega
      omega
    refine ⟨_, rfl, _, rfl, x, u, rfl, tu.keep (TK.same s5), by omega, upl, fun p6 l6 H6 n6 h6 al6 s6 => ?_⟩
    have hf6 := s6 _ _ hf
    have la := al.length
    have lb := al6.length
    have lsum : ((t.kids.take i).flatMap Tr.leans).length ≤ 1200 ∧ u.leans.length ≤ 400 := by
      refine ⟨?_, Nat.le_trans (leans_len u) upl⟩
      have h1 : ((t.kids.take i).flatMap Tr.leans).length ≤ (t.kids.flatMap Tr.leans).length := by
        have := congrArg (fun l : List Tr => (l.flatMap Tr.leans).length) (List.take_append_drop i t.kids)
        simp only [List.flatMap_append, List.length_append] at this
        omega
      rw [← lk] at h1
      have := leans_len t
      omega
    refine ⟨fl, p6, _, _, rfl, rfl, hf6, h6, by rw [sizeLine_eq]; omega, fun p7 np7 => ?_⟩
    have s7 : Same H6 (upd H6 p7 (.lst (lv ++ l6))) := same_new np7
    refine ⟨p7, lv ++ l6, _, rfl, same_none (s12.trans (s5.trans s6)) np7, upd_same, ?_, s5.trans (s6.trans s7)⟩
    rw [List.take_add_one, hu, List.flatMap_append]
    have e : (some u).toList.flatMap Tr.leans = u.leans := by simp
    rw [e]
    exact (al.imp fun _ _ z => (z.keep (TK.same s6)).keep (TK.same s7)).app (al6.imp fun _ _ z => z.keep (TK.same s7))
  · rintro σ H5 ⟨fl, lv, v2, rfl, nf, hf, al, s5⟩
    rw [al2.length, List.take_length, ← lk] at al
    exact ⟨_, rfl, q fl lv H5 nf hf al (s12.trans s5)⟩
theorem uses_all (T : Top w K mg) : ∀ (n : Nat) (f : Addr) (fd : FuncData), Fun K "_law_uses" "_law_uses" s_law_uses f fd → FnOk P w K mg base CX0 (n + 1) f fd ["_law_tree_here"] (spU K n)
  | 0, f, fd, F => by
    refine F.ok sc_law_uses (fun vs H Q E h => h.elim) (fun cdv A outer s H vs Q E hr h => h.elim)
  | n + 1, f, fd, F => uses_step T n (uses_all T n) F
abbrev sp_law_uses (K : PySem.W.Frag) : Sp := spU K 10
theorem ok_law_uses {f : Addr} {fd : FuncData} (F : Fun K "_law_uses" "_law_uses" s_law_uses f fd) (T : Top w K mg) : FnOk P w K mg base CX0 11 f fd ["_law_tree_here"] (sp_law_uses K) := uses_all T 10 f fd F
end
/-! ### names that hang on themselves, told by the law -/
def stN (ns : List Str) (st : Str → List Str) (i : Nat) : List Nat := (List.range ns.length).filter fun j => match ns[i]?, ns[j]? with
  | some x, some y => decide (y ∈ st x)
  | _, _ => false
theorem stN_mem {ns : List Str} {st : Str → List Str} {i j : Nat} {x y : Str} (ex : ns[i]? = some x) (ey : ns[j]? = some y) : j ∈ stN ns st i ↔ y ∈ st x := by
  unfold stN
  rw [List.mem_filter, List.mem_range, ex, ey]
  show _ ∧ decide (y ∈ st x) = true ↔ _
  rw [decide_eq_true_eq]
  exact ⟨fun h => h.2, fun h => ⟨(List.getElem?_eq_some_iff.mp ey).1, h⟩⟩
theorem stN_lt {ns : List Str} {st : Str → List Str} {i j : Nat} (h : j ∈ stN ns st i) : j < ns.length ∧ i < ns.length := by
  unfold stN at h
  obtain ⟨h1, h2⟩ := List.mem_filter.mp h
  refine ⟨List.mem_range.mp h1, ?_⟩
  cases e : ns[i]? with
  | none => rw [e] at h2; cases h2
  | some x => exact (List.getElem?_eq_some_iff.mp e).1
theorem OnW.trans {st : Str → List Str} {a b c : Str} (h : OnW st a b) (g : OnW st b c) : OnW st a c := by
  induction g with
  | one m => exact .more h m
  | more _ m ih => exact .more ih m
theorem on_via {ns : List Str} {st : Str → List Str} (hs : ∀ x ∈ ns, ∀ y ∈ st x, y ∈ ns) {i : Nat} {x y : Str} (ex : ns[i]? = some x) (h : OnW st x y) : ∃ j, ns[j]? = some y ∧ Via (stN ns st) ns.length i j := by
  induction h with
  | one m =>
    obtain ⟨j, ej⟩ := List.getElem?_of_mem (hs _ (List.mem_of_getElem? ex) _ m)
    exact ⟨j, ej, .one ((stN_mem ex ej).mpr m)⟩
  | more w m ih =>
    obtain ⟨k, ek, vk⟩ := ih
    obtain ⟨j, ej⟩ := List.getElem?_of_mem (hs _ (List.mem_of_getElem? ek) _ m)
    exact ⟨j, ej, .thru vk (List.getElem?_eq_some_iff.mp ek).1 (.one ((stN_mem ek ej).mpr m))⟩
theorem via_on {ns : List Str} {st : Str → List Str} {i j : Nat} (h : Via (stN ns st) ns.length i j) : ∀ {x y : Str}, ns[i]? = some x → ns[j]? = some y → OnW st x y := by
  induction h with
  | one m => intro x y ex ey; exact .one ((stN_mem ex ey).mp m)
  | @thru i m j _ l _ a b =>
    intro x y ex ey
    exact (a ex (List.getElem?_eq_getElem l)).trans (b (List.getElem?_eq_getElem l) ey)
theorem on_wr {ns : List Str} {st : Str → List Str} (nd : ns.Nodup) (hs : ∀ x ∈ ns, ∀ y ∈ st x, y ∈ ns) {i : Nat} {x : Str} (ex : ns[i]? = some x) : OnW st x x ↔ Wr (stN ns st) ns.length i i = true := by
  rw [wr_via]
  constructor
  · intro h
    obtain ⟨j, ej, v⟩ := on_via hs ex h
    rwa [nodup_get nd ej ex] at v
  · intro h
    exact via_on h ex ex
theorem stF_in {rules : List (Str × Tr)} : ∀ x, ∀ y ∈ stF rules x, y ∈ rules.map (·.1) := fun x y hy => by
  unfold stF at hy
  split at hy
  · exact leanN_in y hy
  · cases hy
theorem filt_succ {p : Nat → Bool} (n : Nat) : (List.range (n + 1)).filter p = (List.range n).filter p ++ (if p n = true then [n] else []) := by
  rw [List.range_succ, List.filter_append, List.filter_cons]
  split <;> rfl
theorem filt_len {p : Nat → Bool} (n : Nat) : ((List.range n).filter p).length ≤ n := by
  have := List.length_filter_le p (List.range n)
  rwa [List.length_range] at this
/-- the first of the rings' names -/
theorem ring_first {rules : List (Str × Tr)} (nd : (rules.map (·.1)).Nodup) : (((List.range (rules.map (·.1)).length).filter fun k => Wr (stN (rules.map (·.1)) (stF rules)) (rules.map (·.1)).length k k).map (fun k => onS (rules.map (·.1))[k]?) ++ [V.non])[0]? = some (onS (ringO rules)) := by
  classical
  have on : ∀ {i : Nat} {x : Str}, (rules.map (·.1))[i]? = some x → (OnW (stF rules) x x ↔ Wr (stN (rules.map (·.1)) (stF rules)) (rules.map (·.1)).length i i = true) := fun ex => on_wr nd (fun x _ y hy => stF_in x y hy) ex
  cases hL : (List.range (rules.map (·.1)).length).filter fun k => Wr (stN (rules.map (·.1)) (stF rules)) (rules.map (·.1)).length k k with
  | nil =>
    have e : ringO rules = none := by
      unfold ringO
      rw [List.find?_eq_none]
      intro y hy z
      obtain ⟨i, ei⟩ := List.getElem?_of_mem hy
      have w := (on ei).mp (of_decide_eq_true z)
      have : i ∈ (List.range (rules.map (·.1)).length).filter fun k => Wr (stN (rules.map (·.1)) (stF rules)) (rules.map (·.1)).length k k := List.mem_filter.mpr ⟨List.mem_range.mpr (List.getElem?_eq_some_iff.mp ei).1, w⟩
      rw [hL] at this
      cases this
    rw [e]; rfl
  | cons k r =>
    have km : k ∈ (List.range (rules.map (·.1)).length).filter fun k => Wr (stN (rules.map (·.1)) (stF rules)) (rules.map (·.1)).length k k := by rw [hL]; exact List.mem_cons_self ..
    obtain ⟨k1, k2⟩ := List.mem_filter.mp km
    have kl := List.mem_range.mp k1
    have ek : (rules.map (·.1))[k]? = some (rules.map (·.1))[k] := List.getElem?_eq_getElem kl
    have sorted : List.Pairwise (· < ·) (k :: r) := by
      rw [← hL]
      exact List.Pairwise.filter _ List.pairwise_lt_range
    have e : ringO rules = some (rules.map (·.1))[k] := by
      unfold ringO
      refine find_at ek (decide_eq_true ((on ek).mpr k2)) fun j y hj ey => decide_eq_false fun z => ?_
      have w := (on ey).mp z
      have jm : j ∈ (List.range (rules.map (·.1)).length).filter fun k => Wr (stN (rules.map (·.1)) (stF rules)) (rules.map (·.1)).length k k := List.mem_filter.mpr ⟨List.mem_range.mpr (List.getElem?_eq_some_iff.mp ey).1, w⟩
      rw [hL] at jm
      rcases List.mem_cons.mp jm with h | h
      · omega
      · have := (List.pairwise_cons.mp sorted).1 j h
        omega
    rw [e]
    show some (onS (rules.map (·.1))[k]?) = _
    rw [ek]
section
variable {P : Program} {w : World} {K : PySem.W.Frag} {mg : Str → Option Value} {base : Heap}
def sp_law_hangs (K : PySem.W.Frag) : Sp := fun vs H Q _ => ∃ (r : Addr) (F : Fm), vs = [.ref r] ∧ FmAt H r F ∧ FmOk F ∧ (F.rules.map (·.1)).Nodup ∧ (∀ p ∈ F.rules, p.2.parts.length ≤ 10) ∧ ∀ H', Same H H' → Q (onS (ringO F.rules)) H'
theorem ok_law_hangs {f : Addr} {fd : FuncData} (F : Fun K "_law_hangs" "_law_hangs" s_law_hangs f fd) (T : Top w K mg) : FnOk P w K mg base CX0 12 f fd ["_law_formulas_here"] (sp_law_hangs K) := by
  obtain ⟨f_law_uses, fd_law_uses, F_law_uses, b_law_uses, m_law_uses⟩ := T.d_law_uses
  have G_law_uses := ok_law_uses (P := P) (w := w) (base := base) F_law_uses T
  refine F.ok sc_law_hangs (fun vs H Q E h => ?_) (fun cdv A outer s H vs Q E hr h => ?_)
  · obtain ⟨r, F, rfl, _⟩ := h
    rfl
  obtain ⟨r, F, rfl, hF, ok, nd, tr, q⟩ := h
  obtain ⟨a1, a2, a3, a4, wv, rv, e0, e1, e2, e3, e4, e5, e6⟩ := hF
  obtain ⟨own, ho⟩ : ∃ l, l = F.rules.map (·.1) := ⟨_, rfl⟩
  have lo : own.length ≤ 100 := by rw [ho, List.length_map]; exact ok.lr
  have lr : F.rules.length = own.length := by rw [ho, List.length_map]
  have A0 : ∀ (i : Nat) (p : Str × Tr) (j : Nat) (z : Str), F.rules[i]? = some p → own[j]? = some z → (z ∈ (p.2.leans.filter fun q => decide (q.2 = 0)).map (·.1) ↔ Wr (stN own (stF F.rules)) 0 i j = true) := fun i p j z ep ez => by
    have ei : own[i]? = some p.1 := by rw [ho, List.getElem?_map, ep]; rfl
    show _ ↔ decide (j ∈ stN own (stF F.rules) i) = true
    rw [decide_eq_true_eq, stN_mem ei ez, stF_at nd ep]
    unfold leanN
    rw [List.mem_map, List.mem_map]
    constructor
    · rintro ⟨q, hq, rfl⟩
      obtain ⟨m, c⟩ := List.mem_filter.mp hq
      exact ⟨q, List.mem_filter.mpr ⟨m, by rw [Bool.and_eq_true]; exact ⟨c, decide_eq_true (by rw [← ho]; exact List.mem_of_getElem? ez)⟩⟩, rfl⟩
    · rintro ⟨q, hq, rfl⟩
      obtain ⟨m, c⟩ := List.mem_filter.mp hq
      rw [Bool.and_eq_true] at c
      exact ⟨q, List.mem_filter.mpr ⟨m, c.1⟩, rfl⟩
  refine ⟨_, (pss_cons (ps_set (i := 1) sc_law_hangs.nd rfl (Or.inr rfl) (pe_lc (own := [("_law_name", 2), ("_law_tree_here", 3)]) (g := gTup K 2 (gCons (gName 2) (gCons (gName 3) gNil))) (tt := tYes) (by rfl) sc_law_hangs.nd (pi_tupK K rfl (pe_ix (ix_tupK K rfl) (pv 0) pe_int (fun _ _ => rfl))) (blkOk_by (own := [("_law_name", 2), ("_law_tree_here", 3)]) (N := N_law_hangs) (sc := defScope s_law_hangs) (by decide +kernel)) (fun _ _ _ _ _ => (pg_tupK K rfl rfl (pgs_cons (pg_name (i := 2) sc_law_hangs.nd rfl (Or.inl rfl)) (pgs_cons (pg_name (i := 3) sc_law_hangs.nd rfl (Or.inl rfl)) pgs_nil)))) (fun _ _ _ _ _ => pts_nil) (fun _ _ _ _ _ => (pv 2))))
      (pss_cons (ps_set (i := 4) sc_law_hangs.nd rfl (Or.inl rfl) (pe_callB (call_len_seqK K rfl) (by rfl) T.m_len (by decide +kernel) (pa_cons (pv 1) pa_nil)))
      (pss_cons (ps_set (i := 5) sc_law_hangs.nd rfl (Or.inr rfl) (pe_lst pa_nil))
      (pss_cons (ps_for PassesOwn.never rfl (pi_tupK K rfl (pe_ix (ix_tupK K rfl) (pv 0) pe_int (fun _ _ => rfl))) (pg_tupK K rfl rfl (pgs_cons (pg_name (i := 2) sc_law_hangs.nd rfl (Or.inl rfl)) (pgs_cons (pg_name (i := 3) sc_law_hangs.nd rfl (Or.inl rfl)) pgs_nil)))
        (pss_cons (ps_set (i := 6) sc_law_hangs.nd rfl (Or.inr rfl) (pe_lc (own := [("_law_other", 7), ("_law_ago", 8)]) (g := gTup K 2 (gCons (gName 7) (gCons (gName 8) gNil))) (by rfl) sc_law_hangs.nd (pi_listK K rfl (pe_call G_law_uses (hr.mono (by decide)) (by rfl) m_law_uses F_law_uses.kp b_law_uses .nil pass0 (pa_cons (pv 3) pa_nil))) (blkOk_by (own := [("_law_other", 7), ("_law_ago", 8)]) (N := N_law_hangs) (sc := defScope s_law_hangs) (by decide +kernel)) (fun _ _ _ _ _ => (pg_tupK K rfl rfl (pgs_cons (pg_name (i := 7) sc_law_hangs.nd rfl (Or.inl rfl)) (pgs_cons (pg_name (i := 8) sc_law_hangs.nd rfl (Or.inl rfl)) pgs_nil)))) (fun _ _ _ _ _ => pts_one (pt_cmpR op_eq (pv 8) pe_int (nomark _))) (fun _ _ _ _ _ => (pv 7))))
      (pss_one (ps_expr (pe_bmK K rfl PySem.F.plainAttrs_list PySem.F.slot_list_append PySem.F.type_list_append mt_append (pv 5) (pa_cons (pe_lc (own := [("_law_other", 7)]) (g := gName 7) (tt := tYes) (by rfl) sc_law_hangs.nd (pi_listK K rfl (pv 1)) (blkOk_by (own := [("_law_other", 7)]) (N := N_law_hangs) (sc := defScope s_law_hangs) (by decide +kernel)) (fun _ _ _ _ _ => (pg_name (i := 7) sc_law_hangs.nd rfl (Or.inl rfl))) (fun _ _ _ _ _ => pts_nil) (fun _ _ _ _ _ => (pe_cmpR (op_in_seqK K rfl) (pv 7) (pv 6) (by with_unfolding_all rfl)))) pa_nil))))))
      (pss_cons (ps_for PassesOwn.never rfl (pi_range1 (by rfl) T.m_range (pa_cons (pv 4) pa_nil)) (pg_name (i := 9) sc_law_hangs.nd rfl (Or.inr rfl))
        (pss_one (ps_for PassesOwn.never rfl (pi_range1 (by rfl) T.m_range (pa_cons (pv 4) pa_nil)) (pg_name (i := 10) sc_law_hangs.nd rfl (Or.inr rfl))
        (pss_one (ps_if (pt_val (pe_ix (ix_listK K rfl) (pe_ix (ix_listK K rfl) (pv 5) (pv 10) (fun _ _ => rfl)) (pv 9) (fun _ _ => rfl))) (pss_one (ps_asg (pe_lc (own := [("_law_to", 11)]) (g := gName 11) (tt := tYes) (by rfl) sc_law_hangs.nd (pi_range1 (by rfl) T.m_range (pa_cons (pv 4) pa_nil)) (blkOk_by (own := [("_law_to", 11)]) (N := N_law_hangs) (sc := defScope s_law_hangs) (by decide +kernel)) (fun _ _ _ _ _ => (pg_name (i := 11) sc_law_hangs.nd rfl (Or.inl rfl))) (fun _ _ _ _ _ => pts_nil) (fun _ _ _ _ _ => (pe_or (pe_ix (ix_listK K rfl) (pe_ix (ix_listK K rfl) (pv 5) (pv 10) (fun _ _ => rfl)) (pv 11) (fun _ _ => rfl)) (pe_one (pe_ix (ix_listK K rfl) (pe_ix (ix_listK K rfl) (pv 5) (pv 9) (fun _ _ => rfl)) (pv 11) (fun _ _ => rfl)))))) (pg_sub (pv 5) (pv 10) set_list))) pss_nil)))))
      (pss_one (ps_ret (pe_ix (ix_listK K rfl) (pe_op op_cat (pe_lc (own := [("_law_k", 9)]) (g := gName 9) (by rfl) sc_law_hangs.nd (pi_range1 (by rfl) T.m_range (pa_cons (pv 4) pa_nil)) (blkOk_by (own := [("_law_k", 9)]) (N := N_law_hangs) (sc := defScope s_law_hangs) (by decide +kernel)) (fun _ _ _ _ _ => (pg_name (i := 9) sc_law_hangs.nd rfl (Or.inl rfl))) (fun _ _ _ _ _ => pts_one (pt_val (pe_ix (ix_listK K rfl) (pe_ix (ix_listK K rfl) (pv 5) (pv 9) (fun _ _ => rfl)) (pv 9) (fun _ _ => rfl)))) (fun _ _ _ _ _ => (pe_ix (ix_listK K rfl) (pv 1) (pv 9) (fun _ _ => rfl)))) (pe_lst (pa_cons pe_non pa_nil))) pe_int (fun _ _ => rfl))))))))), ?_⟩
  refine ⟨_, rfl, r, _, _, _, rfl, rfl, SqT.of e0, atI_nat (j := 2) rfl, a3, rfl, ⟨_, SqT.of e4⟩, fun O nO => ?_⟩
  refine lc_tup (K := K) (a := a3) (xs := rv) (fun i H9 => H9 O = some (.lst ((own.take i).map V.str)) ∧ Same H H9) ⟨upd_same, same_new nO⟩ (fun i H9 _ ⟨_, s9⟩ => SqT.of (s9 _ _ e4)) ?_ ?_
  · rintro j z H9 hz ⟨hO, s9⟩
    obtain ⟨u, hu, b, c, rfl, hb, _⟩ := e5.getL hz
    have eo : own[j]? = some u.1 := by rw [ho, List.getElem?_map, hu]; rfl
    refine ⟨b, _, rfl, SqT.of (s9 _ _ hb), rfl, _, _, rfl, _, _, rfl, rfl, rfl, yes_in ⟨_, rfl, _, hO, ?_, ?_, Same.own s9 nO⟩⟩
    · rw [List.length_map, List.length_take]
      exact small1000 (by omega)
    · rw [upd_same, List.take_add_one, eo, List.map_append]
      rfl
  rintro H1 ⟨hO, s1⟩
  rw [e5.length, lr, List.take_length] at hO
  refine ⟨_, rfl, O, _, rfl, .inl (SqL.of hO), ?_⟩
  rw [List.length_map]
  refine ⟨(by show 0 ≤ sizeLine; decide), fun D nD => ?_⟩
  have nO2 : O ≠ D := ne_of_none hO nD
  have s2 : Same H1 (upd H1 D (.lst [])) := same_new nD
  have hD2 : (upd H1 D (.lst [])) D = some (.lst []) := upd_same
  have nD0 : H D = none := same_none s1 nD
  have s12 := s1.trans s2
  have hO2 := s2 _ _ hO
  generalize upd H1 D (.lst []) = H2 at s2 hD2 s12 hO2 ⊢
  let sg : Option V → Option V → Option V → Option V → Option V → L2.St := fun v2 v3 v6 v9 v10 => [some (.ref r), some (.ref O), v2, v3, some (nV own.length), some (.ref D), v6, none, none, v9, v10, none]
  refine ⟨_, rfl, r, _, _, _, rfl, rfl, SqT.of (s12 _ _ e0), atI_nat (j := 2) rfl, a3, rfl, ⟨_, SqT.of (s12 _ _ e4)⟩, for_tup (K := K) (a := a3) (xs := rv) (fun i σ H5 => ∃ (v2 v3 v6 : Option V) (adr : Nat → Addr), σ = sg v2 v3 v6 none none ∧ H5 D = some (.lst ((List.range i).map fun x => V.ref (adr x))) ∧ (∀ x, x < i → H5 (adr x) = some (.lst ((List.range own.length).map fun j => V.bl (Wr (stN own (stF F.rules)) 0 x j))) ∧ H1 (adr x) = none ∧ adr x ≠ D) ∧ (∀ x y, x < i → y < i → adr x = adr y → x = y) ∧ Same H1 H5) ⟨none, none, none, fun _ => D, rfl, hD2, (fun x z => absurd z (Nat.not_lt_zero _)), (fun x y z => absurd z (Nat.not_lt_zero _)), s2⟩ (fun i σ H5 _ ⟨_, _, _, _, _, _, _, _, s5⟩ => SqT.of (s5 _ _ (s1 _ _ e4))) ?_ ?_⟩
  · rintro i v σ H5 hx ⟨v2, v3, v6, adr, rfl, hD, had, inj, s51⟩
    have s5 := s1.trans s51
    have hO5 := s51 _ _ hO
    obtain ⟨p, hp, t, x, rfl, ht, hxt⟩ := e5.getL hx
    have il := (List.getElem?_eq_some_iff.mp hp).1
    have lp := tr p (List.mem_of_getElem? hp)
    refine ⟨t, _, rfl, SqT.of (s5 _ _ ht), rfl, _, _, rfl, _, _, rfl, rfl, ?_⟩
    refine ⟨_, rfl, x, p.2, rfl, hxt.keep (TK.same s5), Nat.le_trans p.2.dep_parts lp, by omega, fun p1 pv1 H6 n1 h1 al s6 => ?_⟩
    refine ⟨p1, rfl, ⟨_, SqL.of h1⟩, fun C nC => ?_⟩
    refine lc_list (K := K) (a := p1) (xs := pv1) (fun i H9 => H9 C = some (.lst ((((p.2.leans.take i).filter fun q => decide (q.2 = 0)).map (·.1)).map V.str)) ∧ Same H6 H9) ⟨upd_same, same_new nC⟩ (fun i H9 _ ⟨_, s9⟩ => SqL.of (s9 _ _ h1)) ?_ ?_
    · rintro j z H9 hz ⟨hC, s9⟩
      obtain ⟨u, hu, b, rfl, hb⟩ := al.getL hz
      have tk2 : p.2.leans.take (j + 1) = p.2.leans.take j ++ [u] := by rw [List.take_add_one, hu]; rfl
      refine ⟨b, _, rfl, SqT.of (s9 _ _ hb), rfl, _, _, rfl, _, _, rfl, rfl, rfl, ?_⟩
      refine ⟨_, rfl, rfl, _, rfl, ?_⟩
      by_cases c0 : u.2 = 0
      · rw [decide_eq_true (show nV u.2 = V.int 0 by rw [c0]; rfl)]
        refine if_bl (fun _ => ?_) (fun z => nomatch z)
        refine ⟨_, rfl, _, hC, ?_, ?_, Same.own s9 nC⟩
        · have h1 := List.length_filter_le (fun q : Str × Nat => decide (q.2 = 0)) (p.2.leans.take j)
          rw [List.length_take] at h1
          have h2 := leans_len p.2
          rw [List.length_map, List.length_map]
          exact small1000 (by omega)
        · rw [upd_same, tk2, List.filter_append, List.map_append, List.map_append]
          rw [show [u].filter (fun q => decide (q.2 = 0)) = [u] by rw [List.filter_cons, if_pos (decide_eq_true c0)]; rfl]
          rfl
      · rw [decide_eq_false (show ¬ nV u.2 = V.int 0 from fun z => c0 (by have := V.int.inj z; omega))]
        refine if_bl (fun z => nomatch z) (fun _ => ?_)
        refine ⟨?_, s9⟩
        rw [tk2, List.filter_append, List.map_append, List.map_append]
        rw [show [u].filter (fun q => decide (q.2 = 0)) = [] by rw [List.filter_cons, if_neg (by rw [decide_eq_false c0]; exact Bool.false_ne_true)]; rfl]
        simpa using hC
    rintro H7 ⟨hC, s7⟩
    rw [al.length, List.take_length] at hC
    have s67 := s6.trans s7
    have hD7 := s67 _ _ hD
    have hO7 := s67 _ _ hO5
    have nCD : C ≠ D := fun z => by rw [z, s6 _ _ hD] at nC; cases nC
    refine ⟨_, rfl, .inl ⟨rfl, _, SqL.of hD7⟩, _, rfl, O, rfl, ⟨_, SqL.of hO7⟩, fun E nE => ?_⟩
    refine lc_list (K := K) (a := O) (xs := own.map V.str) (fun j H9 => H9 E = some (.lst ((List.range j).map fun y => V.bl (Wr (stN own (stF F.rules)) 0 i y))) ∧ Same H7 H9) ⟨upd_same, same_new nE⟩ (fun j H9 _ ⟨_, s9⟩ => SqL.of (s9 _ _ hO7)) ?_ ?_
    · rintro j z H9 hz ⟨hE, s9⟩
      rw [List.getElem?_map] at hz
      cases ez : own[j]? with
      | none => rw [ez] at hz; cases hz
      | some y =>
      rw [ez] at hz
      obtain rfl : V.str y = z := Option.some.inj hz
      have jl := (List.getElem?_eq_some_iff.mp ez).1
      refine ⟨rfl, yes_in ⟨_, rfl, _, rfl, C, _, rfl, .inl (SqL.of (s9 _ _ hC)), rfl, flat_strs _, _, hE, by rw [List.length_map, List.length_range]; exact small1000 (by omega), ?_, Same.own s9 nE⟩⟩
      rw [upd_same, List.range_succ, List.map_append]
      have : inV (.str y) ((((p.2.leans.filter fun q => decide (q.2 = 0)).map (·.1))).map V.str) = Wr (stN own (stF F.rules)) 0 i j := by
        rw [Bool.eq_iff_iff, inV_strs]
        exact A0 i p j y hp ez
      show some (HO.lst (_ ++ [V.bl (inV (.str y) _)])) = _
      rw [this]
      rfl
    rintro H9 ⟨hE, s9⟩
    rw [List.length_map] at hE
    have s59 := s67.trans s9
    have hD9 := s59 _ _ hD
    have nE5 : H5 E = none := same_none s67 nE
    have nED : E ≠ D := fun z => by rw [z, hD7] at nE; cases nE
    have pa : ∀ x, x < i → adr x ≠ E := fun x hx z => by rw [← z, (had x hx).1] at nE5; cases nE5
    have key : ((List.range i).map fun x => V.ref (adr x)) ++ [V.ref E] = (List.range (i + 1)).map fun x => V.ref (if x = i then E else adr x) := by
      rw [List.range_succ, List.map_append]
      have e1 : (List.range i).map (fun x => V.ref (if x = i then E else adr x)) = (List.range i).map fun x => V.ref (adr x) := List.map_congr_left fun x hx => by
        have := List.mem_range.mp hx
        rw [if_neg (by omega)]
      rw [e1]
      show _ = _ ++ [V.ref (if i = i then E else adr i)]
      rw [if_pos rfl]
    refine ⟨D, _, _, rfl, rfl, hD9, by rw [List.length_map, List.length_range]; exact small1000 (by omega), _, _, _, fun x => if x = i then E else adr x, rfl, ?_, fun x hx => ?_, fun x y hx hy e => ?_, Same.own (s51.trans s59) nD⟩
    · rw [upd_same]
      exact congrArg (fun l => some (HO.lst l)) key
    · dsimp only
      by_cases e : x = i
      · rw [if_pos e]
        refine ⟨by rw [upd_ne nED, hE, e], same_none s51 nE5, nED⟩
      · rw [if_neg e]
        obtain ⟨q1, q2, q3⟩ := had x (by omega)
        exact ⟨by rw [upd_ne q3]; exact s59 _ _ q1, q2, q3⟩
    · by_cases e1 : x = i
      · by_cases e2 : y = i
        · omega
        · simp only [if_pos e1, if_neg e2] at e
          exact absurd e.symm (pa y (by omega))
      · by_cases e2 : y = i
        · simp only [if_neg e1, if_pos e2] at e
          exact absurd e (pa x (by omega))
        · simp only [if_neg e1, if_neg e2] at e
          exact inj x y (by omega) (by omega) e
  rintro σ H3 ⟨v2, v3, v6, adr, rfl, hD, had, inj, s3⟩
  rw [e5.length, lr] at hD had inj
  have m3 : Mx H1 H3 D own.length (Wr (stN own (stF F.rules)) 0) := ⟨adr, hD, had, inj, s3, nD⟩
  clear hD had inj adr
  have rf := ring_first nd
  rw [← ho] at rf
  obtain ⟨st, hst⟩ : ∃ st, st = stN own (stF F.rules) := ⟨_, rfl⟩
  rw [← hst] at m3 rf
  obtain ⟨n, hn⟩ : ∃ n, n = own.length := ⟨_, rfl⟩
  have hsg : sg = fun v2 v3 v6 v9 v10 => [some (.ref r), some (.ref O), v2, v3, some (nV n), some (.ref D), v6, none, none, v9, v10, none] := by rw [hn]
  rw [← hn] at m3 lo rf
  have hsgn : ∀ v2 v3 v6 v9 v10, sg v2 v3 v6 v9 v10 = [some (.ref r), some (.ref O), v2, v3, some (nV n), some (.ref D), v6, none, none, v9, v10, none] := fun _ _ _ _ _ => by rw [hsg]
  rw [hsgn]
  clear hsgn hsg
  let sg : Option V → Option V → Option V → Option V → Option V → L2.St := fun v2 v3 v6 v9 v10 => [some (.ref r), some (.ref O), v2, v3, some (nV n), some (.ref D), v6, none, none, v9, v10, none]
  refine ⟨_, rfl, _, rfl, by omega, by omega, for_range (lo := 0) (n := n) (fun k σ H5 => ∃ v9 v10 : Option V, σ = sg v2 v3 v6 v9 v10 ∧ Mx H1 H5 D n (Wr (st) k)) ⟨_, _, rfl, m3⟩ ?_ ?_⟩
  · rintro k σ H5 hk ⟨v9, v10, rfl, m5⟩
    rw [Int.zero_add]
    refine ⟨_, rfl, _, rfl, by omega, by omega, for_range (lo := 0) (n := n) (fun i σ H6 => ∃ v10 : Option V, σ = sg v2 v3 v6 (some (nV k)) v10 ∧ Mx H1 H6 D n (fun x y => if x < i then Wr (st) (k + 1) x y else Wr (st) k x y)) ⟨_, rfl, ?_⟩ ?_ ?_⟩
    · exact m5
    · rintro i σ H6 hi ⟨v10, rfl, m6⟩
      rw [Int.zero_add]
      obtain ⟨a, xs, hD, hxs, hrow⟩ := m6.get hi
      obtain ⟨ak, xs2, hD2, hxs2, hrowk⟩ := m6.get hk
      rw [hD] at hD2
      cases hD2
      have cur : ∀ y, (fun x y => if x < i then Wr (st) (k + 1) x y else Wr (st) k x y) i y = Wr (st) k i y := fun y => if_neg (Nat.lt_irrefl _)
      have curk : ∀ y, (fun x y => if x < i then Wr (st) (k + 1) x y else Wr (st) k x y) k y = Wr (st) k k y := fun y => by
        show (if k < i then Wr (st) (k + 1) k y else Wr (st) k k y) = _
        rw [wr_same, ite_self]
      refine ⟨_, rfl, _, rfl, D, _, _, _, rfl, rfl, SqL.of hD, atI_nat hxs, _, rfl, a, _, _, _, rfl, rfl, SqL.of hrow, atI_nat (row_at _ hk), _, rfl, if_bl (fun c => ?_) (fun c => ?_)⟩
      · have c := (cur k).symm.trans c
        refine ⟨_, rfl, _, rfl, by omega, by omega, fun E nE => lc_range (lo := 0) (n := n) (fun j H7 => H7 E = some (.lst ((List.range j).map fun y => V.bl (Wr (st) k i y || Wr (st) k k y))) ∧ Same H6 H7) ⟨upd_same, same_new nE⟩ ?_ ?_⟩
        · rintro j H7 hj ⟨hE, s7⟩
          rw [Int.zero_add]
          have fin : ∀ b : Bool, b = (Wr (st) k i j || Wr (st) k k j) → ∃ acc, H7 E = some (.lst acc) ∧ acc.length < sizeLine ∧ (upd H7 E (.lst (acc ++ [V.bl b]))) E = some (.lst ((List.range (j + 1)).map fun y => V.bl (Wr (st) k i y || Wr (st) k k y))) ∧ Same H6 (upd H7 E (.lst (acc ++ [V.bl b]))) := fun b e => by
            refine ⟨_, hE, by rw [List.length_map, List.length_range]; exact small1000 (by omega), ?_, Same.own s7 nE⟩
            rw [upd_same, List.range_succ, List.map_append, e]
            rfl
          refine ⟨rfl, yes_in ⟨_, rfl, _, rfl, D, _, _, _, rfl, rfl, SqL.of (s7 _ _ hD), atI_nat hxs, _, rfl, a, _, _, _, rfl, rfl, SqL.of (s7 _ _ hrow), atI_nat (row_at _ hj), _, rfl, if_bl (fun z => ?_) (fun z => ?_)⟩⟩
          · have z := (cur j).symm.trans z
            exact fin true (by rw [z]; rfl)
          · have z := (cur j).symm.trans z
            refine ⟨_, rfl, _, rfl, D, _, _, _, rfl, rfl, SqL.of (s7 _ _ hD), atI_nat hxs2, _, rfl, ak, _, _, _, rfl, rfl, SqL.of (s7 _ _ hrowk), atI_nat (row_at _ hj), ?_⟩
            exact fin _ ((curk j).trans (by rw [z]; rfl))
        · rintro H7 ⟨hE, s7⟩
          refine ⟨_, rfl, _, rfl, D, xs, _, i, rfl, rfl, s7 _ _ hD, ?_, _, rfl, ?_⟩
          · exact ixN_at (List.getElem?_eq_some_iff.mp hxs).1
          · rw [show (fun x y => if x < i + 1 then Wr (st) (k + 1) x y else Wr (st) k x y) = fun x y => if x = i then (Wr (st) k i y || Wr (st) k k y) else (if x < i then Wr (st) (k + 1) x y else Wr (st) k x y) from ?_]
            · exact m6.row hi s7 nE hE (s7 _ _ hD)
            · funext x y
              by_cases e : x = i
              · subst e
                rw [if_pos rfl, if_pos (Nat.lt_succ_self _)]
                show (Wr (st) k x y || (Wr (st) k x k && Wr (st) k k y)) = _
                rw [c, Bool.true_and]
              · rw [if_neg e]
                by_cases l : x < i
                · rw [if_pos l, if_pos (by omega)]
                · rw [if_neg l, if_neg (by omega)]
      · have c := (cur k).symm.trans c
        refine ⟨_, rfl, ?_⟩
        rw [show (fun x y => if x < i + 1 then Wr (st) (k + 1) x y else Wr (st) k x y) = fun x y => if x < i then Wr (st) (k + 1) x y else Wr (st) k x y from ?_]
        · exact m6
        · funext x y
          by_cases e : x = i
          · subst e
            rw [if_pos (Nat.lt_succ_self _), if_neg (Nat.lt_irrefl _)]
            show (Wr (st) k x y || (Wr (st) k x k && Wr (st) k k y)) = _
            rw [c, Bool.false_and, Bool.or_false]
          · by_cases l : x < i
            · rw [if_pos l, if_pos (by omega)]
            · rw [if_neg l, if_neg (by omega)]
    · rintro σ H6 ⟨v10, rfl, m6⟩
      refine ⟨_, _, rfl, ?_⟩
      obtain ⟨adr, hD, hr, inj, s0, nD0⟩ := m6.ex
      refine ⟨adr, hD, fun x hx => ⟨?_, (hr x hx).2⟩, inj, s0, nD0⟩
      rw [(hr x hx).1]
      congr 2
      exact List.map_congr_left fun y _ => by rw [if_pos hx]
  rintro σ H5 ⟨v9, v10, rfl, m5⟩
  have hO5 := m5.same0 _ _ hO
  refine ⟨_, rfl, _, rfl, by omega, by omega, fun E nE => lc_range (lo := 0) (n := n) (fun i H6 => H6 E = some (.lst (((List.range i).filter fun k => Wr st n k k).map fun k => onS own[k]?)) ∧ Same H5 H6) ⟨upd_same, same_new nE⟩ ?_ ?_⟩
  · rintro i H6 hi ⟨hE, s6⟩
    rw [Int.zero_add]
    obtain ⟨a, xs, hD, hxs, hrow⟩ := m5.get hi
    have few := filt_len (p := fun k => Wr st n k k) i
    refine ⟨rfl, _, rfl, _, rfl, D, _, _, _, rfl, rfl, SqL.of (s6 _ _ hD), atI_nat hxs, _, rfl, a, _, _, _, rfl, rfl, SqL.of (s6 _ _ hrow), atI_nat (row_at _ hi), _, rfl, if_bl (fun c => ?_) (fun c => ?_)⟩
    · have eo : own[i]? = some own[i] := List.getElem?_eq_getElem (by omega)
      refine ⟨_, rfl, _, rfl, O, _, _, _, rfl, rfl, SqL.of (s6 _ _ hO5), atI_nat (by rw [List.getElem?_map, eo]; rfl), _, hE, by rw [List.length_map]; exact small1000 (by omega), ?_, Same.own s6 nE⟩
      rw [upd_same, filt_succ, if_pos c, List.map_append, List.map_cons, eo]
      rfl
    · refine ⟨?_, s6⟩
      rw [filt_succ, if_neg (by rw [c]; exact Bool.false_ne_true), List.append_nil]
      exact hE
  rintro H6 ⟨hE, s6⟩
  have few := filt_len (p := fun k => Wr st n k k) n
  refine ⟨(by show 1 ≤ sizeLine; decide), fun p7 np7 => ⟨E, p7, _, _, rfl, rfl, same_new np7 _ _ hE, upd_same, by rw [List.length_map]; exact little (by show _ + 1 ≤ 1000; omega), fun p8 np8 => ?_⟩⟩
  refine ⟨p8, _, _, _, rfl, rfl, SqL.of upd_same, atI_nat (j := 0) rf, ?_⟩
  exact q _ (s1.trans (m5.same0.trans (s6.trans ((same_new np7).trans (same_new np8)))))
end
/-! ### what is due -/
def DueV (H : Hp) (v : V) : Option (Str × Str) → Prop
  | none => v = .str "let by"
  | some (z, x) => ∃ p, v = .ref p ∧ H p = some (.tup [.str z, .str x])
section
variable {P : Program} {w : World} {K : PySem.W.Frag} {mg : Str → Option Value} {base : Heap}
def sp_law_due (K : PySem.W.Frag) : Sp := fun vs H Q _ => ∃ (r : Addr) (F : Fm), vs = [.ref r] ∧ FmAt H r F ∧ FmOk F ∧ (∀ p ∈ F.rules, p.2.parts.length ≤ 10) ∧ ∀ (v : V) (H' : Hp), DueV H' v (lookO F) → Same H H' → Q v H'
theorem ok_law_due {f : Addr} {fd : FuncData} (F : Fun K "_law_due" "_law_due" s_law_due f fd) (T : Top w K mg) : FnOk P w K mg base CX0 13 f fd ["_law_formulas_here"] (sp_law_due K) := by
  obtain ⟨f_law_hangs, fd_law_hangs, F_law_hangs, b_law_hangs, m_law_hangs⟩ := T.d_law_hangs
  have G_law_hangs := ok_law_hangs (P := P) (w := w) (base := base) F_law_hangs T
  obtain ⟨f_law_uses, fd_law_uses, F_law_uses, b_law_uses, m_law_uses⟩ := T.d_law_uses
  have G_law_uses := ok_law_uses (P := P) (w := w) (base := base) F_law_uses T
  refine F.ok sc_law_due (fun vs H Q E h => ?_) (fun cdv A outer s H vs Q E hr h => ?_)
  · obtain ⟨r, F, rfl, _⟩ := h
    rfl
  obtain ⟨r, F, rfl, hF, ok, tr, q⟩ := h
  have hF0 := hF
  obtain ⟨a1, a2, a3, a4, wv, rv, e0, e1, e2, e3, e4, e5, e6⟩ := hF
  let sg : Addr → Addr → Option V → Option V → Option V → Option V → Option V → Option V → L2.St := fun O Kp v6 v7 v10 v11 v12 v13 => [some (.ref r), some (.ref a1), some (.ref a2), some (.ref a3), some (.ref a4), some (.ref O), v6, v7, some (.ref Kp), none, v10, v11, v12, v13, none, none]
  let R1 : TS := fun D' σ' H' => D'.rt = Q ∧ ∃ O Kp : Addr, σ' = sg O Kp none none none none none none ∧ H' O = some (.lst (F.own.map V.str)) ∧ H' Kp = some (.lst (F.kept.map V.str)) ∧ Same H H'
  let R2 : TS := fun D' σ' H' => D'.rt = Q ∧ ∃ (O Kp : Addr) (v10 v11 v12 : Option V), σ' = sg O Kp none none v10 v11 v12 none ∧ H' O = some (.lst (F.own.map V.str)) ∧ H' Kp = some (.lst (F.kept.map V.str)) ∧ Same H H' ∧ dupO F.own = none ∧ dupO F.kept = none
  let R3 : TS := fun D' σ' H' => D'.rt = Q ∧ ∃ (O Kp U : Addr) (v6 v7 v10 v11 v12 : Option V), σ' = sg O Kp v6 v7 v10 v11 v12 (some (.ref U)) ∧ H' O = some (.lst (F.own.map V.str)) ∧ H' U = some (.lst ((F.kept ++ F.rules.flatMap (fun p => p.2.leans.map (·.1))).map V.str)) ∧ Same H H' ∧ dupO F.own = none ∧ dupO F.kept = none
  let R4 : TS := fun D' σ' H' => D'.rt = Q ∧ ∃ (O Kp : Addr) (v6 v7 v10 v11 v12 v13 : Option V), σ' = sg O Kp v6 v7 v10 v11 v12 v13 ∧ Same H H' ∧ dupO F.own = none ∧ dupO F.kept = none ∧ lostO F.used F.own = none
  have lo : F.own.length ≤ 200 := by
    unfold Fm.own
    rw [List.length_append, List.length_map]
    have := ok.li
    have := ok.lr
    omega
  have lk : F.kept.length ≤ 100 := by
    unfold Fm.kept
    rw [List.length_map]
    exact ok.lw
  have told : ∀ {z : Str} {x : Str} {D' : Ends} {σ' : L2.St} {H' : Hp}, D'.rt = Q → lookO F = some (z, x) → Same H H' → ∀ p, H' p = none → D'.rt (.ref p) (upd H' p (.tup [.str z, .str x])) := fun {z x D' σ' H'} eD lk s p np => by
    rw [eD]
    exact q (.ref p) _ (by rw [lk]; exact ⟨p, rfl, upd_same⟩) (s.trans (same_new np))
  refine ⟨_, (pss_cons (ps_asg (pv 0) (pg_tupK K rfl rfl (pgs_cons (pg_name (i := 1) sc_law_due.nd rfl (Or.inl rfl)) (pgs_cons (pg_name (i := 2) sc_law_due.nd rfl (Or.inl rfl)) (pgs_cons (pg_name (i := 3) sc_law_due.nd rfl (Or.inl rfl)) (pgs_cons (pg_name (i := 4) sc_law_due.nd rfl (Or.inl rfl)) pgs_nil))))))
      (pss_cons (ps_set (i := 5) sc_law_due.nd rfl (Or.inl rfl) (pe_op op_cat (pe_callTy (call_list_ofK K rfl) (by rfl) T.m_list (by decide +kernel) (pa_cons (pv 1) pa_nil)) (pe_lc (own := [("_law_name", 6), ("_law_tree_here", 7)]) (g := gTup K 2 (gCons (gName 6) (gCons (gName 7) gNil))) (tt := tYes) (by rfl) sc_law_due.nd (pi_tupK K rfl (pv 3)) (blkOk_by (own := [("_law_name", 6), ("_law_tree_here", 7)]) (N := N_law_due) (sc := defScope s_law_due) (by decide +kernel)) (fun _ _ _ _ _ => (pg_tupK K rfl rfl (pgs_cons (pg_name (i := 6) sc_law_due.nd rfl (Or.inl rfl)) (pgs_cons (pg_name (i := 7) sc_law_due.nd rfl (Or.inl rfl)) pgs_nil)))) (fun _ _ _ _ _ => pts_nil) (fun _ _ _ _ _ => (pv 6)))))
      (pss_cons (ps_setLc (i := 8) (own := [("_law_name", 6), ("_law_things", 9)]) (g := gTup K 2 (gCons (gName 6) (gCons (gName 9) gNil))) (tt := tYes) (by rfl) sc_law_due.nd rfl rfl (sw_true rfl rfl rfl (by decide +kernel)) (pi_tupK K rfl (pv 2)) (blkOk_by (own := [("_law_name", 6), ("_law_things", 9)]) (N := N_law_due) (sc := defScope s_law_due) (by decide +kernel)) (fun _ _ _ _ _ => (pg_tupK K rfl rfl (pgs_cons (pg_name (i := 6) sc_law_due.nd rfl (Or.inl rfl)) (pgs_cons (pg_name (i := 9) sc_law_due.nd rfl (Or.inl rfl)) pgs_nil)))) (fun _ _ _ _ _ => pts_nil) (fun _ _ _ _ _ => (pv 6)))
      (PSs.to (pss_cons (ps_for PassesOwn.never rfl (pi_listK K rfl (pe_lst (pa_cons (pe_tup (pa_cons pe_str (pa_cons (pv 5) pa_nil))) (pa_cons (pe_tup (pa_cons pe_str (pa_cons (pv 8) pa_nil))) pa_nil)))) (pg_tupK K rfl rfl (pgs_cons (pg_name (i := 10) sc_law_due.nd rfl (Or.inl rfl)) (pgs_cons (pg_name (i := 11) sc_law_due.nd rfl (Or.inl rfl)) pgs_nil)))
        (pss_one (ps_for PassesOwn.never rfl (pi_range1 (by rfl) T.m_range (pa_cons (pe_callB (call_len_seqK K rfl) (by rfl) T.m_len (by decide +kernel) (pa_cons (pv 11) pa_nil)) pa_nil)) (pg_name (i := 12) sc_law_due.nd rfl (Or.inl rfl))
        (pss_one (ps_if (pt_cmpR (op_in_seqK K rfl) (pe_ix (ix_listK K rfl) (pv 11) (pv 12) (fun _ _ => rfl)) (pe_slice (sl_listK K rfl) (pv 11) po_none (po_some (pv 12))) (by with_unfolding_all rfl)) (pss_one (ps_ret (pe_tup (pa_cons (pv 10) (pa_cons (pe_ix (ix_listK K rfl) (pv 11) (pv 12) (fun _ _ => rfl)) pa_nil))))) pss_nil)))))
      (PSs.to (pss_cons (ps_set (i := 13) sc_law_due.nd rfl (Or.inl rfl) (pv 8))
      (pss_cons (ps_for PassesOwn.never rfl (pi_tupK K rfl (pv 3)) (pg_tupK K rfl rfl (pgs_cons (pg_name (i := 6) sc_law_due.nd rfl (Or.inl rfl)) (pgs_cons (pg_name (i := 7) sc_law_due.nd rfl (Or.inl rfl)) pgs_nil)))
        (pss_one (ps_set (i := 13) sc_law_due.nd rfl (Or.inl rfl) (pe_op op_cat (pv 13) (pe_lc (own := [("_law_other", 14), ("_law_ago", 15)]) (g := gTup K 2 (gCons (gName 14) (gCons (gName 15) gNil))) (tt := tYes) (by rfl) sc_law_due.nd (pi_listK K rfl (pe_call G_law_uses (hr.mono (by decide)) (by rfl) m_law_uses F_law_uses.kp b_law_uses .nil pass0 (pa_cons (pv 7) pa_nil))) (blkOk_by (own := [("_law_other", 14), ("_law_ago", 15)]) (N := N_law_due) (sc := defScope s_law_due) (by decide +kernel)) (fun _ _ _ _ _ => (pg_tupK K rfl rfl (pgs_cons (pg_name (i := 14) sc_law_due.nd rfl (Or.inl rfl)) (pgs_cons (pg_name (i := 15) sc_law_due.nd rfl (Or.inl rfl)) pgs_nil)))) (fun _ _ _ _ _ => pts_nil) (fun _ _ _ _ _ => (pv 14)))))))
      (PSs.to (pss_cons (ps_for PassesOwn.never rfl (pi_listK K rfl (pe_op op_cat (pv 13) (pe_callTy (call_list_ofK K rfl) (by rfl) T.m_list (by decide +kernel) (pa_cons (pv 4) pa_nil)))) (pg_name (i := 6) sc_law_due.nd rfl (Or.inl rfl))
        (pss_one (ps_if (pt_cmpR (op_notIn_seqK K rfl) (pv 6) (pv 5) (by with_unfolding_all rfl)) (pss_one (ps_ret (pe_tup (pa_cons pe_str (pa_cons (pv 6) pa_nil))))) pss_nil)))
      (PSs.to (pss_cons (ps_set (i := 6) sc_law_due.nd rfl (Or.inl rfl) (pe_call G_law_hangs (hr.mono (by decide)) (by rfl) m_law_hangs F_law_hangs.kp b_law_hangs .nil pass0 (pa_cons (pv 0) pa_nil)))
      (pss_cons (ps_if (pt_cmpR op_notN (pv 6) pe_non (nomark _)) (pss_one (ps_ret (pe_tup (pa_cons pe_str (pa_cons (pv 6) pa_nil))))) pss_nil)
      (pss_one (ps_ret pe_str)))) R4 ?tail4)) R3 ?tail3))) R2 ?tail2)) R1 ?tail1)))), ?_⟩
  case tail4 =>
    rintro D' σ' H1 ⟨eD, O, Kp, v6, v7, v10, v11, v12, v13, rfl, s1, n1, n2, n3⟩
    have ndR : (F.rules.map (·.1)).Nodup := by
      have := dup_nodup n1
      unfold Fm.own at this
      exact (List.nodup_append.mp this).2.1
    refine ⟨_, rfl, r, F, rfl, hF0.keep (TK.same s1), ok, ndR, tr, fun H2 s2 => ?_⟩
    have s12 := s1.trans s2
    cases n4 : ringO F.rules with
    | none =>
      refine ⟨_, rfl, rfl, _, rfl, if_bl (fun z => nomatch z) (fun _ => ?_)⟩
      have lk : lookO F = none := by unfold lookO; rw [n1]; dsimp only; rw [n2]; dsimp only; rw [n3]; dsimp only; rw [n4]
      show D'.rt _ H2
      rw [eD]
      exact q _ H2 (by rw [lk]; rfl) s12
    | some x =>
      refine ⟨_, rfl, rfl, _, rfl, if_bl (fun _ => ?_) (fun z => nomatch z)⟩
      have lk : lookO F = some (("ring" : Str), x) := by unfold lookO; rw [n1]; dsimp only; rw [n2]; dsimp only; rw [n3]; dsimp only; rw [n4]
      exact ⟨_, rfl, (by show 2 ≤ sizeLine; decide), fun p np => told (σ' := []) eD lk s12 p np⟩
  case tail3 =>
    rintro D' σ' H1 ⟨eD, O, Kp, U, v6, v7, v10, v11, v12, rfl, hO, hU, s1, n1, n2⟩
    have lus : (F.rules.flatMap (fun p => p.2.leans.map (·.1))).length ≤ 1000 := by
      have key : ∀ l : List (Str × Tr), (∀ p ∈ l, p.2.parts.length ≤ 10) → (l.flatMap (fun p => p.2.leans.map (·.1))).length ≤ 10 * l.length := by
        intro l
        induction l with
        | nil => intro _; exact Nat.le_refl _
        | cons x r ih =>
          intro h
          rw [List.flatMap_cons, List.length_append, List.length_map, List.length_cons]
          have h1 := leans_len x.2
          have h2 := h x (List.mem_cons_self ..)
          have h3 := ih fun p hp => h p (List.mem_cons_of_mem _ hp)
          omega
      have := key F.rules tr
      have := ok.lr
      omega
    refine ⟨_, rfl, _, rfl, a4, _, rfl, .inr (SqT.of (s1 _ _ e6)), fun D nD => ?_⟩
    have s2 : Same H1 (upd H1 D (.lst (F.outs.map V.str))) := same_new nD
    refine ⟨U, D, _, _, rfl, rfl, s2 _ _ hU, upd_same, ?_, fun N nN => ?_⟩
    · have h2 := ok.lo
      rw [List.length_map, List.length_append, List.length_map, sizeLine_eq]
      omega
    have s3 := s2.trans (same_new (o := .lst ((F.kept ++ F.rules.flatMap (fun p => p.2.leans.map (·.1))).map V.str ++ F.outs.map V.str)) nN)
    have hN : (upd (upd H1 D (.lst (F.outs.map V.str))) N (.lst ((F.kept ++ F.rules.flatMap (fun p => p.2.leans.map (·.1))).map V.str ++ F.outs.map V.str))) N = some (.lst (F.used.map V.str)) := by
      rw [upd_same, ← List.map_append]; rfl
    generalize upd (upd H1 D (.lst (F.outs.map V.str))) N (.lst ((F.kept ++ F.rules.flatMap (fun p => p.2.leans.map (·.1))).map V.str ++ F.outs.map V.str)) = H3 at s3 hN ⊢
    have hO3 := s3 _ _ hO
    refine ⟨N, rfl, ⟨_, SqL.of hN⟩, for_list (K := K) (a := N) (xs := F.used.map V.str) (fun i σ H5 => ∃ v6 : Option V, σ = sg O Kp v6 v7 v10 v11 v12 (some (.ref U)) ∧ H5 = H3 ∧ ∀ (j : Nat) (y : Str), j < i → F.used[j]? = some y → y ∈ F.own) ⟨_, rfl, rfl, fun j y z => absurd z (Nat.not_lt_zero _)⟩ (fun i σ H5 _ ⟨_, _, e, _⟩ => e ▸ SqL.of hN) ?_ ?_⟩
    · rintro i v σ H5 hx ⟨v6, rfl, rfl, no⟩
      rw [List.getElem?_map] at hx
      cases hk : F.used[i]? with
      | none => rw [hk] at hx; cases hx
      | some x =>
      rw [hk] at hx
      obtain rfl : V.str x = v := Option.some.inj hx
      refine ⟨_, rfl, _, rfl, O, _, rfl, .inl (SqL.of hO3), rfl, flat_strs _, _, rfl, ?_⟩
      by_cases m : x ∈ F.own
      · rw [show inV (.str x) (F.own.map V.str) = true from inV_strs.mpr m]
        refine if_bl (fun z => nomatch z) (fun _ => ?_)
        refine ⟨_, rfl, rfl, fun j y hj ey => ?_⟩
        by_cases z : j = i
        · subst z
          rw [hk] at ey
          obtain rfl := Option.some.inj ey
          exact m
        · exact no j y (by omega) ey
      · rw [show inV (.str x) (F.own.map V.str) = false from Bool.eq_false_iff.mpr fun z => m (inV_strs.mp z)]
        refine if_bl (fun _ => ?_) (fun z => nomatch z)
        have lk : lookO F = some (("lost" : Str), x) := by
          unfold lookO
          rw [n1]; dsimp only; rw [n2]; dsimp only
          rw [show lostO F.used F.own = some x from find_at (p := fun z => decide (z ∉ F.own)) hk (decide_eq_true m) fun j y hj ey => decide_eq_false fun z => z (no j y hj ey)]
        exact ⟨_, rfl, (by show 2 ≤ sizeLine; decide), fun p np => told (σ' := []) eD lk (s1.trans s3) p np⟩
    · rintro σ H5 ⟨v6, rfl, rfl, no⟩
      refine ⟨eD, O, Kp, _, _, _, _, _, _, rfl, s1.trans s3, n1, n2, ?_⟩
      unfold lostO
      rw [List.find?_eq_none]
      intro y hy z
      obtain ⟨j, ej⟩ := List.getElem?_of_mem hy
      exact of_decide_eq_true z (no j y (by rw [List.length_map]; exact (List.getElem?_eq_some_iff.mp ej).1) ej)
  case tail2 =>
    rintro D' σ' H1 ⟨eD, O, Kp, v10, v11, v12, rfl, hO, hK, s1, n1, n2⟩
    have lus : ∀ i, ((F.rules.take i).flatMap (fun p => p.2.leans.map (·.1))).length ≤ 1000 := fun i => by
      have key : ∀ l : List (Str × Tr), (∀ p ∈ l, p.2.parts.length ≤ 10) → (l.flatMap (fun p => p.2.leans.map (·.1))).length ≤ 10 * l.length := by
        intro l
        induction l with
        | nil => intro _; exact Nat.le_refl _
        | cons x r ih =>
          intro h
          rw [List.flatMap_cons, List.length_append, List.length_map, List.length_cons]
          have h1 := leans_len x.2
          have h2 := h x (List.mem_cons_self ..)
          have h3 := ih fun p hp => h p (List.mem_cons_of_mem _ hp)
          omega
      have h1 := key (F.rules.take i) fun p hp => tr p (List.mem_of_mem_take hp)
      have := ok.lr
      rw [List.length_take] at h1
      omega
    refine ⟨_, rfl, ?_⟩
    refine ⟨_, rfl, a3, rfl, ⟨_, SqT.of (s1 _ _ e4)⟩, for_tup (K := K) (a := a3) (xs := rv) (fun i σ H5 => ∃ (U : Addr) (v6 v7 : Option V), σ = sg O Kp v6 v7 v10 v11 v12 (some (.ref U)) ∧ H5 U = some (.lst ((F.kept ++ (F.rules.take i).flatMap (fun p => p.2.leans.map (·.1))).map V.str)) ∧ Same H1 H5) ⟨Kp, none, none, rfl, by rw [List.take_zero, List.flatMap_nil, List.append_nil]; exact hK, Same.refl _⟩ (fun i σ H5 _ ⟨_, _, _, _, _, s5⟩ => SqT.of (s5 _ _ (s1 _ _ e4))) ?_ ?_⟩
    · rintro i v σ H5 hx ⟨U, v6, v7, rfl, hU, s15⟩
      have s5 := s1.trans s15
      obtain ⟨p, hp, t, x, rfl, ht, hxt⟩ := e5.getL hx
      have lp := tr p (List.mem_of_getElem? hp)
      refine ⟨t, _, rfl, SqT.of (s5 _ _ ht), rfl, _, _, rfl, _, _, rfl, rfl, ?_⟩
      refine ⟨_, rfl, _, rfl, x, p.2, rfl, hxt.keep (TK.same s5), Nat.le_trans p.2.dep_parts lp, by omega, fun p1 pv1 H6 n1 h1 al s6 => ?_⟩
      refine ⟨p1, rfl, ⟨_, SqL.of h1⟩, fun D nD => ?_⟩
      refine lc_list (K := K) (a := p1) (xs := pv1) (fun i H9 => H9 D = some (.lst (((p.2.leans.take i).map (·.1)).map V.str)) ∧ Same H6 H9) ⟨upd_same, same_new nD⟩ (fun i H9 _ ⟨_, s9⟩ => SqL.of (s9 _ _ h1)) ?_ ?_
      · rintro j z H9 hz ⟨hD, s9⟩
        obtain ⟨u, hu, b, rfl, hb⟩ := al.getL hz
        refine ⟨b, _, rfl, SqT.of (s9 _ _ hb), rfl, _, _, rfl, _, _, rfl, rfl, rfl, yes_in ⟨_, rfl, _, hD, ?_, ?_, Same.own s9 nD⟩⟩
        · have := leans_len p.2
          rw [List.length_map, List.length_map, List.length_take]
          exact small1000 (by omega)
        · rw [upd_same, List.take_add_one, hu, List.map_append, List.map_append]
          rfl
      rintro H9 ⟨hD, s9⟩
      rw [al.length, List.take_length] at hD
      have s69 := s6.trans s9
      refine ⟨U, D, _, _, rfl, rfl, s69 _ _ hU, hD, ?_, fun N nN => ?_⟩
      · have h1 := lus i
        have h2 := leans_len p.2
        rw [List.length_map, List.length_append, List.length_map, List.length_map, sizeLine_eq]
        omega
      · refine ⟨N, _, _, rfl, ?_, (s15.trans s69).trans (same_new nN)⟩
        rw [upd_same, ← List.map_append, List.take_add_one, hp, List.flatMap_append, List.append_assoc]
        rw [show (some p).toList = [p] from rfl, List.flatMap_singleton]
    · rintro σ H5 ⟨U, v6, v7, rfl, hU, s15⟩
      rw [e5.length, List.take_length] at hU
      exact ⟨eD, O, Kp, U, v6, v7, v10, v11, v12, rfl, s15 _ _ hO, hU, s1.trans s15, n1, n2⟩
  case tail1 =>
    rintro D' σ' H1 ⟨eD, O, Kp, rfl, hO, hK, s1⟩
    refine ⟨_, rfl, (by show 2 ≤ sizeLine; decide), fun t1 nt1 => ⟨_, rfl, (by show 2 ≤ sizeLine; decide), fun t2 nt2 => ⟨(by show 2 ≤ sizeLine; decide), fun L nL => ?_⟩⟩⟩
    generalize e3 : upd (upd (upd H1 t1 _) t2 _) L _ = H3
    have s13 : Same H1 H3 := by rw [← e3]; exact ((same_new nt1).trans (same_new nt2)).trans (same_new nL)
    have hL : H3 L = some (.lst [.ref t1, .ref t2]) := by rw [← e3]; exact upd_same
    have ht2 : H3 t2 = some (.tup [.str "again", .ref Kp]) := by rw [← e3]; exact same_new nL _ _ upd_same
    have ht1 : H3 t1 = some (.tup [.str "twice", .ref O]) := by rw [← e3]; exact same_new nL _ _ (same_new nt2 _ _ upd_same)
    clear e3
    have hO3 := s13 _ _ hO
    have hK3 := s13 _ _ hK
    have s3 := s1.trans s13
    refine ⟨L, rfl, ⟨_, SqL.of hL⟩, for_list (K := K) (a := L) (xs := [.ref t1, .ref t2]) (fun i σ H5 => ∃ v10 v11 v12 : Option V, σ = sg O Kp none none v10 v11 v12 none ∧ Same H3 H5 ∧ (1 ≤ i → dupO F.own = none) ∧ (2 ≤ i → dupO F.kept = none)) ⟨none, none, none, rfl, Same.refl _, (fun z => absurd z (by decide)), (fun z => absurd z (by decide))⟩ (fun i σ H5 _ ⟨_, _, _, _, s5, _⟩ => SqL.of (s5 _ _ hL)) ?_ ?_⟩
    · rintro i v σ H5 hx ⟨v10, v11, v12, rfl, s5, d1, d2⟩
      obtain ⟨t, wd, l, zs, rfl, ht, hl, lz, stop, nxt1, nxt2⟩ : ∃ (t : Addr) (wd : Str) (l : Addr) (zs : List Str), v = .ref t ∧ H3 t = some (.tup [.str wd, .ref l]) ∧ H3 l = some (.lst (zs.map V.str)) ∧ zs.length ≤ 200 ∧ (∀ x, dupO zs = some x → lookO F = some (wd, x)) ∧ (1 ≤ i + 1 → dupO zs = none → dupO F.own = none) ∧ (2 ≤ i + 1 → dupO zs = none → dupO F.kept = none) := by
        match i, hx with
        | 0, hx =>
          obtain rfl := Option.some.inj hx
          exact ⟨t1, "twice", O, F.own, rfl, ht1, hO3, lo, fun x e => by unfold lookO; rw [e], fun _ e => e, fun z => absurd z (by decide)⟩
        | 1, hx =>
          obtain rfl := Option.some.inj hx
          exact ⟨t2, "again", Kp, F.kept, rfl, ht2, hK3, by omega, fun x e => by unfold lookO; rw [d1 (by decide)]; dsimp only; rw [e], fun _ _ => d1 (by decide), fun _ e => e⟩
        | i + 2, hx => cases hx
      refine ⟨t, _, rfl, SqT.of (s5 _ _ ht), rfl, _, _, rfl, _, _, rfl, rfl, ?_⟩
      refine ⟨_, rfl, l, _, rfl, .inl (SqL.of (s5 _ _ hl)), _, rfl, by omega, by rw [List.length_map]; omega, for_range (lo := 0) (n := (zs.map V.str).length) (fun j σ H6 => ∃ v12 : Option V, σ = sg O Kp none none (some (.str wd)) (some (.ref l)) v12 none ∧ Same H3 H6 ∧ ∀ k, k < j → dupB zs k = false) ⟨v12, rfl, s5, fun k z => absurd z (Nat.not_lt_zero _)⟩ ?_ ?_⟩
      · rintro j σ H6 hj ⟨v12, rfl, s6, no⟩
        rw [Int.zero_add]
        rw [List.length_map] at hj
        have ej : zs[j]? = some zs[j] := List.getElem?_eq_getElem hj
        have ejv : (zs.map V.str)[j]? = some (.str zs[j]) := by rw [List.getElem?_map, ej]; rfl
        refine ⟨_, rfl, _, rfl, l, _, _, _, rfl, rfl, SqL.of (s6 _ _ hl), atI_nat ejv, _, rfl, ?_⟩
        dsimp only [tNoPart]
        refine ⟨_, rfl, _, rfl, l, _, rfl, SqL.of (s6 _ _ hl), fun p np => ?_⟩
        rw [cut_take, ← List.map_take]
        have s7 : Same H6 (upd H6 p (.lst ((zs.take j).map V.str))) := same_new np
        have hp : (upd H6 p (.lst ((zs.take j).map V.str))) p = some (.lst ((zs.take j).map V.str)) := upd_same
        generalize upd H6 p (.lst ((zs.take j).map V.str)) = H7 at s7 hp ⊢
        have s37 := s6.trans s7
        refine ⟨p, _, rfl, .inl (SqL.of hp), rfl, flat_strs _, _, rfl, ?_⟩
        have db : dupB zs j = inV (.str zs[j]) ((zs.take j).map V.str) := by
          unfold dupB
          rw [ej, Bool.eq_iff_iff, inV_strs]
          exact decide_eq_true_iff
        show (if inV (.str zs[j]) ((zs.take j).map V.str) = true then _ else _)
        rw [← db]
        refine if_bl (fun c => ?_) (fun c => ?_)
        · have dz : dupO zs = some zs[j] := by
            unfold dupO
            rw [firstN_at hj c no]
            exact ej
          exact ⟨_, rfl, _, rfl, _, rfl, l, _, _, _, rfl, rfl, SqL.of (s37 _ _ hl), atI_nat ejv, (by show 2 ≤ sizeLine; decide), fun p2 np2 => told (σ' := []) eD (stop _ dz) (s3.trans s37) p2 np2⟩
        · refine ⟨_, rfl, s37, fun k hk => ?_⟩
          by_cases z : k = j
          · rw [z]; exact c
          · exact no k (by omega)
      · rintro σ H6 ⟨v12, rfl, s6, no⟩
        rw [List.length_map] at no
        have dz : dupO zs = none := by
          unfold dupO
          rw [firstN_none no]; rfl
        exact ⟨_, _, _, rfl, s6, fun z => nxt1 z dz, fun z => nxt2 z dz⟩
    · rintro σ H5 ⟨v10, v11, v12, rfl, s5, d1, d2⟩
      exact ⟨eD, O, Kp, v10, v11, v12, rfl, s5 _ _ hO3, s5 _ _ hK3, s3.trans s5, d1 (by show 1 ≤ 2; decide), d2 (by show 2 ≤ 2; decide)⟩
  refine ⟨_, rfl, r, _, rfl, SqT.of e0, rfl, _, _, rfl, _, _, rfl, _, _, rfl, _, _, rfl, rfl, ?_⟩
  refine ⟨_, rfl, a1, _, rfl, .inr (SqT.of e1), fun L1 n1 => ?_⟩
  have s1 : Same H (upd H L1 (.lst (F.ins.map V.str))) := same_new n1
  have hL1 : (upd H L1 (.lst (F.ins.map V.str))) L1 = some (.lst (F.ins.map V.str)) := upd_same
  generalize upd H L1 (.lst (F.ins.map V.str)) = H1 at s1 hL1 ⊢
  refine ⟨_, rfl, a3, rfl, ⟨_, SqT.of (s1 _ _ e4)⟩, fun D nD => ?_⟩
  refine lc_tup (K := K) (a := a3) (xs := rv) (fun i H9 => H9 D = some (.lst (((F.rules.take i).map (·.1)).map V.str)) ∧ Same H1 H9) ⟨upd_same, same_new nD⟩ (fun i H9 _ ⟨_, s9⟩ => SqT.of (s9 _ _ (s1 _ _ e4))) ?_ ?_
  · rintro j z H9 hz ⟨hD, s9⟩
    obtain ⟨u, hu, b, c, rfl, hb, _⟩ := e5.getL hz
    refine ⟨b, _, rfl, SqT.of (s9 _ _ (s1 _ _ hb)), rfl, _, _, rfl, _, _, rfl, rfl, rfl, yes_in ⟨_, rfl, _, hD, ?_, ?_, Same.own s9 nD⟩⟩
    · have := ok.lr
      rw [List.length_map, List.length_map, List.length_take]
      exact small1000 (by omega)
    · rw [upd_same, List.take_add_one, hu, List.map_append, List.map_append]
      rfl
  rintro H2 ⟨hD, s2⟩
  rw [e5.length, List.take_length] at hD
  refine ⟨L1, D, _, _, rfl, rfl, s2 _ _ hL1, hD, ?_, fun p np => ?_⟩
  · rw [← List.length_append, ← List.map_append, List.length_map]
    exact little (by unfold Fm.own at lo; omega)
  have s12 := s1.trans s2
  have s3 : Same H2 (upd H2 p (.lst (F.ins.map V.str ++ (F.rules.map (·.1)).map V.str))) := same_new np
  have hp : (upd H2 p (.lst (F.ins.map V.str ++ (F.rules.map (·.1)).map V.str))) p = some (.lst (F.own.map V.str)) := by
    rw [upd_same, ← List.map_append]; rfl
  generalize upd H2 p (.lst (F.ins.map V.str ++ (F.rules.map (·.1)).map V.str)) = H3 at s3 hp ⊢
  have s13 := s12.trans s3
  refine ⟨_, rfl, a2, rfl, ⟨_, SqT.of (s13 _ _ e2)⟩, fun C nC => ?_⟩
  refine lc_tup (K := K) (a := a2) (xs := wv) (fun i H9 => H9 C = some (.lst (((F.was.take i).map (·.1)).map V.str)) ∧ Same H3 H9) ⟨upd_same, same_new nC⟩ (fun i H9 _ ⟨_, s9⟩ => SqT.of (s9 _ _ (s13 _ _ e2))) ?_ ?_
  · rintro j z H9 hz ⟨hC, s9⟩
    obtain ⟨u, hu, b, c, rfl, hb, _⟩ := e3.getL hz
    refine ⟨b, _, rfl, SqT.of (s9 _ _ (s13 _ _ hb)), rfl, _, _, rfl, _, _, rfl, rfl, rfl, yes_in ⟨_, rfl, _, hC, ?_, ?_, Same.own s9 nC⟩⟩
    · have := ok.lw
      rw [List.length_map, List.length_map, List.length_take]
      exact small1000 (by omega)
    · rw [upd_same, List.take_add_one, hu, List.map_append, List.map_append]
      rfl
  rintro H5 ⟨hC, s5⟩
  rw [e3.length, List.take_length] at hC
  exact ⟨rfl, p, C, rfl, s5 _ _ hp, hC, s13.trans s5⟩
end
/-! ### formulas as data, and what is told -/
def trD : Tr → PyData
  | .nm n k => .tuple [.str "name", .str n, .int ((k : Nat) : Int)]
  | .no i => .tuple [.str "number", .int i]
  | .tm k t => .tuple [.str "times", .int k, trD t]
  | .o2 w a b => .tuple [.str w.s, trD a, trD b]
  | .o3 a b c => .tuple [.str "pick", trD a, trD b, trD c]
abbrev waD (p : Str × List Int) : PyData := .tuple [.str p.1, .tuple (p.2.map PyData.int)]
abbrev rlD (p : Str × Tr) : PyData := .tuple [.str p.1, trD p.2]
abbrev fmD (F : Fm) : PyData := .tuple [.tuple (F.ins.map PyData.str), .tuple (F.was.map waD), .tuple (F.rules.map rlD), .tuple (F.outs.map PyData.str)]
theorem TrAt.dp {K : PySem.W.Frag} {H : Hp} : ∀ {t : Tr} {v : V}, TrAt H v t → Dp K H v (trD t) := by
  intro t
  induction t with
  | nm n i => intro v h; obtain ⟨a, rfl, e⟩ := h; exact .tup (SqT.of e) (.cons (.str _) (.cons (.str _) (.cons (.int _) .nil)))
  | no i => intro v h; obtain ⟨a, rfl, e⟩ := h; exact .tup (SqT.of e) (.cons (.str _) (.cons (.int _) .nil))
  | tm i t ih => intro v h; obtain ⟨a, x, rfl, e, h⟩ := h; exact .tup (SqT.of e) (.cons (.str _) (.cons (.int _) (.cons (ih h) .nil)))
  | o2 w s t i1 i2 => intro v h; obtain ⟨a, x, y, rfl, e, h, g⟩ := h; exact .tup (SqT.of e) (.cons (.str _) (.cons (i1 h) (.cons (i2 g) .nil)))
  | o3 s t u i1 i2 i3 => intro v h; obtain ⟨a, x, y, z, rfl, e, h, g, i⟩ := h; exact .tup (SqT.of e) (.cons (.str _) (.cons (i1 h) (.cons (i2 g) (.cons (i3 i) .nil))))
theorem was_dp {K : PySem.W.Frag} {H : Hp} {vs : List V} {l : List (Str × List Int)} (a : All2 (WaAt H) vs l) : DpAll K H vs (l.map waD) := by
  induction a with
  | nil => exact .nil
  | cons h t ih =>
    obtain ⟨p, b, rfl, e1, e2⟩ := h
    exact .cons (.tup (SqT.of e1) (.cons (.str _) (.cons (.tup (SqT.of e2) (dp_ints _)) .nil))) ih
theorem rls_dp {K : PySem.W.Frag} {H : Hp} {vs : List V} {l : List (Str × Tr)} (a : All2 (RlAt H) vs l) : DpAll K H vs (l.map rlD) := by
  induction a with
  | nil => exact .nil
  | cons h t ih =>
    obtain ⟨p, b, rfl, e1, e2⟩ := h
    exact .cons (.tup (SqT.of e1) (.cons (.str _) (.cons e2.dp .nil))) ih
theorem FmAt.dp {K : PySem.W.Frag} {H : Hp} {r : Addr} {F : Fm} (h : FmAt H r F) : Dp K H (.ref r) (fmD F) := by
  obtain ⟨a1, a2, a3, a4, wv, rv, e0, e1, e2, e3, e4, e5, e6⟩ := h
  exact .tup (SqT.of e0) (.cons (.tup (SqT.of e1) (dp_strs _)) (.cons (.tup (SqT.of e2) (was_dp e3)) (.cons (.tup (SqT.of e4) (rls_dp e5)) (.cons (.tup (SqT.of e6) (dp_strs _)) .nil))))
/-- a name that can be shown -/
structure Nm (z : Str) : Prop where
  lay : PyData.canLay0 (.str z) = true
  few : z.cps.size ≤ 9
theorem Wd.nm {m : Nat} {z : Str} (h : Wd m z) (l : m ≤ 9) : Nm z := ⟨h.lay, Nat.le_trans h.size l⟩
theorem W2.nm (w : W2) : Nm w.s := by cases w <;> exact ⟨by decide +kernel, by decide +kernel⟩
theorem tr_neat : ∀ {t : Tr}, t.small → (∀ q ∈ t.leans, Nm q.1 ∧ q.2 ≤ 1000) → Neat (trD t) t.dep (100 * t.parts.length) := by
  intro t
  induction t with
  | nm n k =>
    intro _ h
    obtain ⟨g1, g2⟩ := h (n, k) (List.mem_singleton.mpr rfl)
    exact (Neat.tup (.cons (Neat.str (x := "name") (n := 4) (dp := 0) (by decide +kernel) (by decide +kernel)) (.cons (Neat.str g1.lay g1.few) (.cons (Neat.int (i := ((k : Nat) : Int)) (by have : k ≤ 1000 := g2; omega)) .nil)))).mono (Nat.le_refl _) (by show _ ≤ 100 * 1; decide)
  | no i =>
    intro h _
    have h : Small i := h
    exact (Neat.tup (.cons (Neat.str (x := "number") (n := 6) (dp := 0) (by decide +kernel) (by decide +kernel)) (.cons (Neat.int (i := i) (by unfold Small at h; omega)) .nil))).mono (Nat.le_refl _) (by show _ ≤ 100 * 1; decide)
  | tm k t ih =>
    intro h g
    have i1 := ih h.2 g
    have h1 : (-9 : Int) ≤ k ∧ k ≤ 9 := h.1
    refine (Neat.tup (.cons (Neat.str (x := "times") (n := 5) (dp := t.dep) (by decide +kernel) (by decide +kernel)) (.cons (Neat.int (i := k) (by omega)) (.cons i1 .nil)))).mono (Nat.le_refl _) ?_
    rw [Tr.parts, List.length_append]
    show _ ≤ 100 * (_ + 1)
    omega
  | o2 w a b iha ihb =>
    intro h g
    have i1 := (iha h.1 fun q hq => g q (List.mem_append.mpr (.inl hq))).mono (Nat.le_max_left a.dep b.dep) (Nat.le_refl _)
    have i2 := (ihb h.2 fun q hq => g q (List.mem_append.mpr (.inr hq))).mono (Nat.le_max_right a.dep b.dep) (Nat.le_refl _)
    refine (Neat.tup (.cons (Neat.str (x := w.s) (n := 9) (dp := max a.dep b.dep) w.nm.lay w.nm.few) (.cons i1 (.cons i2 .nil)))).mono (Nat.le_refl _) ?_
    rw [Tr.parts, List.length_append, List.length_append]
    show _ ≤ 100 * (_ + 1)
    omega
  | o3 a b c iha ihb ihc =>
    intro h g
    have i1 := (iha h.1 fun q hq => g q (List.mem_append.mpr (.inl (List.mem_append.mpr (.inl hq))))).mono (Nat.le_max_left a.dep (max b.dep c.dep)) (Nat.le_refl _)
    have i2 := (ihb h.2.1 fun q hq => g q (List.mem_append.mpr (.inl (List.mem_append.mpr (.inr hq))))).mono (Nat.le_trans (Nat.le_max_left b.dep c.dep) (Nat.le_max_right a.dep (max b.dep c.dep))) (Nat.le_refl _)
    have i3 := (ihc h.2.2 fun q hq => g q (List.mem_append.mpr (.inr hq))).mono (Nat.le_trans (Nat.le_max_right b.dep c.dep) (Nat.le_max_right a.dep (max b.dep c.dep))) (Nat.le_refl _)
    refine (Neat.tup (.cons (Neat.str (x := "pick") (n := 9) (dp := max a.dep (max b.dep c.dep)) (by decide +kernel) (by decide +kernel)) (.cons i1 (.cons i2 (.cons i3 .nil))))).mono (Nat.le_refl _) ?_
    rw [Tr.parts, List.length_append, List.length_append, List.length_append]
    show _ ≤ 100 * (_ + 1)
    omega
/-- formulas that can be shown -/
structure SmF (F : Fm) : Prop where
  i : ∀ z ∈ F.ins, Nm z
  o : ∀ z ∈ F.outs, Nm z
  w : ∀ p ∈ F.was, Nm p.1 ∧ p.2.length ≤ 8 ∧ ∀ x ∈ p.2, Small x
  r : ∀ p ∈ F.rules, Nm p.1 ∧ p.2.small ∧ (∀ q ∈ p.2.leans, Nm q.1 ∧ q.2 ≤ 1000) ∧ p.2.parts.length ≤ 10
def SayD (d : PyData) : Prop := d.showable = true ∧ d.hasDict = false ∧ d.depth ≤ 60 ∧ d.shown.length ≤ sizeLine
theorem Neat.sayD {d : PyData} {dp n : Nat} (h : Neat d dp n) (k : dp ≤ 60) (m : n ≤ 1000000) : SayD d := ⟨h.say, h.nod, Nat.le_trans h.dep k, h.fits k m⟩
theorem fm_neat {F : Fm} (ok : FmOk F) (sm : SmF F) : Neat (fmD F) 15 250000 := by
  have s1 : ∀ l : List Str, (∀ z ∈ l, Nm z) → l.length ≤ 100 → Neat (.tuple (l.map PyData.str)) 14 1000 := fun l h ll =>
    (Neat.tup (NeatAll.map (f := PyData.str) (dp := 13) (n := 9) fun z hz => Neat.str (h z hz).lay (h z hz).few)).mono (Nat.le_refl _) (by omega)
  have s2 : Neat (.tuple (F.was.map waD)) 14 40000 := by
    refine (Neat.tup (NeatAll.map (f := waD) (dp := 13) (n := 399) fun p hp => ?_)).mono (Nat.le_refl _) (by have := ok.lw; omega)
    obtain ⟨g1, g2, g3⟩ := sm.w p hp
    have t1 := Neat.tup (NeatAll.map (f := PyData.int) (dp := 11) (n := 41) (l := p.2) fun x hx => Neat.int (by have := g3 x hx; unfold Small at this; omega))
    exact (Neat.tup (.cons (Neat.str (dp := 12) g1.lay g1.few) (.cons t1 .nil))).mono (Nat.le_refl _) (by omega)
  have s3 : Neat (.tuple (F.rules.map rlD)) 14 150000 := by
    refine (Neat.tup (NeatAll.map (f := rlD) (dp := 13) (n := 1100) fun p hp => ?_)).mono (Nat.le_refl _) (by have := ok.lr; omega)
    obtain ⟨g1, g2, g3, g4⟩ := sm.r p hp
    have t1 := (tr_neat g2 g3).mono (c := 12) (e := 1000) (by have := p.2.dep_parts; omega) (by omega)
    exact (Neat.tup (.cons (Neat.str (dp := 12) g1.lay g1.few) (.cons t1 .nil))).mono (Nat.le_refl _) (by omega)
  exact (Neat.tup (.cons (s1 _ sm.i ok.li) (.cons s2 (.cons s3 (.cons (s1 _ sm.o ok.lo) .nil))))).mono (Nat.le_refl _) (by decide)
theorem fm_say {F : Fm} (ok : FmOk F) (sm : SmF F) : SayD (fmD F) := (fm_neat ok sm).sayD (by decide) (by decide)
section
variable {P : Program} {w : World} {K : PySem.W.Frag} {mg : Str → Option Value} {base : Heap}
def sp_law_told (K : PySem.W.Frag) : Sp := fun vs H Q _ => ∃ (r : Addr) (F : Fm), vs = [.ref r] ∧ FmAt H r F ∧ FmOk F ∧ SayD (fmD F) ∧ ∀ (v : V) (H' : Hp), DueV H' v (lookO F) → Same H H' → Q v H'
theorem ok_law_told {f : Addr} {fd : FuncData} (F : Fun K "_law_told" "_law_told" s_law_told f fd) (T : Top w K mg) : FnG P w K mg base CX0 5 f fd ["_law_formulas_here"] (sp_law_told K) := by
  obtain ⟨f_look_formulas, fd_look_formulas, F_look_formulas, b_look_formulas, m_look_formulas⟩ := T.d_look_formulas
  have G_look_formulas := ok_look_formulas (P := P) (w := w) (base := base) F_look_formulas T
  obtain ⟨fdI, N⟩ := T.x_ns
  have GI := ok_NsInit (P := P) (w := w) (base := base) N
  refine Fun.okG F sc_law_told (fun vs H Q E h => ?_) (fun cdv A outer s H vs Q E hr hG h => ?_)
  · obtain ⟨r, F, rfl, _⟩ := h
    rfl
  obtain ⟨r, F, rfl, hF, ok, ⟨y1, y2, y3, y4⟩, q⟩ := h
  refine ⟨_, (pss_cons (ps_set (i := 1) sc_law_told.nd rfl (Or.inl rfl) pe_str)
      (pss_cons (ps_set (i := 2) sc_law_told.nd rfl (Or.inl rfl) (pe_callB (call_reprG K rfl hG hr.units) (by rfl) T.m_repr (by decide +kernel) (pa_cons (pv 0) pa_nil)))
      (pss_cons (ps_try_as (i := 3) rfl rfl sc_law_told.nd rfl rfl ⟨by rfl, by decide, .inl N.gC⟩ takes0
        (fun W pn xe tk _ => (pss_one (ps_if (pt_cmpR op_isB (pe_callS G_look_formulas (hr.mono (by decide)) (by rfl) m_look_formulas F_look_formulas.kp b_look_formulas (fun σ => passAt tk σ) (pa_cons (pv 0) pa_nil)) pe_bl (nomark _)) (pss_one (ps_set (i := 1) sc_law_told.nd rfl (Or.inl rfl) pe_str)) pss_nil)))
        (fun a oe cls d pn hz hf => (pss_cons (ps_set (i := 1) sc_law_told.nd rfl (Or.inl rfl) (pe_tup (pa_cons (pe_xf N.xf N.nw hz hf (pv 3)) (pa_cons (pe_xf N.xf N.na hz hf (pv 3)) pa_nil))))
      (pss_one (ps_if (PW.pt (pw_or (pt_not (pt_val (pe_callB (call_isF N.is_ hz hf) (by rfl) T.m_isinstance (by decide +kernel) (pa_cons (pv 3) (pa_cons (pe_glob (v := .ref (He.ga K "BeltError")) (by rfl) N.gB rfl) pa_nil))))) (pw_or1 (pt_val (pe_callB (call_isFT N.is_ hz hf) (by rfl) T.m_isinstance (by decide +kernel) (pa_cons (pv 3) (pa_cons (pe_tup (pa_cons (pe_glob (v := .ref (He.ga K "NoText")) (by rfl) T.x_NoText rfl) (pa_cons (pe_glob (v := .ref (He.ga K "NoRoom")) (by rfl) T.x_NoRoom rfl) (pa_cons (pe_glob (v := .ref (He.ga K "NoShift")) (by rfl) T.x_NoShift rfl) (pa_cons (pe_glob (v := .ref (He.ga K "NoName")) (by rfl) T.x_NoName rfl) (pa_cons (pe_glob (v := .ref (He.ga K "NoRow")) (by rfl) T.x_NoRow rfl) pa_nil)))))) pa_nil))))))) (pss_one (ps_set (i := 1) sc_law_told.nd rfl (Or.inl rfl) pe_str)) pss_nil)))))
      (pss_cons (ps_if (pt_cmpR op_ne (pe_callB (call_reprG K rfl hG hr.units) (by rfl) T.m_repr (by decide +kernel) (pa_cons (pv 0) pa_nil)) (pv 2) (nomark _)) (pss_one (ps_ret pe_str)) pss_nil)
      (pss_one (ps_ret (pv 1))))))), ?_⟩
  refine ⟨_, rfl, .ref r, _, rfl, hF.dp, y1, y2, y3, y4, ?_⟩
  refine ⟨_, rfl, ?_⟩
  dsimp only [tNil]
  refine ⟨r, F, rfl, hF, ok, fun H1 no s1 => ?_, fun d H1 z x eo hd s1 => ?_⟩
  · refine ⟨_, _, rfl, rfl, _, rfl, if_bl (fun _ => ?_) (fun z => nomatch z)⟩
    refine ⟨_, rfl, .ref r, _, rfl, (hF.keep (TK.same s1)).dp, y1, y2, y3, y4, _, rfl, rfl, _, rfl, ?_⟩
    rw [decide_eq_true rfl]
    exact if_bl (fun z => nomatch z) (fun _ => ⟨_, rfl, q _ _ (by rw [no]; rfl) s1⟩)
  · refine ⟨true, N.tc, fun _ a na => ?_, fun z => nomatch z⟩
    refine ⟨_, rfl, rfl, rfl, d, _, .str z, rfl, hd, rfl, _, rfl, rfl, rfl, d, _, .str x, rfl, hd, rfl, (by show 2 ≤ sizeLine; decide), fun p np => ?_⟩
    have u0 := same_new (o := .tup [V.str z, V.str x]) np
    have hd0 := u0 _ _ hd
    refine ⟨_, rfl, rfl, ⟨d, _, rfl, hd0⟩, V.ref (He.ga K "BeltError"), .ref (He.ga K "BeltError"), true, rfl, fun u r => r, N.kb, _, rfl, if_bl (fun z => nomatch z) (fun _ => ?_)⟩
    refine ⟨_, rfl, (by show 5 ≤ sizeLine; decide), fun tp ntp => ?_⟩
    have u1 := same_new (o := .tup [V.ref (He.ga K "NoText"), V.ref (He.ga K "NoRoom"), V.ref (He.ga K "NoShift"), V.ref (He.ga K "NoName"), V.ref (He.ga K "NoRow")]) ntp
    have hd1 := u1 _ _ hd0
    refine ⟨rfl, ⟨d, _, rfl, hd1⟩, tp, _, _, false, rfl, upd_same, .cons (.own _) (.cons (.own _) (.cons (.own _) (.cons (.own _) (.cons (.own _) .nil)))), N.ko, _, rfl, if_bl (fun z => nomatch z) (fun _ => ?_)⟩
    have s := s1.trans (u0.trans u1)
    refine ⟨_, rfl, .ref r, _, rfl, (hF.keep (TK.same s)).dp, y1, y2, y3, y4, _, rfl, rfl, _, rfl, ?_⟩
    rw [decide_eq_true rfl]
    exact if_bl (fun z => nomatch z) (fun _ => ⟨_, rfl, q _ _ (by rw [eo]; exact ⟨p, rfl, u1 _ _ upd_same⟩) s⟩)
end
/-! ### a leaf put in another one's place -/
def Tr.re : Tr → List Tr → Tr
  | .tm k _, [a] => .tm k a
  | .o2 w _ _, [a, b] => .o2 w a b
  | .o3 _ _ _, [a, b, c] => .o3 a b c
  | t, _ => t
theorem Tr.re_ok {t : Tr} {ts : List Tr} (h : ts.length = t.kids.length) (n1 : t.isNm = false) (n2 : t.isNo = false) : (t.re ts).hd = t.hd ∧ (t.re ts).kids = ts ∧ (t.re ts).isNm = false ∧ ((∀ u ∈ ts, u.small) → t.small → (t.re ts).small) := by
  cases t with
  | nm n k => cases n1
  | no i => cases n2
  | tm k t =>
    match ts, h with
    | [a], _ => exact ⟨rfl, rfl, rfl, fun s g => ⟨g.1, s a (by simp)⟩⟩
  | o2 w a b =>
    match ts, h with
    | [a, b], _ => exact ⟨rfl, rfl, rfl, fun s g => ⟨s a (by simp), s b (by simp)⟩⟩
  | o3 a b c =>
    match ts, h with
    | [a, b, c], _ => exact ⟨rfl, rfl, rfl, fun s g => ⟨s a (by simp), s b (by simp), s c (by simp)⟩⟩
/-- u' is u but for a leaf -/
structure Rep (q0 : Str × Nat) (u' u : Tr) : Prop where
  pt : u'.parts.length = u.parts.length
  sm : u.small → u'.small
  ln : ∀ q ∈ u'.leans, q ∈ u.leans ∨ q = q0
theorem Tr.kid_small {t u : Tr} (h : t.small) (m : u ∈ t.kids) : u.small := by
  cases t with
  | nm n k => cases m
  | no i => cases m
  | tm k t => rw [List.mem_singleton.mp m]; exact h.2
  | o2 w a b =>
    simp only [Tr.kids, List.mem_cons, List.not_mem_nil, or_false] at m
    rcases m with rfl | rfl
    · exact h.1
    · exact h.2
  | o3 a b c =>
    simp only [Tr.kids, List.mem_cons, List.not_mem_nil, or_false] at m
    rcases m with rfl | rfl | rfl
    · exact h.1
    · exact h.2.1
    · exact h.2.2
theorem rep_kids {q0 : Str × Nat} {t : Tr} {ts : List Tr} (n1 : t.isNm = false) (n2 : t.isNo = false) (h : All2 (Rep q0) ts t.kids) : Rep q0 (t.re ts) t := by
  obtain ⟨e1, e2, e3, e4⟩ := Tr.re_ok h.length n1 n2
  refine ⟨?_, fun s => e4 (fun u hu => ?_) s, fun q hq => ?_⟩
  · rw [Tr.parts_eq, Tr.parts_eq t, e2, List.length_append, List.length_append]
    congr 1
    clear e1 e2 e3 e4
    revert h
    generalize t.kids = ks
    intro h
    induction h with
    | nil => rfl
    | cons r _ ih => rw [List.flatMap_cons, List.flatMap_cons, List.length_append, List.length_append, r.pt, ih]
  · obtain ⟨i, ei⟩ := List.getElem?_of_mem hu
    obtain ⟨v, ev, r⟩ := h.getL ei
    exact r.sm (Tr.kid_small s (List.mem_of_getElem? ev))
  · rw [Tr.leans_kids e3, e2] at hq
    rw [Tr.leans_kids n1]
    obtain ⟨u, hu, hq⟩ := List.mem_flatMap.mp hq
    obtain ⟨i, ei⟩ := List.getElem?_of_mem hu
    obtain ⟨v, ev, r⟩ := h.getL ei
    exact (r.ln q hq).imp (fun z => List.mem_flatMap.mpr ⟨v, List.mem_of_getElem? ev, z⟩) id
section
variable {P : Program} {w : World} {K : PySem.W.Frag} {mg : Str → Option Value} {base : Heap}
def spL (K : PySem.W.Frag) : Nat → Sp
  | 0 => fun _ _ _ _ => False
  | n + 1 => fun vs H Q _ => ∃ (v : V) (sp lf : Addr) (t : Tr) (i : Int) (q0 : Str × Nat), vs = [v, .ref sp, .ref lf] ∧ TrAt H v t ∧ t.dep ≤ n + 1 ∧ H sp = some (.lst [.int i]) ∧ TrAt H (.ref lf) (.nm q0.1 q0.2) ∧ ∀ (v' : V) (t' : Tr) (i' : Int) (H' : Hp), TrAt H' v' t' → Rep q0 t' t → H' sp = some (.lst [.int i']) → But sp H H' → Q v' H'
theorem leaf_step {f : Addr} {fd : FuncData} (T : Top w K mg) (n : Nat) (below : ∀ (f : Addr) (fd : FuncData), Fun K "_law_put_leaf" "_law_put_leaf" s_law_put_leaf f fd → FnOk P w K mg base CX0 n f fd ["_law_tree_here", "_law_spot", "_law_leaf_here"] (spL K n)) (F : Fun K "_law_put_leaf" "_law_put_leaf" s_law_put_leaf f fd) :
    FnOk P w K mg base CX0 (n + 1) f fd ["_law_tree_here", "_law_spot", "_law_leaf_here"] (spL K (n + 1)) := by
  obtain ⟨f_law_put_leaf, fd_law_put_leaf, F_law_put_leaf, b_law_put_leaf, m_law_put_leaf⟩ := T.d_law_put_leaf
  have G_law_put_leaf := below f_law_put_leaf fd_law_put_leaf F_law_put_leaf
  refine F.ok sc_law_put_leaf (fun vs H Q E h => ?_) (fun cdv A outer s H vs Q E hr h => ?_)
  · obtain ⟨v, sp, lf, t, i, q0, rfl, _⟩ := h
    rfl
  obtain ⟨v, sp, lf, t, i, q0, rfl, ht, hdep, hsp, hlf, q⟩ := h
  obtain ⟨a, ks, rfl, ha, ak⟩ := ht.op
  obtain ⟨r, er, sort⟩ := t.hd_wd
  have ha0 := ha
  rw [er, List.cons_append] at ha
  have tkS : ∀ {H' : Hp}, But sp H H' → TK H H' := fun b x xs e => b x _ e (ne_of e hsp (fun z => nomatch z))
  refine ⟨_, (pss_cons (ps_if (pt_cmpR op_eq (pe_ix (ix_tupK K rfl) (pv 0) pe_int (fun _ _ => rfl)) pe_str (nomark _)) (pss_cons (ps_asg (pe_op op_sub (pe_ix (ix_listK K rfl) (pv 1) pe_int (fun _ _ => rfl)) pe_int) (pg_sub (pv 1) pe_int set_list))
      (pss_one (ps_ret (pe_ix (ix_listK K rfl) (pe_lst (pa_cons (pv 0) (pa_cons (pv 2) pa_nil))) (pe_callTy call_int1 (by rfl) T.m_int (by decide +kernel) (pa_cons (pe_cmpR op_eq (pe_ix (ix_listK K rfl) (pv 1) pe_int (fun _ _ => rfl)) (pe_un un_neg pe_int) (nomark _)) pa_nil)) (fun _ _ => rfl))))) pss_nil)
      (pss_cons (ps_if (pt_cmpR op_eq (pe_ix (ix_tupK K rfl) (pv 0) pe_int (fun _ _ => rfl)) pe_str (nomark _)) (pss_one (ps_ret (pv 0))) pss_nil)
      (pss_cons (ps_set (i := 3) sc_law_put_leaf.nd rfl (Or.inl rfl) (pe_lst pa_nil))
      (pss_cons (ps_for PassesOwn.never rfl (pi_tupK K rfl (pv 0)) (pg_name (i := 4) sc_law_put_leaf.nd rfl (Or.inl rfl))
        (pss_cons (ps_if (pt_val (pe_callB (call_isiKK K rfl) (by rfl) T.m_isinstance (by decide +kernel) (pa_cons (pv 4) (pa_cons (pe_bltn (v := .ty "tuple") (by rfl) T.m_tuple (by decide +kernel) rfl) pa_nil)))) (pss_one (ps_set (i := 4) sc_law_put_leaf.nd rfl (Or.inl rfl) (pe_call G_law_put_leaf (hr.mono (Nat.le_refl _)) (by rfl) m_law_put_leaf F_law_put_leaf.kp b_law_put_leaf .nil pass0 (pa_cons (pv 4) (pa_cons (pv 1) (pa_cons (pv 2) pa_nil)))))) pss_nil)
      (pss_one (ps_expr (pe_bmK K rfl PySem.F.plainAttrs_list PySem.F.slot_list_append PySem.F.type_list_append mt_append (pv 3) (pa_cons (pv 4) pa_nil))))))
      (pss_one (ps_ret (pe_callTy (call_tuple_ofK K rfl) (by rfl) T.m_tuple (by decide +kernel) (pa_cons (pv 3) pa_nil)))))))), ?_⟩
  refine ⟨_, rfl, a, _, _, _, rfl, rfl, SqT.of ha, atI_nat (j := 0) rfl, rfl, _, rfl, ?_⟩
  by_cases w1 : t.wd = "name"
  · rw [decide_eq_true (show V.str t.wd = V.str "name" by rw [w1])]
    refine if_bl (fun _ => ?_) (fun z => nomatch z)
    have un : t.isNm = true := by rw [t.wd_nm, decide_eq_true w1]
    refine ⟨_, rfl, sp, _, _, _, rfl, rfl, SqL.of hsp, atI_nat (j := 0) rfl, _, _, rfl, rfl, _, rfl, sp, _, _, 0, rfl, rfl, hsp, rfl, ?_⟩
    generalize e9 : upd H sp _ = H1
    have b1 : But sp H H1 := by rw [← e9]; exact But.refl.upd
    have h1 : H1 sp = some (.lst [.int (i - 1)]) := by rw [← e9]; exact upd_same
    clear e9
    have ht1 := ht.keep (tkS b1)
    have hlf1 := hlf.keep (tkS b1)
    refine ⟨_, rfl, _, rfl, (by show 2 ≤ sizeLine; decide), fun l nl => ?_⟩
    have nsl : sp ≠ l := ne_of_none h1 nl
    have s2 : Same H1 (upd H1 l (.lst [.ref a, .ref lf])) := same_new nl
    have hl : (upd H1 l (.lst [.ref a, .ref lf])) l = some (.lst [.ref a, .ref lf]) := upd_same
    have h2 := s2 _ _ h1
    generalize upd H1 l (.lst [.ref a, .ref lf]) = H2 at s2 hl h2 ⊢
    refine ⟨_, rfl, sp, _, _, _, rfl, rfl, SqL.of h2, atI_nat (j := 0) rfl, _, rfl, rfl, .inr ⟨_, rfl, ?_⟩⟩
    have fin : ∀ (v' : V) (t' : Tr), TrAt H2 v' t' → Rep q0 t' t → Q v' H2 := fun v' t' h g => q v' t' (i - 1) H2 h g h2 (b1.same s2)
    by_cases z : V.int (i - 1) = V.int (-1)
    · refine ⟨l, _, 1, _, rfl, ?_, SqL.of hl, atI_nat (j := 1) rfl, ?_⟩
      · rw [decide_eq_true (show V.int (i - 1) = V.int (-1) from z)]; rfl
      · refine fin (.ref lf) _ (hlf1.keep (TK.same s2)) ?_
        cases t with
        | nm nn k => exact ⟨rfl, fun _ => trivial, fun q hq => .inr (by rw [List.mem_singleton.mp hq])⟩
        | _ => cases un
    · refine ⟨l, _, 0, _, rfl, ?_, SqL.of hl, atI_nat (j := 0) rfl, ?_⟩
      · rw [decide_eq_false (show ¬ V.int (i - 1) = V.int (-1) from z)]; rfl
      · exact fin (.ref a) t (ht1.keep (TK.same s2)) ⟨rfl, fun z => z, fun q hq => .inl hq⟩
  rw [decide_eq_false (show ¬ V.str t.wd = V.str "name" from fun z => w1 (V.str.inj z))]
  refine if_bl (fun z => nomatch z) (fun _ => ?_)
  have un : t.isNm = false := by rw [t.wd_nm, decide_eq_false w1]
  refine ⟨_, rfl, a, _, _, _, rfl, rfl, SqT.of ha, atI_nat (j := 0) rfl, rfl, _, rfl, ?_⟩
  by_cases w2 : t.wd = "number"
  · rw [decide_eq_true (show V.str t.wd = V.str "number" by rw [w2])]
    refine if_bl (fun _ => ?_) (fun z => nomatch z)
    exact ⟨_, rfl, q _ t i H ht ⟨rfl, fun z => z, fun q hq => .inl hq⟩ hsp But.refl⟩
  rw [decide_eq_false (show ¬ V.str t.wd = V.str "number" from fun z => w2 (V.str.inj z))]
  refine if_bl (fun z => nomatch z) (fun _ => ?_)
  have uno : t.isNo = false := by rw [t.wd_no, decide_eq_false w2]
  refine ⟨(by show 0 ≤ sizeLine; decide), fun D nD => ?_⟩
  have nDs : D ≠ sp := (ne_of_none hsp nD).symm
  have b1 : But sp H (upd H D (.lst [])) := But.refl.new nD
  have hD1 : (upd H D (.lst [])) D = some (.lst []) := upd_same
  have hsp1 : (upd H D (.lst [])) sp = some (.lst [.int i]) := same_new nD _ _ hsp
  generalize upd H D (.lst []) = H1 at b1 hD1 hsp1 ⊢
  have lh : t.hd.length ≤ 3 := by cases t <;> simp [Tr.hd]
  have lk := t.kids_len
  have hdno : ∀ x ∈ t.hd, (∃ z, x = V.str z) ∨ ∃ i, x = V.int i := fun x hx => by
    rw [er] at hx
    rcases List.mem_cons.mp hx with rfl | hx
    · exact .inl ⟨_, rfl⟩
    · exact sort x hx
  have SqA : ∀ {H' : Hp}, But sp H H' → SqT K H' a (t.hd ++ ks) := fun b => SqT.of (tkS b _ _ ha0)
  refine ⟨_, rfl, a, rfl, ⟨_, SqA b1⟩, for_tup (K := K) (a := a) (xs := t.hd ++ ks) (fun j σ H5 => ∃ (v4 : Option V) (kv : List V) (ts : List Tr) (i' : Int), σ = [some (.ref a), some (.ref sp), some (.ref lf), some (.ref D), v4] ∧ H5 D = some (.lst (t.hd.take j ++ kv)) ∧ All2 (TrAt H5) kv ts ∧ All2 (Rep q0) ts (t.kids.take (j - t.hd.length)) ∧ H5 sp = some (.lst [.int i']) ∧ But sp H H5) ⟨none, [], [], i, rfl, by rw [List.take_zero]; exact hD1, .nil, by rw [Nat.zero_sub, List.take_zero]; exact .nil, hsp1, b1⟩ (fun j σ H5 _ ⟨_, _, _, _, _, _, _, _, _, b5⟩ => SqA b5) ?_ ?_⟩
  · rintro j x σ H5 hx ⟨v4, kv, ts, i', rfl, hD, al, rp, hs5, b5⟩
    have l1 := al.length
    have l2 := rp.length
    rw [List.length_take] at l2
    by_cases hj : j < t.hd.length
    · rw [List.getElem?_append_left hj] at hx
      have e0 : j - t.hd.length = 0 := by omega
      have e1 : j + 1 - t.hd.length = 0 := by omega
      rw [e0, List.take_zero] at rp
      cases rp
      cases al
      rw [List.append_nil] at hD
      have app : ∀ D' : Ends, (∀ (v4 : Option V), D'.nx [some (.ref a), some (.ref sp), some (.ref lf), some (.ref D), v4] (upd H5 D (.lst (t.hd.take j ++ [x])))) → tDrop (tBM K "list" rAppend (tVar 3) (tCons (tVar 4) tNil)) D' [some (.ref a), some (.ref sp), some (.ref lf), some (.ref D), some x] H5 := fun D' h => by
        refine ⟨_, rfl, .inl ⟨rfl, _, SqL.of hD⟩, _, rfl, D, _, _, rfl, rfl, hD, small1000 (by rw [List.length_take]; omega), h _⟩
      have nxt : ∀ v4 : Option V, ∃ (v4' : Option V) (kv : List V) (ts : List Tr) (i' : Int), [some (V.ref a), some (.ref sp), some (.ref lf), some (.ref D), v4] = [some (.ref a), some (.ref sp), some (.ref lf), some (.ref D), v4'] ∧ (upd H5 D (.lst (t.hd.take j ++ [x]))) D = some (.lst (t.hd.take (j + 1) ++ kv)) ∧ All2 (TrAt (upd H5 D (.lst (t.hd.take j ++ [x])))) kv ts ∧ All2 (Rep q0) ts (t.kids.take (j + 1 - t.hd.length)) ∧ (upd H5 D (.lst (t.hd.take j ++ [x]))) sp = some (.lst [.int i']) ∧ But sp H (upd H5 D (.lst (t.hd.take j ++ [x]))) := fun v4 => by
        refine ⟨v4, [], [], i', rfl, ?_, .nil, by rw [e1, List.take_zero]; exact .nil, by rw [upd_ne nDs.symm]; exact hs5, b5.own nD⟩
        rw [upd_same, List.append_nil, List.take_add_one, hx]; rfl
      rcases hdno x (List.mem_of_getElem? hx) with ⟨y, rfl⟩ | ⟨y, rfl⟩
      · refine ⟨_, rfl, _, _, _, _, _, rfl, .ty "tuple", .base (.str _), kit_tupS, _, rfl, ?_⟩
        exact app _ nxt
      · refine ⟨_, rfl, _, _, _, _, _, rfl, .ty "tuple", .base (.int _), kit_tupI, _, rfl, ?_⟩
        exact app _ nxt
    · rw [List.getElem?_append_right (by omega)] at hx
      obtain ⟨u, hu, tu⟩ := ak.getL hx
      have um := List.mem_of_getElem? hu
      have ud := Tr.dep_kid um
      have up1 : 1 ≤ u.dep := by cases u <;> simp [Tr.dep]
      obtain ⟨m, rfl⟩ : ∃ m, n = m + 1 := ⟨n - 1, by omega⟩
      have tu5 := tu.keep (tkS b5)
      obtain ⟨b, _, rfl, hb, _⟩ := tu5.op
      refine ⟨_, rfl, _, _, _, _, _, rfl, .ty "tuple", .base (.tup hb), kit_tupT, _, rfl, ?_⟩
      refine ⟨_, rfl, _, rfl, _, rfl, .ref b, sp, lf, u, i', q0, rfl, tu5, by omega, hs5, hlf.keep (tkS b5), fun v' t' i2 H6 ht' rp' hs6 b6 => ?_⟩
      have hD6 := b6 _ _ hD nDs
      have tk6 : TK H5 H6 := fun x xs e => b6 x _ e (ne_of e hs5 (fun z => nomatch z))
      have kd : TK H6 (upd H6 D (.lst (t.hd.take j ++ kv ++ [v']))) := TK.lst hD6
      refine ⟨_, rfl, .inl ⟨rfl, _, SqL.of hD6⟩, _, rfl, D, _, _, rfl, rfl, hD6, small1000 (by rw [List.length_append, List.length_take]; omega), _, kv ++ [v'], ts ++ [t'], i2, rfl, ?_, (al.imp fun _ _ z => (z.keep tk6).keep kd).snoc (ht'.keep kd), ?_, by rw [upd_ne nDs.symm]; exact hs6, (b5.trans b6).own nD⟩
      · rw [upd_same, List.take_of_length_le (show t.hd.length ≤ j by omega), List.take_of_length_le (show t.hd.length ≤ j + 1 by omega), List.append_assoc]
      · rw [show j + 1 - t.hd.length = j - t.hd.length + 1 by omega, List.take_add_one, hu]
        exact rp.snoc rp'
  · rintro σ H5 ⟨v4, kv, ts, i', rfl, hD, al, rp, hs5, b5⟩
    have lks := ak.length
    rw [List.length_append] at hD rp
    rw [List.take_of_length_le (show t.kids.length ≤ t.hd.length + ks.length - t.hd.length by omega)] at rp
    rw [List.take_of_length_le (show t.hd.length ≤ t.hd.length + ks.length by omega)] at hD
    refine ⟨_, rfl, D, _, rfl, .inl ⟨SqL.of hD, fun p np => ?_⟩⟩
    obtain ⟨g1, g2, g3, g4⟩ := Tr.re_ok (t := t) rp.length un uno
    refine q (.ref p) (t.re ts) i' _ (TrAt.mk (ks := kv) ?_ ?_) (rep_kids un uno rp) (same_new np _ _ hs5) (b5.new np)
    · rw [upd_same, g1]
    · rw [g2]
      exact al.imp fun _ _ z => z.keep (TK.new np)
theorem leaf_all (T : Top w K mg) : ∀ (n : Nat) (f : Addr) (fd : FuncData), Fun K "_law_put_leaf" "_law_put_leaf" s_law_put_leaf f fd → FnOk P w K mg base CX0 n f fd ["_law_tree_here", "_law_spot", "_law_leaf_here"] (spL K n)
  | 0, _, _, _ => ⟨fun _ _ _ _ h => h.elim, fun _ _ _ _ _ _ _ _ _ _ _ _ _ h => h.elim⟩
  | n + 1, f, fd, F => leaf_step T n (leaf_all T n) F
abbrev sp_law_put_leaf (K : PySem.W.Frag) : Sp := spL K 11
theorem ok_law_put_leaf {f : Addr} {fd : FuncData} (F : Fun K "_law_put_leaf" "_law_put_leaf" s_law_put_leaf f fd) (T : Top w K mg) : FnOk P w K mg base CX0 11 f fd ["_law_tree_here", "_law_spot", "_law_leaf_here"] (sp_law_put_leaf K) := leaf_all T 11 f fd F
end
theorem All2.take {α β : Type} {R : α → β → Prop} : ∀ {as : List α} {bs : List β}, All2 R as bs → ∀ n, All2 R (as.take n) (bs.take n)
  | _, _, .nil, n => by rw [List.take_nil, List.take_nil]; exact .nil
  | _, _, .cons h t, 0 => .nil
  | _, _, .cons h t, n + 1 => .cons h (t.take n)
theorem All2.drop {α β : Type} {R : α → β → Prop} : ∀ {as : List α} {bs : List β}, All2 R as bs → ∀ n, All2 R (as.drop n) (bs.drop n)
  | _, _, .nil, n => by rw [List.drop_nil, List.drop_nil]; exact .nil
  | _, _, .cons h t, 0 => .cons h t
  | _, _, .cons h t, n + 1 => t.drop n
/-! ### formulas with one name changed -/
def Fo (H : Hp) (il wl rl ol : Addr) (F : Fm) : Prop := H il = some (.lst (F.ins.map V.str)) ∧ (∃ wv, H wl = some (.lst wv) ∧ All2 (WaAt H) wv F.was) ∧ (∃ rv, H rl = some (.lst rv) ∧ All2 (RlAt H) rv F.rules) ∧ H ol = some (.lst (F.outs.map V.str))
structure Lim (a b c d : Nat) (F : Fm) : Prop where
  sm : SmF F
  i : F.ins.length ≤ a
  w : F.was.length ≤ b
  r : F.rules.length ≤ c
  o : F.outs.length ≤ d
theorem Fo.keep {H H' : Hp} {il wl rl ol : Addr} {F : Fm} (h : Fo H il wl rl ol F) (k : TK H H') (l : ∀ b xs, (b = il ∨ b = wl ∨ b = rl ∨ b = ol) → H b = some (.lst xs) → H' b = some (.lst xs)) : Fo H' il wl rl ol F := by
  obtain ⟨h1, ⟨wv, h2, h3⟩, ⟨rv, h4, h5⟩, h6⟩ := h
  exact ⟨l _ _ (.inl rfl) h1, ⟨wv, l _ _ (.inr (.inl rfl)) h2, h3.imp fun _ _ z => z.keep k⟩, ⟨rv, l _ _ (.inr (.inr (.inl rfl))) h4, h5.imp fun _ _ z => z.keep k⟩, l _ _ (.inr (.inr (.inr rfl))) h6⟩
theorem Fo.same {H H' : Hp} {il wl rl ol : Addr} {F : Fm} (h : Fo H il wl rl ol F) (s : Same H H') : Fo H' il wl rl ol F := h.keep (TK.same s) fun _ _ _ e => s _ _ e
abbrev four (w : Str) : List Str := [("in" : Str), ("" : Str), ("Ab9" : Str), w]
theorem nm_in : Nm "in" := ⟨by decide +kernel, by decide +kernel⟩
theorem nm_no : Nm "" := ⟨by decide +kernel, by decide +kernel⟩
theorem nm_ab : Nm "Ab9" := ⟨by decide +kernel, by decide +kernel⟩
theorem put_strs {l : List Str} {z : Str} {ys : List V} (h : Put (l.map V.str) (.str z) ys) : ∃ zs, ys = zs.map V.str ∧ Put l z zs := by
  obtain ⟨k, hk, e⟩ := h
  rw [List.length_map] at hk
  rcases e with rfl | rfl | rfl
  · exact ⟨l.take k ++ z :: l.drop k, by rw [List.map_append, List.map_cons, List.map_take, List.map_drop], k, hk, .inl rfl⟩
  · exact ⟨l.take k ++ z :: l.drop (k + 1), by rw [List.map_append, List.map_cons, List.map_take, List.map_drop], k, hk, .inr (.inl rfl)⟩
  · exact ⟨l.take k ++ l.drop (k + 1), by rw [List.map_append, List.map_take, List.map_drop], k, hk, .inr (.inr rfl)⟩
theorem put_all {α β : Type} {R : α → β → Prop} {xs : List α} {ds : List β} {y : α} {d : β} {ys : List α} (h : Put xs y ys) (a : All2 R xs ds) (r : R y d) : ∃ es, Put ds d es ∧ All2 R ys es := by
  obtain ⟨k, hk, e⟩ := h
  rw [a.length] at hk
  rcases e with rfl | rfl | rfl
  · exact ⟨_, ⟨k, hk, .inl rfl⟩, (a.take k).app (.cons r (a.drop k))⟩
  · exact ⟨_, ⟨k, hk, .inr (.inl rfl)⟩, (a.take k).app (.cons r (a.drop (k + 1)))⟩
  · exact ⟨_, ⟨k, hk, .inr (.inr rfl)⟩, (a.take k).app (a.drop (k + 1))⟩
theorem was_shaped {l : List (Str × List Int)} (h : ∀ p ∈ l, Nm p.1 ∧ p.2.length ≤ 8 ∧ ∀ x ∈ p.2, Small x) : SeqAt.shaped (.list (l.map waD)) = true := by
  refine (Neat.lst (NeatAll.map (f := waD) (dp := 2) (n := 399) fun p hp => ?_)).shaped (by decide)
  obtain ⟨g1, g2, g3⟩ := h p hp
  have t1 := Neat.tup (NeatAll.map (f := PyData.int) (dp := 0) (n := 41) (l := p.2) fun x hx => Neat.int (by have := g3 x hx; unfold Small at this; omega))
  exact (Neat.tup (.cons (Neat.str (dp := 1) g1.lay g1.few) (.cons t1 .nil))).mono (Nat.le_refl _) (by omega)
def GoodR (p : Str × Tr) : Prop := Nm p.1 ∧ p.2.small ∧ (∀ q ∈ p.2.leans, Nm q.1 ∧ q.2 ≤ 1000) ∧ p.2.parts.length ≤ 10
theorem rl_neat {p : Str × Tr} (h : GoodR p) : Neat (rlD p) 13 1100 := by
  obtain ⟨g1, g2, g3, g4⟩ := h
  have t1 := (tr_neat g2 g3).mono (c := 12) (e := 1000) (by have := p.2.dep_parts; omega) (by omega)
  exact (Neat.tup (.cons (Neat.str (dp := 12) g1.lay g1.few) (.cons t1 .nil))).mono (Nat.le_refl _) (by omega)
theorem rls_shaped {l : List (Str × Tr)} (h : ∀ p ∈ l, GoodR p) : SeqAt.shaped (.list (l.map rlD)) = true :=
  (Neat.lst (NeatAll.map (f := rlD) (dp := 13) (n := 1100) fun p hp => rl_neat (h p hp))).shaped (by decide)
theorem All2.setAt {α β : Type} {R : α → β → Prop} {a : α} {b : β} (r : R a b) : ∀ {as : List α} {bs : List β} (k : Nat), All2 R as bs → All2 R (as.set k a) (bs.set k b)
  | _, _, _, .nil => .nil
  | _, _, 0, .cons _ h => .cons r h
  | _, _, k + 1, .cons s h => .cons s (All2.setAt r k h)
theorem first_hit {α : Type} {p : α → Bool} : ∀ {l : List α}, (∃ x ∈ l, p x = true) → ∃ (j : Nat) (z : α), l[j]? = some z ∧ p z = true ∧ ∀ (m : Nat) (z' : α), m < j → l[m]? = some z' → p z' = false
  | [], h => by
    obtain ⟨_, h, _⟩ := h
    cases h
  | a :: l, h => by
    cases pa : p a with
    | true => exact ⟨0, a, rfl, pa, fun m z' h => absurd h (Nat.not_lt_zero _)⟩
    | false =>
      obtain ⟨x, hx, px⟩ := h
      have hx : x ∈ l := by
        rcases List.mem_cons.mp hx with rfl | hx
        · rw [pa] at px; cases px
        · exact hx
      obtain ⟨j, z, e1, e2, e3⟩ := first_hit ⟨x, hx, px⟩
      refine ⟨j + 1, z, e1, e2, fun m z' hm em => ?_⟩
      cases m with
      | zero =>
        obtain rfl := Option.some.inj em
        exact pa
      | succ m => exact e3 m z' (Nat.lt_of_succ_lt_succ hm) em
theorem and_ne {K : PySem.W.Frag} {i j : Nat} {k y : Int} {l : Addr} {xs : List V} {ds : List PyData} {σ : L2.St} {H : Hp} {Q : Bool → Hp → Prop} (hi : σ[i]? = some (some (.int y))) (hj : σ[j]? = some (some (.ref l))) (hl : H l = some (.lst xs)) (hd : ∀ H', Same H H' → DpAll K H' xs ds) (sh : SeqAt.shaped (.list ds) = true) (go : ∀ H', Same H H' → Q (decide (y = k) && !ds.isEmpty) H') :
    tAnd (tTest (tOp rEq (tVar i) (tC (.int k)))) (tTest (tOp (rNeD K) (tVar j) (tLst tNil))) σ H Q := by
  refine ⟨_, hi, rfl, _, rfl, ?_⟩
  by_cases c : y = k
  · rw [decide_eq_true (show V.int y = V.int k by rw [c])]
    refine if_bl (fun _ => ?_) (fun z => nomatch z)
    refine ⟨_, hj, (by show 0 ≤ sizeLine; decide), fun p np => ?_⟩
    have s1 : Same H (upd H p (.lst [])) := same_new np
    refine ⟨_, _, .lst (SqL.of (s1 _ _ hl)) (hd _ s1), .lst (SqL.of upd_same) .nil, sh, rfl, _, rfl, ?_⟩
    have ee : PyData.eqv (.list ds) (.list []) = ds.isEmpty := eqv_nil
    rw [ee]
    have := go _ s1
    rwa [decide_eq_true c, Bool.true_and] at this
  · rw [decide_eq_false (show ¬ V.int y = V.int k from fun z => c (V.int.inj z))]
    refine if_bl (fun z => nomatch z) (fun _ => ?_)
    have := go H (Same.refl _)
    rwa [decide_eq_false c, Bool.false_and] at this
section
variable {P : Program} {w : World} {K : PySem.W.Frag} {mg : Str → Option Value} {base : Heap}
def sp_law_changed (K : PySem.W.Frag) : Sp := fun vs H Q _ => ∃ (f c r : Addr) (F : Fm) (bb : Nat), vs = [.ref f, .ref r] ∧ Flow H f c ∧ FmAt H r F ∧ bb ≤ 40 ∧ Lim 4 bb 5 4 F ∧ ∀ (r' : Addr) (F' : Fm) (H' : Hp), FmAt H' r' F' → Lim 4 (bb + 2) 5 4 F' → Flow H' f c → But f H H' → Q (.ref r') H'
theorem ok_law_changed {f : Addr} {fd : FuncData} (F : Fun K "_law_changed" "_law_changed" s_law_changed f fd) (T : Top w K mg) : FnOk P w K mg base CX0 12 f fd ["_law_flow_here", "_law_formulas_here"] (sp_law_changed K) := by
  obtain ⟨f_law_pick, fd_law_pick, F_law_pick, b_law_pick, m_law_pick⟩ := T.d_law_pick
  have G_law_pick := ok_law_pick (P := P) (w := w) (base := base) F_law_pick T
  obtain ⟨f_law_word, fd_law_word, F_law_word, b_law_word, m_law_word⟩ := T.d_law_word
  have G_law_word := ok_law_word (P := P) (w := w) (base := base) F_law_word T
  obtain ⟨f_law_put, fd_law_put, F_law_put, b_law_put, m_law_put⟩ := T.d_law_put
  have G_law_put := ok_law_put (P := P) (w := w) (base := base) F_law_put T
  obtain ⟨f_law_thing, fd_law_thing, F_law_thing, b_law_thing, m_law_thing⟩ := T.d_law_thing
  have G_law_thing := ok_law_thing (P := P) (w := w) (base := base) F_law_thing T
  obtain ⟨f_law_put_leaf, fd_law_put_leaf, F_law_put_leaf, b_law_put_leaf, m_law_put_leaf⟩ := T.d_law_put_leaf
  have G_law_put_leaf := ok_law_put_leaf (P := P) (w := w) (base := base) F_law_put_leaf T
  obtain ⟨f_law_uses, fd_law_uses, F_law_uses, b_law_uses, m_law_uses⟩ := T.d_law_uses
  have G_law_uses := ok_law_uses (P := P) (w := w) (base := base) F_law_uses T
  refine F.ok sc_law_changed (fun vs H Q E h => ?_) (fun cdv A outer s H vs Q E hr h => ?_)
  · obtain ⟨f, c, r, F, bb, rfl, _⟩ := h
    rfl
  obtain ⟨f, c, r, F, bb, rfl, hF, hFm, bb40, lim, q⟩ := h
  obtain ⟨a1, a2, a3, a4, wv, rv, e0, e1, e2, e3, e4, e5, e6⟩ := hFm
  have l3 := e3.length
  have l5 := e5.length
  have mi := lim.i
  have mw := lim.w
  have mr := lim.r
  have mo := lim.o
  let sg : Addr → Addr → Addr → Addr → Option V → Option V → Option V → Option V → Option V → Option V → Option V → Option V → L2.St := fun il wl rl ol v7 v8 v9 v10 v11 v12 v13 v14 => [some (.ref f), some (.ref r), some (.ref il), some (.ref wl), some (.ref rl), some (.ref ol), none, v7, v8, v9, v10, v11, v12, v13, v14]
  let New : Addr → Addr → Addr → Addr → Prop := fun il wl rl ol => H il = none ∧ H wl = none ∧ H rl = none ∧ H ol = none ∧ wl ≠ il ∧ wl ≠ rl ∧ wl ≠ ol ∧ rl ≠ il ∧ rl ≠ ol
  let R1 : TS := fun D' σ' H' => D'.rt = Q ∧ ∃ il wl rl ol : Addr, σ' = sg il wl rl ol none none none none none none none none ∧ Fo H' il wl rl ol F ∧ New il wl rl ol ∧ Same H H'
  let R2 : TS := fun D' σ' H' => D'.rt = Q ∧ ∃ (il wl rl ol : Addr) (y : Int) (v8 : Option V) (z : Str), σ' = sg il wl rl ol (some (.int y)) v8 (some (.str z)) none none none none none ∧ Fo H' il wl rl ol F ∧ New il wl rl ol ∧ Nm z ∧ Flow H' f c ∧ But f H H'
  let R3 : TS := fun D' σ' H' => D'.rt = Q ∧ ∃ (il wl rl ol : Addr) (v7 v8 v9 v10 v11 v12 v13 v14 : Option V) (F' : Fm), σ' = sg il wl rl ol v7 v8 v9 v10 v11 v12 v13 v14 ∧ Fo H' il wl rl ol F' ∧ Lim 12 (bb + 2) 12 12 F' ∧ Flow H' f c ∧ But f H H'
  refine ⟨_, (pss_cons (ps_asg (pe_lc (own := [("_law_part", 6)]) (g := gName 6) (tt := tYes) (by rfl) sc_law_changed.nd (pi_tupK K rfl (pv 1)) (blkOk_by (own := [("_law_part", 6)]) (N := N_law_changed) (sc := defScope s_law_changed) (by decide +kernel)) (fun _ _ _ _ _ => (pg_name (i := 6) sc_law_changed.nd rfl (Or.inl rfl))) (fun _ _ _ _ _ => pts_nil) (fun _ _ _ _ _ => (pe_callTy (call_list_ofK K rfl) (by rfl) T.m_list (by decide +kernel) (pa_cons (pv 6) pa_nil)))) (pg_unlK K rfl rfl (pgs_cons (pg_name (i := 2) sc_law_changed.nd rfl (Or.inl rfl)) (pgs_cons (pg_name (i := 3) sc_law_changed.nd rfl (Or.inl rfl)) (pgs_cons (pg_name (i := 4) sc_law_changed.nd rfl (Or.inl rfl)) (pgs_cons (pg_name (i := 5) sc_law_changed.nd rfl (Or.inl rfl)) pgs_nil))))))
      (PSs.to (pss_cons (ps_set (i := 7) sc_law_changed.nd rfl (Or.inl rfl) (pe_call G_law_pick (hr.mono (by decide)) (by rfl) m_law_pick F_law_pick.kp b_law_pick .nil pass0 (pa_cons (pv 0) (pa_cons pe_int pa_nil))))
      (pss_cons (ps_set (i := 8) sc_law_changed.nd rfl (Or.inl rfl) (pe_op op_cat (pe_op op_cat (pv 2) (pe_lc (own := [("_law_name", 9), ("_law_tree_here", 10)]) (g := gTup K 2 (gCons (gName 9) (gCons (gName 10) gNil))) (tt := tYes) (by rfl) sc_law_changed.nd (pi_listK K rfl (pv 4)) (blkOk_by (own := [("_law_name", 9), ("_law_tree_here", 10)]) (N := N_law_changed) (sc := defScope s_law_changed) (by decide +kernel)) (fun _ _ _ _ _ => (pg_tupK K rfl rfl (pgs_cons (pg_name (i := 9) sc_law_changed.nd rfl (Or.inl rfl)) (pgs_cons (pg_name (i := 10) sc_law_changed.nd rfl (Or.inl rfl)) pgs_nil)))) (fun _ _ _ _ _ => pts_nil) (fun _ _ _ _ _ => (pv 9)))) (pe_lst (pa_cons pe_str (pa_cons pe_str (pa_cons pe_str (pa_cons (pe_call G_law_word (hr.mono (by decide)) (by rfl) m_law_word F_law_word.kp b_law_word .nil pass0 (pa_cons (pv 0) (pa_cons pe_int pa_nil))) pa_nil)))))))
      (pss_cons (ps_set (i := 9) sc_law_changed.nd rfl (Or.inl rfl) (pe_ix (ix_listK K rfl) (pv 8) (pe_call G_law_pick (hr.mono (by decide)) (by rfl) m_law_pick F_law_pick.kp b_law_pick .nil pass0 (pa_cons (pv 0) (pa_cons (pe_callB (call_len_seqK K rfl) (by rfl) T.m_len (by decide +kernel) (pa_cons (pv 8) pa_nil)) pa_nil))) (fun _ _ => rfl)))
      (PSs.to (pss_cons (ps_if (pt_cmpR op_eq (pv 7) pe_int (nomark _)) (pss_one (ps_set (i := 2) sc_law_changed.nd rfl (Or.inl rfl) (pe_op op_cat (pe_op op_cat (pe_slice (sl_listK K rfl) (pv 2) po_none (po_some pe_int)) (pe_lst (pa_cons (pv 9) pa_nil))) (pe_slice (sl_listK K rfl) (pv 2) (po_some pe_int) po_none)))) (pss_one (ps_if (pt_cmpR op_eq (pv 7) pe_int (nomark _)) (pss_one (ps_set (i := 5) sc_law_changed.nd rfl (Or.inl rfl) (pe_call G_law_put (hr.mono (by decide)) (by rfl) m_law_put F_law_put.kp b_law_put .nil pass0 (pa_cons (pv 0) (pa_cons (pe_op op_cat (pv 5) (pe_lst (pa_cons (pv 9) pa_nil))) (pa_cons (pv 9) pa_nil)))))) (pss_one (ps_if (pt_cmpR op_eq (pv 7) pe_int (nomark _)) (pss_one (ps_set (i := 3) sc_law_changed.nd rfl (Or.inl rfl) (pe_call G_law_put (hr.mono (by decide)) (by rfl) m_law_put F_law_put.kp b_law_put .nil pass0 (pa_cons (pv 0) (pa_cons (pe_op op_cat (pv 3) (pe_lst (pa_cons (pe_tup (pa_cons (pv 9) (pa_cons (pe_tup pa_nil) pa_nil))) pa_nil))) (pa_cons (pe_tup (pa_cons (pv 9) (pa_cons (pe_tup (pa_cons (pe_call G_law_thing (hr.mono (by decide)) (by rfl) m_law_thing F_law_thing.kp b_law_thing .nil pass0 (pa_cons (pv 0) pa_nil)) pa_nil)) pa_nil))) pa_nil)))))) (pss_one (ps_if (PW.pt (pw_and (pt_cmpR op_eq (pv 7) pe_int (nomark _)) (pw_and1 (pt_cmpR (op_neDK K rfl hr.units) (pv 3) (pe_lst pa_nil) (nomark _))))) (pss_one (ps_expr (pe_bmK K rfl PySem.F.plainAttrs_list PySem.F.slot_list_insert PySem.F.type_list_insert mt_insert (pv 3) (pa_cons (pe_call G_law_pick (hr.mono (by decide)) (by rfl) m_law_pick F_law_pick.kp b_law_pick .nil pass0 (pa_cons (pv 0) (pa_cons (pe_op op_add (pe_callB (call_len_seqK K rfl) (by rfl) T.m_len (by decide +kernel) (pa_cons (pv 3) pa_nil)) pe_int) pa_nil))) (pa_cons (pe_ix (ix_listK K rfl) (pv 3) (pe_call G_law_pick (hr.mono (by decide)) (by rfl) m_law_pick F_law_pick.kp b_law_pick .nil pass0 (pa_cons (pv 0) (pa_cons (pe_callB (call_len_seqK K rfl) (by rfl) T.m_len (by decide +kernel) (pa_cons (pv 3) pa_nil)) pa_nil))) (fun _ _ => rfl)) pa_nil))))) (pss_one (ps_if (pt_cmpR (op_neDK K rfl hr.units) (pv 4) (pe_lst pa_nil) (nomark _)) (pss_cons (ps_set (i := 11) sc_law_changed.nd rfl (Or.inl rfl) (pe_call G_law_pick (hr.mono (by decide)) (by rfl) m_law_pick F_law_pick.kp b_law_pick .nil pass0 (pa_cons (pv 0) (pa_cons (pe_callB (call_len_seqK K rfl) (by rfl) T.m_len (by decide +kernel) (pa_cons (pv 4) pa_nil)) pa_nil))))
      (pss_cons (ps_asg (pe_ix (ix_listK K rfl) (pv 4) (pv 11) (fun _ _ => rfl)) (pg_tupK K rfl rfl (pgs_cons (pg_name (i := 12) sc_law_changed.nd rfl (Or.inl rfl)) (pgs_cons (pg_name (i := 10) sc_law_changed.nd rfl (Or.inl rfl)) pgs_nil))))
      (pss_cons (ps_if (pt_cmpR op_eq (pv 7) pe_int (nomark _)) (pss_one (ps_set (i := 12) sc_law_changed.nd rfl (Or.inl rfl) (pv 9))) (pss_one (ps_if (pt_cmpR op_eq (pv 7) pe_int (nomark _)) (pss_cons (ps_expr (pe_bmK K rfl PySem.F.plainAttrs_list PySem.F.slot_list_insert PySem.F.type_list_insert mt_insert (pv 4) (pa_cons (pe_call G_law_pick (hr.mono (by decide)) (by rfl) m_law_pick F_law_pick.kp b_law_pick .nil pass0 (pa_cons (pv 0) (pa_cons (pe_op op_add (pe_callB (call_len_seqK K rfl) (by rfl) T.m_len (by decide +kernel) (pa_cons (pv 4) pa_nil)) pe_int) pa_nil))) (pa_cons (pe_tup (pa_cons (pv 12) (pa_cons (pe_tup (pa_cons pe_str (pa_cons pe_int pa_nil))) pa_nil))) pa_nil))))
      (pss_one (ps_set (i := 11) sc_law_changed.nd rfl (Or.inl rfl) (pe_bmK K rfl PySem.F.plainAttrs_list PySem.F.slot_list_index PySem.F.type_list_index (mt_indexD (hu65 hr)) (pv 4) (pa_cons (pe_tup (pa_cons (pv 12) (pa_cons (pv 10) pa_nil))) pa_nil))))) (pss_cons (ps_set (i := 13) sc_law_changed.nd rfl (Or.inl rfl) (pe_ix (ix_listK K rfl) (pe_lst (pa_cons pe_int (pa_cons pe_int (pa_cons pe_int (pa_cons (pe_op op_add pe_int (pe_call G_law_pick (hr.mono (by decide)) (by rfl) m_law_pick F_law_pick.kp b_law_pick .nil pass0 (pa_cons (pv 0) (pa_cons pe_int pa_nil)))) pa_nil))))) (pe_call G_law_pick (hr.mono (by decide)) (by rfl) m_law_pick F_law_pick.kp b_law_pick .nil pass0 (pa_cons (pv 0) (pa_cons pe_int pa_nil))) (fun _ _ => rfl)))
      (pss_cons (ps_set (i := 14) sc_law_changed.nd rfl (Or.inl rfl) (pe_lst (pa_cons (pe_call G_law_pick (hr.mono (by decide)) (by rfl) m_law_pick F_law_pick.kp b_law_pick .nil pass0 (pa_cons (pv 0) (pa_cons (pe_callB (call_max2 rfl) (by rfl) T.m_max (by decide +kernel) (pa_cons pe_int (pa_cons (pe_callB (call_len_seqK K rfl) (by rfl) T.m_len (by decide +kernel) (pa_cons (pe_call G_law_uses (hr.mono (by decide)) (by rfl) m_law_uses F_law_uses.kp b_law_uses .nil pass0 (pa_cons (pv 10) pa_nil)) pa_nil)) pa_nil))) pa_nil))) pa_nil)))
      (pss_one (ps_set (i := 10) sc_law_changed.nd rfl (Or.inl rfl) (pe_call G_law_put_leaf (hr.mono (by decide)) (by rfl) m_law_put_leaf F_law_put_leaf.kp b_law_put_leaf .nil pass0 (pa_cons (pv 10) (pa_cons (pv 14) (pa_cons (pe_tup (pa_cons pe_str (pa_cons (pv 9) (pa_cons (pv 13) pa_nil)))) pa_nil)))))))))))
      (pss_one (ps_asg (pe_tup (pa_cons (pv 12) (pa_cons (pv 10) pa_nil))) (pg_sub (pv 4) (pv 11) set_list)))))) pss_nil)))))))))
      (PSs.to (pss_one (ps_ret (pe_tup (pa_cons (pe_callTy (call_tuple_ofK K rfl) (by rfl) T.m_tuple (by decide +kernel) (pa_cons (pe_slice (sl_listK K rfl) (pv 2) po_none (po_some pe_int)) pa_nil)) (pa_cons (pe_callTy (call_tuple_ofK K rfl) (by rfl) T.m_tuple (by decide +kernel) (pa_cons (pv 3) pa_nil)) (pa_cons (pe_callTy (call_tuple_ofK K rfl) (by rfl) T.m_tuple (by decide +kernel) (pa_cons (pe_slice (sl_listK K rfl) (pv 4) po_none (po_some pe_int)) pa_nil)) (pa_cons (pe_callTy (call_tuple_ofK K rfl) (by rfl) T.m_tuple (by decide +kernel) (pa_cons (pe_slice (sl_listK K rfl) (pv 5) po_none (po_some pe_int)) pa_nil)) pa_nil))))))) R3 ?tail3)) R2 ?tail2)))) R1 ?tail1)), ?_⟩
  case tail3 =>
    rintro D' σ' H1 ⟨eD, il, wl, rl, ol, v7, v8, v9, v10, v11, v12, v13, v14, F', rfl, ⟨hil, ⟨wv', hwl, alw⟩, ⟨rv', hrl, alr⟩, hol⟩, lm, F1, B1⟩
    refine ⟨_, rfl, ?_⟩
    dsimp only [tNoPart]
    refine ⟨_, rfl, il, _, rfl, SqL.of hil, fun p1 n1 => ?_⟩
    rw [show (4 : Int) = ((4 : Nat) : Int) from rfl, cut_take, ← List.map_take]
    have s2 : Same H1 (upd H1 p1 (.lst ((F'.ins.take 4).map V.str))) := same_new n1
    have hp1 : (upd H1 p1 (.lst ((F'.ins.take 4).map V.str))) p1 = some (.lst ((F'.ins.take 4).map V.str)) := upd_same
    generalize upd H1 p1 (.lst ((F'.ins.take 4).map V.str)) = H2 at s2 hp1 ⊢
    refine ⟨p1, _, rfl, .inl ⟨SqL.of hp1, fun q1 m1 => ?_⟩⟩
    have s3 := s2.trans (same_new (o := .tup ((F'.ins.take 4).map V.str)) m1)
    have hq1 : (upd H2 q1 (.tup ((F'.ins.take 4).map V.str))) q1 = some (.tup ((F'.ins.take 4).map V.str)) := upd_same
    generalize upd H2 q1 (.tup ((F'.ins.take 4).map V.str)) = H3 at s3 hq1 ⊢
    refine ⟨_, rfl, wl, _, rfl, .inl ⟨SqL.of (s3 _ _ hwl), fun q2 m2 => ?_⟩⟩
    have u4 : Same H3 (upd H3 q2 (.tup wv')) := same_new m2
    have hq2 : (upd H3 q2 (.tup wv')) q2 = some (.tup wv') := upd_same
    have s4 := s3.trans u4
    have hq1' := u4 _ _ hq1
    generalize upd H3 q2 (.tup wv') = H4 at s4 hq2 hq1' ⊢
    refine ⟨_, rfl, ?_⟩
    refine ⟨_, rfl, rl, _, rfl, SqL.of (s4 _ _ hrl), fun p3 n3 => ?_⟩
    rw [show (5 : Int) = ((5 : Nat) : Int) from rfl, cut_take]
    have u5 : Same H4 (upd H4 p3 (.lst (rv'.take 5))) := same_new n3
    have hp3 : (upd H4 p3 (.lst (rv'.take 5))) p3 = some (.lst (rv'.take 5)) := upd_same
    generalize upd H4 p3 (.lst (rv'.take 5)) = H5 at u5 hp3 ⊢
    refine ⟨p3, _, rfl, .inl ⟨SqL.of hp3, fun q3 m3 => ?_⟩⟩
    have u6 : Same H5 (upd H5 q3 (.tup (rv'.take 5))) := same_new m3
    have hq3 : (upd H5 q3 (.tup (rv'.take 5))) q3 = some (.tup (rv'.take 5)) := upd_same
    generalize upd H5 q3 (.tup (rv'.take 5)) = H6 at u6 hq3 ⊢
    have u46 := u5.trans u6
    refine ⟨_, rfl, ?_⟩
    refine ⟨_, rfl, ol, _, rfl, SqL.of (u46 _ _ (s4 _ _ hol)), fun p4 n4 => ?_⟩
    rw [cut_take, ← List.map_take]
    have u7 : Same H6 (upd H6 p4 (.lst ((F'.outs.take 4).map V.str))) := same_new n4
    have hp4 : (upd H6 p4 (.lst ((F'.outs.take 4).map V.str))) p4 = some (.lst ((F'.outs.take 4).map V.str)) := upd_same
    generalize upd H6 p4 (.lst ((F'.outs.take 4).map V.str)) = H7 at u7 hp4 ⊢
    refine ⟨p4, _, rfl, .inl ⟨SqL.of hp4, fun q4 m4 => ⟨(by show 4 ≤ sizeLine; decide), fun rr nr => ?_⟩⟩⟩
    have u8 : Same H7 (upd H7 q4 (.tup ((F'.outs.take 4).map V.str))) := same_new m4
    have hq4 : (upd H7 q4 (.tup ((F'.outs.take 4).map V.str))) q4 = some (.tup ((F'.outs.take 4).map V.str)) := upd_same
    generalize upd H7 q4 (.tup ((F'.outs.take 4).map V.str)) = H8 at u8 hq4 nr ⊢
    have u9 : Same H8 (upd H8 rr (.tup [.ref q1, .ref q2, .ref q3, .ref q4])) := same_new nr
    have u69 := u7.trans (u8.trans u9)
    have u49 := u46.trans u69
    have s9 := s4.trans u49
    rw [eD]
    refine q rr ⟨F'.ins.take 4, F'.was, F'.rules.take 5, F'.outs.take 4⟩ _ ⟨q1, q2, q3, q4, wv', rv'.take 5, upd_same, u49 _ _ hq1', u49 _ _ hq2, alw.imp fun _ _ z => z.keep (TK.same s9), u69 _ _ hq3, (alr.take 5).imp fun _ _ z => z.keep (TK.same s9), u9 _ _ hq4⟩ ⟨⟨fun z hz => lm.sm.i z (List.mem_of_mem_take hz), fun z hz => lm.sm.o z (List.mem_of_mem_take hz), lm.sm.w, fun p hp => lm.sm.r p (List.mem_of_mem_take hp)⟩, ?_, lm.w, ?_, ?_⟩ (F1.same s9) (B1.same s9)
    · show (F'.ins.take 4).length ≤ 4
      rw [List.length_take]; omega
    · show (F'.rules.take 5).length ≤ 5
      rw [List.length_take]; omega
    · show (F'.outs.take 4).length ≤ 4
      rw [List.length_take]; omega
  case tail2 =>
    rintro D' σ' H1 ⟨eD, il, wl, rl, ol, y, v8, z, rfl, fo, ⟨ni, nw, nr, no, d1, d2, d3, d4, d5⟩, gz, F1, B1⟩
    have ilf : il ≠ f := hF.ne ni
    have wlf : wl ≠ f := hF.ne nw
    have rlf : rl ≠ f := hF.ne nr
    have olf : ol ≠ f := hF.ne no
    have nc : ∀ b, H b = none → b ≠ c := fun b n => hF.nec n
    have notf : ∀ b, (b = il ∨ b = wl ∨ b = rl ∨ b = ol) → b ≠ f := fun b h => by rcases h with rfl | rfl | rfl | rfl <;> assumption
    have fo1 := fo
    obtain ⟨hil, ⟨wv1, hwl, alw⟩, ⟨rv1, hrl, alr⟩, hol⟩ := fo
    have lw := alw.length
    have lr := alr.length
    have gr : ∀ p ∈ F.rules, GoodR p := lim.sm.r
    have idle : ∀ {H5 : Hp} {D : Ends} {v10 v11 v12 v13 v14 : Option V}, Fo H5 il wl rl ol F → Flow H5 f c → But f H H5 → D.nx = R3 D' → D.nx (sg il wl rl ol (some (.int y)) v8 (some (.str z)) v10 v11 v12 v13 v14) H5 := fun {H5 D v10 v11 v12 v13 v14} h1 h2 h3 e => by
      rw [e]
      exact ⟨eD, il, wl, rl, ol, _, _, _, _, _, _, _, _, F, rfl, h1, ⟨lim.sm, by omega, by omega, by omega, by omega⟩, h2, h3⟩
    refine ⟨_, rfl, rfl, _, rfl, if_bl (fun _ => ?_) (fun _ => ?_)⟩
    · refine ⟨_, rfl, ?_⟩
      dsimp only [tNoPart]
      refine ⟨_, rfl, il, _, rfl, SqL.of hil, fun p1 n1 => ?_⟩
      rw [show (2 : Int) = ((2 : Nat) : Int) from rfl, cut_take, ← List.map_take]
      have s2 : Same H1 (upd H1 p1 (.lst ((F.ins.take 2).map V.str))) := same_new n1
      have hp1 : (upd H1 p1 (.lst ((F.ins.take 2).map V.str))) p1 = some (.lst ((F.ins.take 2).map V.str)) := upd_same
      generalize upd H1 p1 (.lst ((F.ins.take 2).map V.str)) = H2 at s2 hp1 ⊢
      refine ⟨_, rfl, (by show 1 ≤ sizeLine; decide), fun p2 n2 => ?_⟩
      have u3 : Same H2 (upd H2 p2 (.lst [.str z])) := same_new n2
      have hp2 : (upd H2 p2 (.lst [.str z])) p2 = some (.lst [.str z]) := upd_same
      generalize upd H2 p2 (.lst [.str z]) = H3 at u3 hp2 ⊢
      refine ⟨p1, p2, _, _, rfl, rfl, u3 _ _ hp1, hp2, by rw [List.length_map, List.length_take]; exact little (by show _ + 1 ≤ 1000; omega), fun p3 n3 => ?_⟩
      have u4 : Same H3 (upd H3 p3 (.lst ((F.ins.take 2).map V.str ++ [.str z]))) := same_new n3
      have hp3 : (upd H3 p3 (.lst ((F.ins.take 2).map V.str ++ [.str z]))) p3 = some (.lst ((F.ins.take 2).map V.str ++ [.str z])) := upd_same
      generalize upd H3 p3 (.lst ((F.ins.take 2).map V.str ++ [.str z])) = H4 at u4 hp3 ⊢
      have s4 := s2.trans (u3.trans u4)
      refine ⟨_, rfl, _, rfl, il, _, rfl, SqL.of (s4 _ _ hil), fun p5 n5 => ?_⟩
      rw [cut_drop, ← List.map_drop]
      have u5 : Same H4 (upd H4 p5 (.lst ((F.ins.drop 2).map V.str))) := same_new n5
      have hp5 : (upd H4 p5 (.lst ((F.ins.drop 2).map V.str))) p5 = some (.lst ((F.ins.drop 2).map V.str)) := upd_same
      generalize upd H4 p5 (.lst ((F.ins.drop 2).map V.str)) = H5 at u5 hp5 ⊢
      refine ⟨p3, p5, _, _, rfl, rfl, u5 _ _ hp3, hp5, by rw [List.length_append, List.length_map, List.length_map, List.length_take, List.length_drop]; exact little (by show _ + 1 + _ ≤ 1000; omega), fun p6 n6 => ?_⟩
      have u6 : Same H5 (upd H5 p6 (.lst ((F.ins.take 2).map V.str ++ [.str z] ++ (F.ins.drop 2).map V.str))) := same_new n6
      have hp6 : (upd H5 p6 (.lst ((F.ins.take 2).map V.str ++ [.str z] ++ (F.ins.drop 2).map V.str))) p6 = some (.lst ((F.ins.take 2 ++ [z] ++ F.ins.drop 2).map V.str)) := by
        rw [upd_same, List.map_append, List.map_append]; rfl
      generalize upd H5 p6 (.lst ((F.ins.take 2).map V.str ++ [.str z] ++ (F.ins.drop 2).map V.str)) = H6 at u6 hp6 ⊢
      have s6 := s4.trans (u5.trans u6)
      obtain ⟨_, h2, h3, h4⟩ := fo1.same s6
      refine ⟨eD, p6, wl, rl, ol, _, _, _, _, _, _, _, _, ⟨F.ins.take 2 ++ [z] ++ F.ins.drop 2, F.was, F.rules, F.outs⟩, rfl, ⟨hp6, h2, h3, h4⟩, ⟨⟨fun x hx => ?_, lim.sm.o, lim.sm.w, lim.sm.r⟩, ?_, by show F.was.length ≤ bb + 2; omega, by show F.rules.length ≤ 12; omega, by show F.outs.length ≤ 12; omega⟩, F1.same s6, B1.same s6⟩
      · rcases List.mem_append.mp hx with m | m
        · rcases List.mem_append.mp m with m | m
          · exact lim.sm.i x (List.mem_of_mem_take m)
          · rw [List.mem_singleton.mp m]; exact gz
        · exact lim.sm.i x (List.mem_of_mem_drop m)
      · show (F.ins.take 2 ++ [z] ++ F.ins.drop 2).length ≤ 12
        rw [List.length_append, List.length_append, List.length_take, List.length_drop]
        show _ + 1 + _ ≤ 12
        omega
    refine ⟨_, rfl, rfl, _, rfl, if_bl (fun _ => ?_) (fun _ => ?_)⟩
    · refine ⟨_, rfl, _, rfl, _, rfl, (by show 1 ≤ sizeLine; decide), fun p2 n2 => ?_⟩
      have u3 : Same H1 (upd H1 p2 (.lst [.str z])) := same_new n2
      have hp2 : (upd H1 p2 (.lst [.str z])) p2 = some (.lst [.str z]) := upd_same
      generalize upd H1 p2 (.lst [.str z]) = H3 at u3 hp2 ⊢
      refine ⟨ol, p2, _, _, rfl, rfl, u3 _ _ hol, hp2, by rw [List.length_map]; exact little (by show _ + 1 ≤ 1000; omega), fun p3 n3 => ?_⟩
      have u4 : Same H3 (upd H3 p3 (.lst (F.outs.map V.str ++ [.str z]))) := same_new n3
      have hp3 : (upd H3 p3 (.lst (F.outs.map V.str ++ [.str z]))) p3 = some (.lst ((F.outs ++ [z]).map V.str)) := by rw [upd_same, List.map_append]; rfl
      generalize upd H3 p3 (.lst (F.outs.map V.str ++ [.str z])) = H4 at u4 hp3 ⊢
      have s4 := u3.trans u4
      have F4 := F1.same s4
      refine ⟨_, rfl, f, c, p3, _, .str z, rfl, hp3, F4.neS hp3, by simp, by rw [List.length_map, List.length_append]; show _ + 1 ≤ 900; omega, F4, fun p5 ys H5 pu np5 pf5 hp5 F5 B5 => ?_⟩
      obtain ⟨zs, rfl, pz⟩ := put_strs pu
      have fo5 : Fo H5 il wl rl ol F := (fo1.same s4).keep (TK.but F4 B5) fun b xs h e => B5 _ _ e (notf b h)
      obtain ⟨h1, h2, h3, _⟩ := fo5
      have lz := pz.len
      rw [List.length_append] at lz
      refine ⟨eD, il, wl, rl, p5, _, _, _, _, _, _, _, _, ⟨F.ins, F.was, F.rules, zs⟩, rfl, ⟨h1, h2, h3, hp5⟩, ⟨⟨lim.sm.i, fun x hx => ?_, lim.sm.w, lim.sm.r⟩, by show F.ins.length ≤ 12; omega, by show F.was.length ≤ bb + 2; omega, by show F.rules.length ≤ 12; omega, ?_⟩, F5, (B1.same s4).trans B5⟩
      · rcases pz.mem x hx with m | rfl
        · rcases List.mem_append.mp m with m | m
          · exact lim.sm.o x m
          · rw [List.mem_singleton.mp m]; exact gz
        · exact gz
      · show zs.length ≤ 12
        have : [z].length = 1 := rfl
        omega
    refine ⟨_, rfl, rfl, _, rfl, if_bl (fun _ => ?_) (fun _ => ?_)⟩
    · refine ⟨_, rfl, _, rfl, _, rfl, (by show 0 ≤ sizeLine; decide), fun q1 m1 => ⟨(by show 2 ≤ sizeLine; decide), fun q2 m2 => ⟨(by show 1 ≤ sizeLine; decide), fun p2 n2 => ?_⟩⟩⟩
      generalize e9 : upd (upd (upd H1 q1 _) q2 _) p2 _ = H3
      have u3 : Same H1 H3 := by rw [← e9]; exact (same_new m1).trans ((same_new m2).trans (same_new n2))
      have hp2 : H3 p2 = some (.lst [.ref q2]) := by rw [← e9]; exact upd_same
      have wa2 : WaAt H3 (.ref q2) (z, []) := ⟨q2, q1, rfl, by rw [← e9]; exact same_new n2 _ _ upd_same, by rw [← e9]; exact same_new n2 _ _ (same_new m2 _ _ upd_same)⟩
      clear e9
      refine ⟨wl, p2, _, _, rfl, rfl, u3 _ _ hwl, hp2, little (by show _ + 1 ≤ 1000; omega), fun p3 n3 => ?_⟩
      have u4 : Same H3 (upd H3 p3 (.lst (wv1 ++ [.ref q2]))) := same_new n3
      have hp3 : (upd H3 p3 (.lst (wv1 ++ [.ref q2]))) p3 = some (.lst (wv1 ++ [.ref q2])) := upd_same
      have p3f : p3 ≠ f := (F1.same u3).ne n3
      generalize upd H3 p3 (.lst (wv1 ++ [.ref q2])) = H4 at u4 hp3 ⊢
      have s4 := u3.trans u4
      have F4 := F1.same s4
      refine ⟨_, rfl, _, rfl, f, c, rfl, F4, fun x H5 sx F5 B5 => ⟨(by show 1 ≤ sizeLine; decide), fun q3 m3 => ⟨(by show 2 ≤ sizeLine; decide), fun q4 m4 => ?_⟩⟩⟩
      generalize e9 : upd (upd H5 q3 _) q4 _ = H6
      have u6 : Same H5 H6 := by rw [← e9]; exact (same_new m3).trans (same_new m4)
      have wa4 : WaAt H6 (.ref q4) (z, [x]) := ⟨q4, q3, rfl, by rw [← e9]; exact upd_same, by rw [← e9]; exact same_new m4 _ _ upd_same⟩
      clear e9
      have B46 : But f H4 H6 := B5.same u6
      have al6 : All2 (WaAt H6) (wv1 ++ [.ref q2]) (F.was ++ [(z, [])]) := ((alw.imp fun _ _ h => h.keep (TK.same s4)).snoc (wa2.keep (TK.same u4))).imp fun _ _ h => h.keep (TK.but F4 B46)
      refine ⟨f, c, p3, _, .ref q4, rfl, B46 _ _ hp3 p3f, p3f, by simp, by rw [List.length_append]; show _ + 1 ≤ 900; omega, F5.same u6, fun p7 ys H7 pu np7 pf7 hp7 F7 B7 => ?_⟩
      have B47 : But f H4 H7 := B46.trans B7
      obtain ⟨es, pe, ae⟩ := put_all pu al6 wa4
      have fo7 : Fo H7 il wl rl ol F := (fo1.same s4).keep (TK.but F4 B47) fun b xs h e => B47 _ _ e (notf b h)
      obtain ⟨h1, h2, h3, h4⟩ := fo7
      have le := pe.len
      rw [List.length_append] at le
      refine ⟨eD, il, p7, rl, ol, _, _, _, _, _, _, _, _, ⟨F.ins, es, F.rules, F.outs⟩, rfl, ⟨h1, ⟨ys, hp7, ae.imp fun _ _ h => h.keep (TK.but (F5.same u6) B7)⟩, h3, h4⟩, ⟨⟨lim.sm.i, lim.sm.o, fun p hp => ?_, lim.sm.r⟩, by show F.ins.length ≤ 12; omega, ?_, by show F.rules.length ≤ 12; omega, by show F.outs.length ≤ 12; omega⟩, F7, (B1.same s4).trans B47⟩
      · rcases pe.mem p hp with m | rfl
        · rcases List.mem_append.mp m with m | m
          · exact lim.sm.w p m
          · rw [List.mem_singleton.mp m]
            exact ⟨gz, by show 0 ≤ 8; decide, fun _ h => by cases h⟩
        · exact ⟨gz, by show 1 ≤ 8; decide, fun y hy => by rw [List.mem_singleton.mp hy]; exact sx⟩
      · show es.length ≤ bb + 2
        have : [(z, ([] : List Int))].length = 1 := rfl
        omega
    refine and_ne rfl rfl hwl (fun H' s => was_dp (alw.imp fun _ _ h => h.keep (TK.same s))) (was_shaped lim.sm.w) fun H2 s2 => if_bl (fun c3 => ?_) (fun _ => ?_)
    · rw [Bool.and_eq_true] at c3
      have ne : 0 < F.was.length := by
        cases h : F.was with
        | nil => rw [h] at c3; cases c3.2
        | cons a b => exact Nat.succ_pos _
      have F2 := F1.same s2
      have hwl2 := s2 _ _ hwl
      refine ⟨_, rfl, .inl ⟨rfl, _, SqL.of hwl2⟩, _, rfl, _, rfl, wl, _, rfl, .inl (SqL.of hwl2), _, _, rfl, rfl, f, c, ((wv1.length + 1 : Nat) : Int), rfl, by omega, log_small (by omega), F2, fun v H3 v0 v1 F3 B3 => ?_⟩
      have hwl3 := B3 _ _ hwl2 wlf
      refine ⟨_, rfl, _, rfl, _, rfl, wl, _, rfl, .inl (SqL.of hwl3), f, c, ((wv1.length : Nat) : Int), rfl, by omega, log_small (by omega), F3, fun v2 H4 v20 v21 F4 B4 => ?_⟩
      have hwl4 := B4 _ _ hwl3 wlf
      have hk : v2.toNat < wv1.length := by omega
      have ex : wv1[v2.toNat]? = some wv1[v2.toNat] := List.getElem?_eq_getElem hk
      have exi : atI wv1 v2 = some wv1[v2.toNat] := by
        have := atI_nat (xs := wv1) (j := v2.toNat) ex
        rwa [show ((v2.toNat : Nat) : Int) = v2 by omega] at this
      have B14 : But f H1 H4 := ((But.refl.same s2).trans B3).trans B4
      obtain ⟨p, hp, wp⟩ := alw.getL ex
      have pm := List.mem_of_getElem? hp
      refine ⟨wl, _, v2, _, rfl, rfl, SqL.of hwl4, exi, wl, _, v, _, rfl, rfl, hwl4, small1000 (by omega), v0, by omega, ?_⟩
      have fo4 : Fo H4 il wl rl ol F := fo1.keep (TK.but F1 B14) fun b xs h e => B14 _ _ e (notf b h)
      obtain ⟨h1, _, ⟨rv4, h3, h4⟩, h5⟩ := fo4
      have kd : TK H4 (upd H4 wl (.lst (wv1.take v.toNat ++ [wv1[v2.toNat]] ++ wv1.drop v.toNat))) := TK.lst hwl4
      have al4 : All2 (WaAt (upd H4 wl (.lst (wv1.take v.toNat ++ [wv1[v2.toNat]] ++ wv1.drop v.toNat)))) wv1 F.was := alw.imp fun _ _ h => (h.keep (TK.but F1 B14)).keep kd
      refine ⟨eD, il, wl, rl, ol, _, _, _, _, _, _, _, _, ⟨F.ins, F.was.take v.toNat ++ [p] ++ F.was.drop v.toNat, F.rules, F.outs⟩, rfl, ⟨by rw [upd_ne d1.symm]; exact h1, ⟨_, upd_same, ((al4.take _).app (.cons ((wp.keep (TK.but F1 B14)).keep kd) .nil)).app (al4.drop _)⟩, ⟨rv4, by rw [upd_ne d2.symm]; exact h3, h4.imp fun _ _ h => h.keep kd⟩, by rw [upd_ne d3.symm]; exact h5⟩, ⟨⟨lim.sm.i, lim.sm.o, fun x hx => ?_, lim.sm.r⟩, by show F.ins.length ≤ 12; omega, ?_, by show F.rules.length ≤ 12; omega, by show F.outs.length ≤ 12; omega⟩, F4.lst wlf (nc _ nw), (B1.trans B14).own nw⟩
      · rcases List.mem_append.mp hx with m | m
        · rcases List.mem_append.mp m with m | m
          · exact lim.sm.w x (List.mem_of_mem_take m)
          · rw [List.mem_singleton.mp m]; exact lim.sm.w p pm
        · exact lim.sm.w x (List.mem_of_mem_drop m)
      · show (F.was.take v.toNat ++ [p] ++ F.was.drop v.toNat).length ≤ bb + 2
        rw [List.length_append, List.length_append, List.length_take, List.length_drop]
        show _ + 1 + _ ≤ bb + 2
        omega
    have F2 := F1.same s2
    have B2 := B1.same s2
    have fo2 := fo1.same s2
    have hrl2 := s2 _ _ hrl
    refine ⟨_, rfl, (by show 0 ≤ sizeLine; decide), fun p0 np0 => ?_⟩
    have s3 : Same H2 (upd H2 p0 (.lst [])) := same_new np0
    have hp0 : (upd H2 p0 (.lst [])) p0 = some (.lst []) := upd_same
    generalize upd H2 p0 (.lst []) = H3 at s3 hp0 ⊢
    have s13 := s2.trans s3
    have F3 := F1.same s13
    have B3 := B1.same s13
    have fo3 := fo1.same s13
    have hrl3 := s13 _ _ hrl
    have alr3 : All2 (RlAt H3) rv1 F.rules := alr.imp fun _ _ h => h.keep (TK.same s13)
    refine ⟨_, _, .lst (SqL.of hrl3) (rls_dp alr3), .lst (SqL.of hp0) .nil, rls_shaped gr, rfl, _, rfl, ?_⟩
    have ee : PyData.eqv (.list (F.rules.map rlD)) (.list []) = (F.rules.map rlD).isEmpty := eqv_nil
    rw [ee]
    refine if_bl (fun cn => ?_) (fun _ => idle fo3 F3 B3 rfl)
    have pos : 0 < F.rules.length := by
      cases h : F.rules with
      | nil => rw [h] at cn; cases cn
      | cons a b => exact Nat.succ_pos _
    refine ⟨_, rfl, _, rfl, rl, _, rfl, .inl (SqL.of hrl3), f, c, ((rv1.length : Nat) : Int), rfl, by omega, log_small (by omega), F3, fun v H4 v0 v1 F4 B4 => ?_⟩
    obtain ⟨k, rfl⟩ : ∃ k : Nat, v = ((k : Nat) : Int) := ⟨v.toNat, by omega⟩
    have hk : k < rv1.length := by omega
    have ex : rv1[k]? = some rv1[k] := List.getElem?_eq_getElem hk
    have hrl4 := B4 _ _ hrl3 rlf
    have fo4 : Fo H4 il wl rl ol F := fo3.keep (TK.but F3 B4) fun b xs h e => B4 _ _ e (notf b h)
    have alr4 : All2 (RlAt H4) rv1 F.rules := alr3.imp fun _ _ h => h.keep (TK.but F3 B4)
    replace B4 := B3.trans B4
    obtain ⟨p, hp, t, tv, ept, ht, htv⟩ := alr4.getL ex
    have pm := List.mem_of_getElem? hp
    have gp := gr p pm
    rw [ept] at ex
    refine ⟨_, rfl, _, rfl, rl, _, _, _, rfl, rfl, SqL.of hrl4, atI_nat ex, t, _, rfl, SqT.of ht, rfl, _, _, rfl, _, _, rfl, rfl, ?_⟩
    have last : ∀ {Dx : Ends} {Hx : Hp} {k : Nat} {nm : Str} {tv : V} {t' : Tr} {rv' : List V} {rules' : List (Str × Tr)} {v13 v14 : Option V}, Dx.nx = R3 D' → Fo Hx il wl rl ol F ∨ True → Hx il = some (.lst (F.ins.map V.str)) → (∃ wv, Hx wl = some (.lst wv) ∧ All2 (WaAt Hx) wv F.was) → Hx rl = some (.lst rv') → All2 (RlAt Hx) rv' rules' → Hx ol = some (.lst (F.outs.map V.str)) → k < rules'.length → rules'.length ≤ 12 → (∀ p ∈ rules', GoodR p) → GoodR (nm, t') → TrAt Hx tv t' → Flow Hx f c → But f H Hx →
        tAsg (tTup (tCons (tVar 12) (tCons (tVar 10) tNil))) (gSub (tVar 4) (tVar 11) rSetL) Dx (sg il wl rl ol (some (.int y)) v8 (some (.str z)) (some tv) (some (nV k)) (some (.str nm)) v13 v14) Hx := fun {Dx Hx k nm tv t' rv' rules' v13 v14} eDx _ h1 h2 h3 h4 h5 hk hlen hg hg1 htr hfl hbt => by
      have l4 := h4.length
      refine ⟨_, rfl, _, rfl, (by show 2 ≤ sizeLine; decide), fun pt npt => ?_⟩
      have u : Same Hx (upd Hx pt (.tup [.str nm, tv])) := same_new npt
      have hpt : (upd Hx pt (.tup [.str nm, tv])) pt = some (.tup [.str nm, tv]) := upd_same
      have hfl2 := hfl.new (o := .tup [.str nm, tv]) npt
      generalize upd Hx pt (.tup [.str nm, tv]) = Hy at u hpt hfl2 ⊢
      have h3y := u _ _ h3
      refine ⟨_, rfl, _, rfl, rl, rv', _, k, rfl, rfl, h3y, ixN_at (by omega), ?_⟩
      have kd : TK Hx (upd Hy rl (.lst (rv'.set k (.ref pt)))) := (TK.same u).trans (TK.lst h3y)
      obtain ⟨wv2, h21, h22⟩ := h2
      show Dx.nx _ _
      rw [eDx]
      refine ⟨eD, il, wl, rl, ol, _, _, _, _, _, _, _, _, ⟨F.ins, F.was, rules'.set k (nm, t'), F.outs⟩, rfl, ⟨by rw [upd_ne d4.symm]; exact u _ _ h1, ⟨wv2, by rw [upd_ne d2]; exact u _ _ h21, h22.imp fun _ _ h => h.keep kd⟩, ⟨_, upd_same, ?_⟩, by rw [upd_ne d5.symm]; exact u _ _ h5⟩, ⟨⟨lim.sm.i, lim.sm.o, lim.sm.w, fun x hx => ?_⟩, by show F.ins.length ≤ 12; omega, by show F.was.length ≤ bb + 2; omega, ?_, by show F.outs.length ≤ 12; omega⟩, hfl2.lst rlf (nc _ nr), (hbt.same u).own nr⟩
      · have base : All2 (RlAt (upd Hy rl (.lst (rv'.set k (.ref pt))))) rv' rules' := h4.imp fun _ _ h => h.keep kd
        have one : RlAt (upd Hy rl (.lst (rv'.set k (.ref pt)))) (.ref pt) (nm, t') := ⟨pt, tv, rfl, TK.lst h3y _ _ hpt, htr.keep kd⟩
        exact All2.setAt one k base
      · rcases List.mem_or_eq_of_mem_set hx with m | rfl
        · exact hg x m
        · exact hg1
      · show (rules'.set k (nm, t')).length ≤ 12
        rw [List.length_set]; exact hlen
    obtain ⟨h1, h2, ⟨rv4, h3, h4⟩, h5⟩ := fo4
    refine ⟨_, rfl, rfl, _, rfl, if_bl (fun _ => ?_) (fun _ => ?_)⟩
    · refine ⟨_, rfl, ?_⟩
      exact last rfl (.inr trivial) h1 h2 hrl4 alr4 h5 (by omega) (by omega) gr ⟨gz, gp.2⟩ htv F4 B4
    refine ⟨_, rfl, rfl, _, rfl, if_bl (fun _ => ?_) (fun _ => ?_)⟩
    · have kF4 : Fo H4 il wl rl ol F := ⟨h1, h2, ⟨rv4, h3, h4⟩, h5⟩
      refine ⟨_, rfl, .inl ⟨rfl, _, SqL.of hrl4⟩, _, rfl, _, rfl, rl, _, rfl, .inl (SqL.of hrl4), _, _, rfl, rfl, f, c, ((rv1.length + 1 : Nat) : Int), rfl, by omega, log_small (by omega), F4, fun v5 H5 v50 v51 F5 B5 => ⟨_, rfl, (by show 2 ≤ sizeLine; decide), fun q1 m1 => ⟨(by show 2 ≤ sizeLine; decide), fun q2 m2 => ?_⟩⟩⟩
      generalize e9 : upd (upd H5 q1 _) q2 _ = H6
      have u6 : Same H5 H6 := by rw [← e9]; exact (same_new m1).trans (same_new m2)
      have ra : RlAt H6 (.ref q2) (p.1, .no 1) := ⟨q2, .ref q1, rfl, by rw [← e9]; exact upd_same, ⟨q1, rfl, by rw [← e9]; exact same_new m2 _ _ upd_same⟩⟩
      clear e9
      have B46 : But f H4 H6 := B5.same u6
      have F6 := F5.same u6
      have fo6 : Fo H6 il wl rl ol F := kF4.keep (TK.but F4 B46) fun b xs h e => B46 _ _ e (notf b h)
      have hrl6 := B46 _ _ hrl4 rlf
      obtain ⟨g1, ⟨wv6, g2, g3⟩, ⟨rv6, g4, g5⟩, g6⟩ := fo6
      refine ⟨rl, _, v5, _, rfl, rfl, hrl6, small1000 (by omega), v50, by omega, ?_⟩
      have kd : TK H6 (upd H6 rl (.lst (rv1.take v5.toNat ++ [.ref q2] ++ rv1.drop v5.toNat))) := TK.lst hrl6
      have al6 : All2 (RlAt (upd H6 rl (.lst (rv1.take v5.toNat ++ [.ref q2] ++ rv1.drop v5.toNat)))) rv1 F.rules := alr4.imp fun _ _ h => (h.keep (TK.but F4 B46)).keep kd
      have al7 := ((al6.take v5.toNat).app (.cons (ra.keep kd) .nil)).app (al6.drop v5.toNat)
      have htv7 := (htv.keep (TK.but F4 B46)).keep kd
      have h7 : (upd H6 rl (.lst (rv1.take v5.toNat ++ [.ref q2] ++ rv1.drop v5.toNat))) rl = some (.lst (rv1.take v5.toNat ++ [.ref q2] ++ rv1.drop v5.toNat)) := upd_same
      have i7 : (upd H6 rl (.lst (rv1.take v5.toNat ++ [.ref q2] ++ rv1.drop v5.toNat))) il = some (.lst (F.ins.map V.str)) := by rw [upd_ne d4.symm]; exact g1
      have w7 : ∃ wv, (upd H6 rl (.lst (rv1.take v5.toNat ++ [.ref q2] ++ rv1.drop v5.toNat))) wl = some (.lst wv) ∧ All2 (WaAt (upd H6 rl (.lst (rv1.take v5.toNat ++ [.ref q2] ++ rv1.drop v5.toNat)))) wv F.was := ⟨wv6, by rw [upd_ne d2]; exact g2, g3.imp fun _ _ h => h.keep kd⟩
      have o7 : (upd H6 rl (.lst (rv1.take v5.toNat ++ [.ref q2] ++ rv1.drop v5.toNat))) ol = some (.lst (F.outs.map V.str)) := by rw [upd_ne d5.symm]; exact g6
      have F7 : Flow (upd H6 rl (.lst (rv1.take v5.toNat ++ [.ref q2] ++ rv1.drop v5.toNat))) f c := F6.lst rlf (nc _ nr)
      have B7 : But f H (upd H6 rl (.lst (rv1.take v5.toNat ++ [.ref q2] ++ rv1.drop v5.toNat))) := (B4.trans B46).own nr
      generalize upd H6 rl (.lst (rv1.take v5.toNat ++ [.ref q2] ++ rv1.drop v5.toNat)) = H7 at al7 htv7 h7 i7 w7 o7 F7 B7 ⊢
      obtain ⟨rules7, hr7⟩ : ∃ l, l = F.rules.take v5.toNat ++ [(p.1, Tr.no 1)] ++ F.rules.drop v5.toNat := ⟨_, rfl⟩
      rw [← hr7] at al7
      have len7 : rules7.length ≤ 6 := by
        rw [hr7, List.length_append, List.length_append, List.length_take, List.length_drop]
        show _ + 1 + _ ≤ 6
        omega
      have gone : GoodR (p.1, Tr.no 1) := ⟨gp.1, (by show Small 1; exact ⟨by decide, by decide⟩), (fun q hq => by cases hq), (by show 1 ≤ 10; decide)⟩
      have g7 : ∀ x ∈ rules7, GoodR x := fun x hx => by
        rw [hr7] at hx
        rcases List.mem_append.mp hx with m | m
        · rcases List.mem_append.mp m with m | m
          · exact gr x (List.mem_of_mem_take m)
          · rw [List.mem_singleton.mp m]; exact gone
        · exact gr x (List.mem_of_mem_drop m)
      have p7 : p ∈ rules7 := by
        rw [hr7]
        rw [← List.take_append_drop v5.toNat F.rules] at pm
        rcases List.mem_append.mp pm with m | m
        · exact List.mem_append.mpr (.inl (List.mem_append.mpr (.inl m)))
        · exact List.mem_append.mpr (.inr m)
      refine ⟨_, rfl, .inl ⟨rfl, _, SqL.of h7⟩, _, rfl, _, rfl, (by show 2 ≤ sizeLine; decide), fun q3 m3 => ?_⟩
      have u8 : Same H7 (upd H7 q3 (.tup [.str p.1, tv])) := same_new m3
      have hq3 : (upd H7 q3 (.tup [.str p.1, tv])) q3 = some (.tup [.str p.1, tv]) := upd_same
      generalize upd H7 q3 (.tup [.str p.1, tv]) = H8 at u8 hq3 ⊢
      have k8 := TK.same u8
      obtain ⟨j, z', e1, e2, e3⟩ := first_hit (l := rules7.map rlD) (p := fun x => PyData.eqv x (rlD p)) ⟨rlD p, List.mem_map.mpr ⟨p, p7, rfl⟩, SeqAt.eqv_refl _ (rl_neat gp).lay⟩
      have jl : j < rules7.length := by
        have := (List.getElem?_eq_some_iff.mp e1).1
        rwa [List.length_map] at this
      refine ⟨rl, .ref q3, rlD p, rules7.map rlD, j, z', rfl, rfl, .lst (SqL.of (u8 _ _ h7)) (rls_dp (al7.imp fun _ _ h => h.keep k8)), .tup (SqT.of hq3) (.cons (.str _) (.cons (htv7.keep k8).dp .nil)), rls_shaped g7, (rl_neat gp).shaped (by decide), e1, e2, e3, ?_⟩
      obtain ⟨wv7, w71, w72⟩ := w7
      exact last rfl (.inr trivial) (u8 _ _ i7) ⟨wv7, u8 _ _ w71, w72.imp fun _ _ h => h.keep k8⟩ (u8 _ _ h7) (al7.imp fun _ _ h => h.keep k8) (u8 _ _ o7) jl (by omega) g7 gp (htv7.keep k8) (F7.same u8) (B7.same u8)
    · have kF4 : Fo H4 il wl rl ol F := ⟨h1, h2, ⟨rv4, h3, h4⟩, h5⟩
      refine ⟨_, rfl, f, c, 6, rfl, by decide, by decide, F4, fun v6 H5 v60 v61 F5 B5 => ⟨_, _, rfl, rfl, (by show 4 ≤ sizeLine; decide), fun la nla => ?_⟩⟩
      generalize e9 : upd H5 la _ = H6
      have u6 : Same H5 H6 := by rw [← e9]; exact same_new nla
      have hla : H6 la = some (.lst [.int 0, .int 0, .int 0, .int (1 + v6)]) := by rw [← e9]; exact upd_same
      have laf : la ≠ f := F5.ne nla
      clear e9
      have F6 := F5.same u6
      refine ⟨_, rfl, f, c, 4, rfl, by decide, by decide, F6, fun v7 H7 v70 v71 F7 B7 => ?_⟩
      obtain ⟨a, ea, la6⟩ : ∃ a : Nat, atI [V.int 0, .int 0, .int 0, .int (1 + v6)] v7 = some (nV a) ∧ a ≤ 1000 := by
        have : v7 = 0 ∨ v7 = 1 ∨ v7 = 2 ∨ v7 = 3 := by omega
        rcases this with rfl | rfl | rfl | rfl
        · exact ⟨0, atI_nat (j := 0) rfl, by decide⟩
        · exact ⟨0, atI_nat (j := 1) rfl, by decide⟩
        · exact ⟨0, atI_nat (j := 2) rfl, by decide⟩
        · refine ⟨(1 + v6).toNat, ?_, by omega⟩
          rw [show nV (1 + v6).toNat = V.int (1 + v6) from congrArg V.int (by omega)]
          exact atI_nat (j := 3) rfl
      refine ⟨la, _, v7, _, rfl, rfl, SqL.of (B7 _ _ hla laf), ea, ?_⟩
      have B47 : But f H4 H7 := (B5.same u6).trans B7
      have htv7 := htv.keep (TK.but F4 B47)
      refine ⟨_, rfl, _, rfl, tv, p.2, rfl, htv7, Nat.le_trans p.2.dep_parts gp.2.2.2, by have := gp.2.2.2; omega, fun pu lu H8 nu hu alu su => ?_⟩
      have lal := alu.length
      have l40 := leans_len p.2
      have gp10 := gp.2.2.2
      obtain ⟨m, em, m1, m10⟩ : ∃ m : Nat, (if ((lu.length : Nat) : Int) > 1 then ((lu.length : Nat) : Int) else 1) = ((m : Nat) : Int) ∧ 1 ≤ m ∧ m ≤ 10 := by
        by_cases z : ((lu.length : Nat) : Int) > 1
        · rw [if_pos z]; exact ⟨lu.length, rfl, by omega, by omega⟩
        · rw [if_neg z]; exact ⟨1, rfl, by decide, by decide⟩
      have F8 := F7.same su
      have em2 : [V.ref f, V.int (if ((lu.length : Nat) : Int) > 1 then ((lu.length : Nat) : Int) else 1)] = [V.ref f, V.int ((m : Nat) : Int)] := by rw [em]
      refine ⟨pu, _, rfl, .inl (SqL.of hu), _, _, rfl, f, c, ((m : Nat) : Int), em2, by omega, log_small (by omega), F8, fun v9 H9 v90 v91 F9 B9 => ⟨(by show 1 ≤ sizeLine; decide), fun sp nsp => ?_⟩⟩
      have B49 : But f H4 H9 := (B47.same su).trans B9
      have u10 : Same H9 (upd H9 sp (.lst [.int v9])) := same_new nsp
      have hsp : (upd H9 sp (.lst [.int v9])) sp = some (.lst [.int v9]) := upd_same
      have F10 := F9.new (o := .lst [.int v9]) nsp
      have spf : sp ≠ f := F9.ne nsp
      have spc : sp ≠ c := F9.nec nsp
      have B410 : But f H4 (upd H9 sp (.lst [.int v9])) := B49.same u10
      have spH : ∀ {b : Addr} {xs : List V}, H4 b = some (.lst xs) → b ≠ f → b ≠ sp := fun {b xs} e n z => by
        have := B49 _ _ e n
        rw [z, nsp] at this
        cases this
      generalize upd H9 sp (.lst [.int v9]) = H10 at u10 hsp F10 B410 ⊢
      refine ⟨_, rfl, _, rfl, _, rfl, _, rfl, (by show 3 ≤ sizeLine; decide), fun lf nlf => ?_⟩
      have u11 : Same H10 (upd H10 lf (.tup [.str "name", .str z, nV a])) := same_new nlf
      have hlf : (upd H10 lf (.tup [.str "name", .str z, nV a])) lf = some (.tup [.str "name", .str z, nV a]) := upd_same
      have B411 : But f H4 (upd H10 lf (.tup [.str "name", .str z, nV a])) := B410.same u11
      have F11 := F10.same u11
      have hsp11 := u11 _ _ hsp
      generalize upd H10 lf (.tup [.str "name", .str z, nV a]) = H11 at u11 hlf B411 F11 hsp11 ⊢
      refine ⟨tv, sp, lf, p.2, v9, (z, a), rfl, htv.keep (TK.but F4 B411), Nat.le_trans (Nat.le_trans p.2.dep_parts gp10) (by decide), hsp11, ⟨lf, rfl, hlf⟩, fun v' t' i' H12 htr rep hsp12 bsp => ?_⟩
      have tk12 : TK H11 H12 := fun x xs e => bsp x _ e (ne_of e hsp11 (fun z => nomatch z))
      have k412 : TK H4 H12 := (TK.but F4 B411).trans tk12
      have lst : ∀ {b : Addr} {xs : List V}, H4 b = some (.lst xs) → b ≠ f → H12 b = some (.lst xs) := fun {b xs} e n => bsp _ _ (B411 _ _ e n) (spH e n)
      have F12 : Flow H12 f c := by
        obtain ⟨ns, i, p, q, r, e1, e2, e3⟩ := F11
        exact ⟨ns, i, p, q, r, bsp _ _ e1 spf.symm, bsp _ _ e2 spc.symm, e3⟩
      have B12 : But f H H12 := fun b o e n => by
        have h4 := B4 b o e n
        refine bsp _ _ (B411 _ _ h4 n) fun z => ?_
        have := B49 _ _ h4 n
        rw [z, nsp] at this
        cases this
      obtain ⟨wv4, w41, w42⟩ := h2
      refine last (nm := p.1) (t' := t') rfl (.inr trivial) (lst h1 ilf) ⟨wv4, lst w41 wlf, w42.imp fun _ _ h => h.keep k412⟩ (lst hrl4 rlf) (alr4.imp fun _ _ h => h.keep k412) (lst h5 olf) (by omega) (by omega) gr ⟨gp.1, rep.sm gp.2.1, fun q hq => ?_, by rw [rep.pt]; exact gp10⟩ htr F12 B12
      rcases rep.ln q hq with h | rfl
      · exact gp.2.2.1 q h
      · exact ⟨gz, la6⟩
  case tail1 =>
    rintro D' σ' H1 ⟨eD, il, wl, rl, ol, rfl, fo, ⟨ni, nw, nr, no, d1, d2, d3, d4, d5⟩, s1⟩
    have F1 := hF.same s1
    have B1 : But f H H1 := But.refl.same s1
    refine ⟨_, rfl, f, c, 8, rfl, by decide, by decide, F1, fun y H2 y0 y8 F2 B2 => ?_⟩
    have ilf : il ≠ f := hF.ne ni
    have wlf : wl ≠ f := hF.ne nw
    have rlf : rl ≠ f := hF.ne nr
    have olf : ol ≠ f := hF.ne no
    have notf : ∀ b, (b = il ∨ b = wl ∨ b = rl ∨ b = ol) → b ≠ f := fun b h => by rcases h with rfl | rfl | rfl | rfl <;> assumption
    have fo2 : Fo H2 il wl rl ol F := fo.keep (TK.but F1 B2) fun b xs h e => B2 _ _ e (notf b h)
    obtain ⟨hil, hwx, ⟨rv2, hrl, alr⟩, hol⟩ := fo2
    refine ⟨_, rfl, _, rfl, rl, rfl, ⟨_, SqL.of hrl⟩, fun D nD => ?_⟩
    refine lc_list (K := K) (a := rl) (xs := rv2) (fun i H9 => H9 D = some (.lst (((F.rules.take i).map (·.1)).map V.str)) ∧ Same H2 H9) ⟨upd_same, same_new nD⟩ (fun i H9 _ ⟨_, s9⟩ => SqL.of (s9 _ _ hrl)) ?_ ?_
    · rintro j z H9 hz ⟨hD, s9⟩
      obtain ⟨u, hu, b, x, rfl, hb, _⟩ := alr.getL hz
      refine ⟨b, _, rfl, SqT.of (s9 _ _ hb), rfl, _, _, rfl, _, _, rfl, rfl, rfl, yes_in ⟨_, rfl, _, hD, ?_, ?_, Same.own s9 nD⟩⟩
      · rw [List.length_map, List.length_map, List.length_take]
        exact small1000 (by omega)
      · rw [upd_same, List.take_add_one, hu, List.map_append, List.map_append]
        rfl
    rintro H3 ⟨hD, s3⟩
    rw [alr.length, List.take_length] at hD
    refine ⟨il, D, _, _, rfl, rfl, s3 _ _ hil, hD, by rw [List.length_map, List.length_map, List.length_map]; exact little (by omega), fun p np => ?_⟩
    have s4 : Same H3 (upd H3 p (.lst (F.ins.map V.str ++ (F.rules.map (·.1)).map V.str))) := same_new np
    have hp : (upd H3 p (.lst (F.ins.map V.str ++ (F.rules.map (·.1)).map V.str))) p = some (.lst (F.own.map V.str)) := by
      rw [upd_same, ← List.map_append]; rfl
    generalize upd H3 p (.lst (F.ins.map V.str ++ (F.rules.map (·.1)).map V.str)) = H4 at s4 hp ⊢
    have s24 := s3.trans s4
    have F4 := F2.same s24
    have pf := F4.neS hp
    refine ⟨_, rfl, f, c, 3, rfl, by decide, by decide, F4, fun w1 H5 g1 F5 B5 => ⟨(by show 4 ≤ sizeLine; decide), fun p5 np5 => ?_⟩⟩
    have hp55 : (upd H5 p5 (.lst [.str "in", .str "", .str "Ab9", .str w1])) p5 = some (.lst ((four w1).map V.str)) := upd_same
    have s6 : Same H5 (upd H5 p5 (.lst [.str "in", .str "", .str "Ab9", .str w1])) := same_new np5
    have F6 := F5.new (o := .lst [.str "in", .str "", .str "Ab9", .str w1]) np5
    have hp5 := s6 _ _ (B5 _ _ hp pf)
    generalize upd H5 p5 (.lst [.str "in", .str "", .str "Ab9", .str w1]) = H6 at hp55 s6 F6 hp5 ⊢
    have lown : F.own.length ≤ 9 := by
      unfold Fm.own
      rw [List.length_append, List.length_map]; omega
    refine ⟨p, p5, _, _, rfl, rfl, hp5, hp55, by rw [List.length_map, List.length_map]; exact little (by show _ + 4 ≤ 1000; omega), fun p7 np7 => ?_⟩
    have hp7 : (upd H6 p7 (.lst (F.own.map V.str ++ (four w1).map V.str))) p7 = some (.lst ((F.own ++ (four w1)).map V.str)) := by rw [upd_same, List.map_append]
    have s7 : Same H6 (upd H6 p7 (.lst (F.own.map V.str ++ (four w1).map V.str))) := same_new np7
    have F7 := F6.same s7
    generalize upd H6 p7 (.lst (F.own.map V.str ++ (four w1).map V.str)) = H7 at hp7 s7 F7 ⊢
    have p7f := F7.neS hp7
    have le : (F.own ++ (four w1)).length = F.own.length + 4 := List.length_append
    refine ⟨_, rfl, _, rfl, _, rfl, p7, _, rfl, .inl (SqL.of hp7), f, c, (((F.own ++ (four w1)).length : Nat) : Int), by rw [List.length_map, List.append_nil], by omega, log_small (by omega), F7, fun v2 H8 v20 v21 F8 B8 => ?_⟩
    obtain ⟨z, ez, mz⟩ := at_strs v20 v21
    refine ⟨p7, _, v2, _, rfl, rfl, SqL.of (B8 _ _ hp7 p7f), ez, ?_⟩
    have B28 : But f H2 H8 := ((((But.refl.same s24).trans B5).same s6).same s7).trans B8
    have gz : Nm z := by
      rcases List.mem_append.mp mz with m | m
      · rcases List.mem_append.mp m with m | m
        · exact lim.sm.i z m
        · obtain ⟨p, hp, rfl⟩ := List.mem_map.mp m
          exact (lim.sm.r p hp).1
      · simp only [List.mem_cons, List.not_mem_nil, or_false] at m
        rcases m with rfl | rfl | rfl | rfl
        · exact nm_in
        · exact nm_no
        · exact nm_ab
        · exact g1.nm (by decide)
    exact ⟨eD, il, wl, rl, ol, y, _, z, rfl, Fo.keep ⟨hil, hwx, ⟨rv2, hrl, alr⟩, hol⟩ (TK.but F2 B28) (fun b xs h e => B28 _ _ e (notf b h)), ⟨ni, nw, nr, no, d1, d2, d3, d4, d5⟩, gz, F8, (B1.trans B2).trans B28⟩
  refine ⟨_, rfl, r, rfl, ⟨_, SqT.of e0⟩, fun D nD => ?_⟩
  have src : ∀ (j : Nat) (v : V), [V.ref a1, .ref a2, .ref a3, .ref a4][j]? = some v → ∃ a xs, v = .ref a ∧ H a = some (.tup xs) ∧ [F.ins.map V.str, wv, rv, F.outs.map V.str][j]? = some xs := fun j v e => by
    match j, e with
    | 0, e => obtain rfl := Option.some.inj e; exact ⟨a1, _, rfl, e1, rfl⟩
    | 1, e => obtain rfl := Option.some.inj e; exact ⟨a2, _, rfl, e2, rfl⟩
    | 2, e => obtain rfl := Option.some.inj e; exact ⟨a3, _, rfl, e4, rfl⟩
    | 3, e => obtain rfl := Option.some.inj e; exact ⟨a4, _, rfl, e6, rfl⟩
    | j + 4, e => cases e
  refine lc_tup (K := K) (a := r) (xs := [.ref a1, .ref a2, .ref a3, .ref a4]) (fun i H5 => ∃ ls : List Addr, H5 D = some (.lst (ls.map V.ref)) ∧ ls.length = i ∧ (∀ (j : Nat) (l : Addr), ls[j]? = some l → ∃ xs, H5 l = some (.lst xs) ∧ [F.ins.map V.str, wv, rv, F.outs.map V.str][j]? = some xs ∧ H l = none ∧ l ≠ D) ∧ ls.Nodup ∧ Same H H5) ⟨[], upd_same, rfl, (fun j l e => by cases e), List.nodup_nil, same_new nD⟩ (fun i H5 _ ⟨_, _, _, _, _, s5⟩ => SqT.of (s5 _ _ e0)) ?_ ?_
  · rintro i v H5 hx ⟨ls, hD, ll, hl, nd, s5⟩
    obtain ⟨a, xs, rfl, ha, hxs⟩ := src i v hx
    have i4 : i < 4 := (List.getElem?_eq_some_iff.mp hx).1
    refine ⟨rfl, yes_in ⟨_, rfl, a, xs, rfl, .inr (SqT.of (s5 _ _ ha)), fun p np => ?_⟩⟩
    have u : Same H5 (upd H5 p (.lst xs)) := same_new np
    have hp : (upd H5 p (.lst xs)) p = some (.lst xs) := upd_same
    have pD : p ≠ D := fun z => by rw [z, hD] at np; cases np
    have pls : p ∉ ls := fun z => by
      obtain ⟨j, ej⟩ := List.getElem?_of_mem z
      obtain ⟨ys, e, _⟩ := hl j p ej
      rw [e] at np
      cases np
    refine ⟨_, u _ _ hD, by rw [List.length_map]; exact small1000 (by omega), ls ++ [p], by rw [upd_same, List.map_append]; rfl, by rw [List.length_append, ll]; rfl, fun j l e => ?_, ?_, Same.own (s5.trans u) nD⟩
    · by_cases c : j < ls.length
      · rw [List.getElem?_append_left c] at e
        obtain ⟨ys, g1, g2, g3, g4⟩ := hl j l e
        exact ⟨ys, by rw [upd_ne g4]; exact u _ _ g1, g2, g3, g4⟩
      · rw [List.getElem?_append_right (by omega)] at e
        have j0 : j = i := by
          have := (List.getElem?_eq_some_iff.mp e).1
          have : j - ls.length < 1 := this
          omega
        subst j0
        rw [ll, Nat.sub_self] at e
        obtain rfl := Option.some.inj e
        exact ⟨xs, by rw [upd_ne pD]; exact hp, hxs, same_none s5 np, pD⟩
    · rw [List.nodup_append]
      exact ⟨nd, by simp, fun x hx y hy e => pls (by rw [← List.mem_singleton.mp hy, ← e]; exact hx)⟩
  rintro H5 ⟨ls, hD, ll, hl, nd, s5⟩
  obtain ⟨il, wl, rl, ol, rfl⟩ : ∃ a b c d, ls = [a, b, c, d] := by
    match ls, ll with
    | [a, b, c, d], _ => exact ⟨a, b, c, d, rfl⟩
  obtain ⟨_, g1, k1, ni, _⟩ := hl 0 il rfl
  obtain rfl := Option.some.inj k1
  obtain ⟨_, g2, k2, nw, _⟩ := hl 1 wl rfl
  obtain rfl := Option.some.inj k2
  obtain ⟨_, g3, k3, nr, _⟩ := hl 2 rl rfl
  obtain rfl := Option.some.inj k3
  obtain ⟨_, g4, k4, no, _⟩ := hl 3 ol rfl
  obtain rfl := Option.some.inj k4
  simp only [List.nodup_cons, List.mem_cons, List.not_mem_nil, or_false, not_or] at nd
  obtain ⟨⟨n1, n2, n3⟩, ⟨n4, n5⟩, n6, _⟩ := nd
  refine ⟨D, _, rfl, SqL.of hD, rfl, _, _, rfl, _, _, rfl, _, _, rfl, _, _, rfl, rfl, ?_⟩
  exact ⟨rfl, il, wl, rl, ol, rfl, ⟨g1, ⟨wv, g2, e3.imp fun _ _ z => z.keep (TK.same s5)⟩, ⟨rv, g3, e5.imp fun _ _ z => z.keep (TK.same s5)⟩, g4⟩, ⟨ni, nw, nr, no, fun e => n1 e.symm, n4, n5, fun e => n2 e.symm, n6⟩, s5⟩
end
/-! ### rules that hang on one another -/
section
variable {P : Program} {w : World} {K : PySem.W.Frag} {mg : Str → Option Value} {base : Heap}
def sp_law_round (K : PySem.W.Frag) : Sp := fun vs H Q _ => ∃ f c : Addr, vs = [.ref f] ∧ Flow H f c ∧ ∀ (r : Addr) (F : Fm) (H' : Hp), FmAt H' r F → Lim 4 0 5 4 F → Flow H' f c → But f H H' → Q (.ref r) H'
theorem ok_law_round {f : Addr} {fd : FuncData} (F : Fun K "_law_round" "_law_round" s_law_round f fd) (T : Top w K mg) : FnOk P w K mg base CX0 4 f fd ["_law_flow_here"] (sp_law_round K) := by
  obtain ⟨f_law_names, fd_law_names, F_law_names, b_law_names, m_law_names⟩ := T.d_law_names
  have G_law_names := ok_law_names (P := P) (w := w) (base := base) F_law_names T
  obtain ⟨f_law_pick, fd_law_pick, F_law_pick, b_law_pick, m_law_pick⟩ := T.d_law_pick
  have G_law_pick := ok_law_pick (P := P) (w := w) (base := base) F_law_pick T
  refine F.ok sc_law_round (fun vs H Q E h => ?_) (fun cdv A outer s H vs Q E hr h => ?_)
  · obtain ⟨f, c, rfl, _⟩ := h
    rfl
  obtain ⟨f, c, rfl, hF, q⟩ := h
  refine ⟨_, (pss_cons (ps_set (i := 1) sc_law_round.nd rfl (Or.inl rfl) (pe_call G_law_names (hr.mono (by decide)) (by rfl) m_law_names F_law_names.kp b_law_names .nil pass0 (pa_cons (pv 0) (pa_cons (pe_op op_add pe_int (pe_call G_law_pick (hr.mono (by decide)) (by rfl) m_law_pick F_law_pick.kp b_law_pick .nil pass0 (pa_cons (pv 0) (pa_cons pe_int pa_nil)))) pa_nil))))
      (pss_cons (ps_set (i := 2) sc_law_round.nd rfl (Or.inl rfl) (pe_lst pa_nil))
      (pss_cons (ps_for PassesOwn.never rfl (pi_listK K rfl (pv 1)) (pg_name (i := 3) sc_law_round.nd rfl (Or.inl rfl))
        (pss_cons (ps_set (i := 4) sc_law_round.nd rfl (Or.inl rfl) (pe_tup (pa_cons pe_str (pa_cons (pe_ix (ix_listK K rfl) (pv 1) (pe_call G_law_pick (hr.mono (by decide)) (by rfl) m_law_pick F_law_pick.kp b_law_pick .nil pass0 (pa_cons (pv 0) (pa_cons (pe_callB (call_len_seqK K rfl) (by rfl) T.m_len (by decide +kernel) (pa_cons (pv 1) pa_nil)) pa_nil))) (fun _ _ => rfl)) (pa_cons (pe_ix (ix_listK K rfl) (pe_lst (pa_cons pe_int (pa_cons pe_int (pa_cons pe_int (pa_cons pe_int pa_nil))))) (pe_call G_law_pick (hr.mono (by decide)) (by rfl) m_law_pick F_law_pick.kp b_law_pick .nil pass0 (pa_cons (pv 0) (pa_cons pe_int pa_nil))) (fun _ _ => rfl)) pa_nil)))))
      (pss_cons (ps_set (i := 5) sc_law_round.nd rfl (Or.inl rfl) (pe_tup (pa_cons pe_str (pa_cons (pe_ix (ix_listK K rfl) (pv 1) (pe_call G_law_pick (hr.mono (by decide)) (by rfl) m_law_pick F_law_pick.kp b_law_pick .nil pass0 (pa_cons (pv 0) (pa_cons (pe_callB (call_len_seqK K rfl) (by rfl) T.m_len (by decide +kernel) (pa_cons (pv 1) pa_nil)) pa_nil))) (fun _ _ => rfl)) (pa_cons (pe_op op_add pe_int (pe_call G_law_pick (hr.mono (by decide)) (by rfl) m_law_pick F_law_pick.kp b_law_pick .nil pass0 (pa_cons (pv 0) (pa_cons pe_int pa_nil)))) pa_nil)))))
      (pss_one (ps_expr (pe_bmK K rfl PySem.F.plainAttrs_list PySem.F.slot_list_append PySem.F.type_list_append mt_append (pv 2) (pa_cons (pe_tup (pa_cons (pv 3) (pa_cons (pe_ix (ix_listK K rfl) (pe_lst (pa_cons (pv 4) (pa_cons (pe_tup (pa_cons pe_str (pa_cons (pv 5) (pa_cons (pv 4) pa_nil)))) (pa_cons (pe_tup (pa_cons pe_str (pa_cons pe_int (pa_cons (pv 4) pa_nil)))) pa_nil)))) (pe_call G_law_pick (hr.mono (by decide)) (by rfl) m_law_pick F_law_pick.kp b_law_pick .nil pass0 (pa_cons (pv 0) (pa_cons pe_int pa_nil))) (fun _ _ => rfl)) pa_nil))) pa_nil)))))))
      (pss_one (ps_ret (pe_tup (pa_cons (pe_tup pa_nil) (pa_cons (pe_tup pa_nil) (pa_cons (pe_callTy (call_tuple_ofK K rfl) (by rfl) T.m_tuple (by decide +kernel) (pa_cons (pv 2) pa_nil)) (pa_cons (pe_callTy (call_tuple_ofK K rfl) (by rfl) T.m_tuple (by decide +kernel) (pa_cons (pe_slice (sl_listK K rfl) (pv 1) po_none (po_some (pe_call G_law_pick (hr.mono (by decide)) (by rfl) m_law_pick F_law_pick.kp b_law_pick .nil pass0 (pa_cons (pv 0) (pa_cons pe_int pa_nil))))) pa_nil)) pa_nil)))))))))), ?_⟩
  refine ⟨_, rfl, _, rfl, f, c, 5, rfl, by decide, by decide, hF, fun v0 H0 v00 v01 F0 B0 => ⟨_, _, rfl, rfl, ?_⟩⟩
  obtain ⟨m, em, m1, m5⟩ : ∃ m : Nat, 1 + v0 = ((m : Nat) : Int) ∧ 1 ≤ m ∧ m ≤ 5 := ⟨(1 + v0).toNat, by omega, by omega, by omega⟩
  have ea : [V.ref f, V.int (1 + v0)] = [V.ref f, nV m] := by rw [em]
  refine ⟨f, c, m, ea, m1, by omega, F0, fun nl ns H1 n1 hnl ln nd wd F1 B1 => ?_⟩
  have nlf := F1.neS hnl
  replace B1 := B0.trans B1
  refine ⟨(by show 0 ≤ sizeLine; decide), fun D nD => ?_⟩
  have Df : D ≠ f := F1.ne nD
  have Dc : D ≠ c := F1.nec nD
  have nlD : nl ≠ D := ne_of_none hnl nD
  have F2 := F1.new (o := .lst []) nD
  have B2 := B1.new (o := .lst []) nD
  have nD0 : H D = none := But.none B1 nD Df
  have hD2 : (upd H1 D (.lst [])) D = some (.lst []) := upd_same
  have hnl2 := same_new (o := .lst []) nD _ _ hnl
  generalize upd H1 D (.lst []) = H2 at F2 B2 hD2 hnl2 ⊢
  have gn : ∀ z ∈ ns, Nm z := fun z hz => (wd z hz).1.nm (by decide)
  refine ⟨_, rfl, nl, rfl, ⟨_, SqL.of hnl2⟩, for_list (K := K) (a := nl) (xs := ns.map V.str) (fun i σ H5 => ∃ (v3 v4 v5 : Option V) (rv : List V) (rules : List (Str × Tr)), σ = [some (.ref f), some (.ref nl), some (.ref D), v3, v4, v5] ∧ H5 nl = some (.lst (ns.map V.str)) ∧ H5 D = some (.lst rv) ∧ All2 (RlAt H5) rv rules ∧ rules.length = i ∧ (∀ p ∈ rules, GoodR p) ∧ Flow H5 f c ∧ But f H H5) ⟨none, none, none, [], [], rfl, hnl2, hD2, .nil, rfl, (fun _ h => by cases h), F2, B2⟩ (fun i σ H5 _ ⟨_, _, _, _, _, _, h, _⟩ => SqL.of h) ?_ ?_⟩
  · rintro i v σ H5 hx ⟨v3, v4, v5, rv, rules, rfl, hnl5, hD5, al, li, gr, F5, B5⟩
    rw [List.getElem?_map] at hx
    cases ez : ns[i]? with
    | none => rw [ez] at hx; cases hx
    | some z =>
    rw [ez] at hx
    obtain rfl : V.str z = v := Option.some.inj hx
    have il := (List.getElem?_eq_some_iff.mp ez).1
    have lal := al.length
    -- the leaf
    refine ⟨_, rfl, _, rfl, _, rfl, nl, _, rfl, .inl (SqL.of hnl5), f, c, ((ns.length : Nat) : Int), by rw [List.length_map, List.append_nil], by omega, log_small (by omega), F5, fun v6 H6 v60 v61 F6 B6 => ?_⟩
    have hnl6 := B6 _ _ hnl5 nlf
    obtain ⟨z1, ez1, mz1⟩ := at_strs v60 v61
    refine ⟨nl, _, v6, _, rfl, rfl, SqL.of hnl6, ez1, (by show 4 ≤ sizeLine; decide), fun la nla => ?_⟩
    generalize e9 : upd H6 la _ = H7
    have u7 : Same H6 H7 := by rw [← e9]; exact same_new nla
    have hla : H7 la = some (.lst [.int 0, .int 0, .int 0, .int 1]) := by rw [← e9]; exact upd_same
    have laf : la ≠ f := F6.ne nla
    clear e9
    have F7 := F6.same u7
    refine ⟨_, rfl, f, c, 4, rfl, by decide, by decide, F7, fun v8 H8 v80 v81 F8 B8 => ?_⟩
    obtain ⟨a, ea, la1⟩ : ∃ a : Nat, atI [V.int 0, .int 0, .int 0, .int 1] v8 = some (nV a) ∧ a ≤ 1000 := by
      have : v8 = 0 ∨ v8 = 1 ∨ v8 = 2 ∨ v8 = 3 := by omega
      rcases this with rfl | rfl | rfl | rfl
      · exact ⟨0, atI_nat (j := 0) rfl, by decide⟩
      · exact ⟨0, atI_nat (j := 1) rfl, by decide⟩
      · exact ⟨0, atI_nat (j := 2) rfl, by decide⟩
      · exact ⟨1, atI_nat (j := 3) rfl, by decide⟩
    refine ⟨la, _, v8, _, rfl, rfl, SqL.of (B8 _ _ hla laf), ea, (by show 3 ≤ sizeLine; decide), fun lf nlf2 => ?_⟩
    generalize e9 : upd H8 lf _ = H9
    have u9 : Same H8 H9 := by rw [← e9]; exact same_new nlf2
    have hlf : TrAt H9 (.ref lf) (.nm z1 a) := ⟨lf, rfl, by rw [← e9]; exact upd_same⟩
    clear e9
    have F9 := F8.same u9
    have B59 : But f H5 H9 := (((B6.same u7).trans B8).same u9)
    have hnl9 := B59 _ _ hnl5 nlf
    -- the other one
    refine ⟨_, rfl, _, rfl, _, rfl, nl, _, rfl, .inl (SqL.of hnl9), f, c, ((ns.length : Nat) : Int), by rw [List.length_map, List.append_nil], by omega, log_small (by omega), F9, fun v10 H10 v100 v101 F10 B10 => ?_⟩
    obtain ⟨z2, ez2, mz2⟩ := at_strs v100 v101
    refine ⟨nl, _, v10, _, rfl, rfl, SqL.of (B10 _ _ hnl9 nlf), ez2, _, rfl, f, c, 6, rfl, by decide, by decide, F10, fun v11 H11 v110 v111 F11 B11 => ⟨_, _, rfl, rfl, (by show 3 ≤ sizeLine; decide), fun ot not => ?_⟩⟩
    generalize e9 : upd H11 ot _ = H12
    have u12 : Same H11 H12 := by rw [← e9]; exact same_new not
    have hot : TrAt H12 (.ref ot) (.nm z2 (1 + v11).toNat) := ⟨ot, rfl, by rw [← e9, upd_same, show nV (1 + v11).toNat = V.int (1 + v11) from congrArg V.int (by omega)]⟩
    clear e9
    have F12 := F11.same u12
    have B912 : But f H9 H12 := (B10.trans B11).same u12
    have hlf12 := hlf.keep (TK.but F9 B912)
    have B512 := B59.trans B912
    -- the rule
    have hD12 := B512 _ _ hD5 Df
    refine ⟨_, rfl, .inl ⟨rfl, _, SqL.of hD12⟩, _, rfl, _, rfl, _, rfl, _, rfl, (by show 3 ≤ sizeLine; decide), fun t1 nt1 => ⟨_, rfl, (by show 3 ≤ sizeLine; decide), fun t2 nt2 => ⟨(by show 3 ≤ sizeLine; decide), fun l3 nl3 => ?_⟩⟩⟩
    generalize e9 : upd (upd (upd H12 t1 _) t2 _) l3 _ = H13
    have u13 : Same H12 H13 := by rw [← e9]; exact (same_new nt1).trans ((same_new nt2).trans (same_new nl3))
    have ht1 : H13 t1 = some (.tup [.str "gap", .ref ot, .ref lf]) := by rw [← e9]; exact same_new nl3 _ _ (same_new nt2 _ _ upd_same)
    have ht2 : H13 t2 = some (.tup [.str "times", .int 3, .ref lf]) := by rw [← e9]; exact same_new nl3 _ _ upd_same
    have hl3 : H13 l3 = some (.lst [.ref lf, .ref t1, .ref t2]) := by rw [← e9]; exact upd_same
    clear e9
    have F13 := F12.same u13
    have l3f : l3 ≠ f := fun e => by
      obtain ⟨_, _, _, _, _, e1, _⟩ := F13
      rw [e, e1] at hl3
      cases hl3
    have hlf13 := hlf12.keep (TK.same u13)
    have hot13 := hot.keep (TK.same u13)
    refine ⟨_, rfl, f, c, 3, rfl, by decide, by decide, F13, fun v14 H14 v140 v141 F14 B14 => ?_⟩
    have sml : ∀ q ∈ (Tr.nm z1 a).leans, Nm q.1 ∧ q.2 ≤ 1000 := fun q hq => by
      rw [List.mem_singleton.mp hq]; exact ⟨gn z1 mz1, la1⟩
    have smo : ∀ q ∈ (Tr.nm z2 (1 + v11).toNat).leans, Nm q.1 ∧ q.2 ≤ 1000 := fun q hq => by
      rw [List.mem_singleton.mp hq]; exact ⟨gn z2 mz2, by show (1 + v11).toNat ≤ 1000; omega⟩
    obtain ⟨tv, t', et, htr, gt⟩ : ∃ (tv : V) (t' : Tr), atI [V.ref lf, .ref t1, .ref t2] v14 = some tv ∧ TrAt H13 tv t' ∧ GoodR (z, t') := by
      have gz := gn z (List.mem_of_getElem? ez)
      have : v14 = 0 ∨ v14 = 1 ∨ v14 = 2 := by omega
      rcases this with rfl | rfl | rfl
      · exact ⟨_, _, atI_nat (j := 0) rfl, hlf13, gz, trivial, sml, by show 1 ≤ 10; decide⟩
      · refine ⟨_, .o2 .gap (.nm z2 (1 + v11).toNat) (.nm z1 a), atI_nat (j := 1) rfl, ⟨t1, _, _, rfl, ht1, hot13, hlf13⟩, gz, ⟨trivial, trivial⟩, fun q hq => ?_, by show 3 ≤ 10; decide⟩
        rcases List.mem_append.mp hq with h | h
        · exact smo q h
        · exact sml q h
      · exact ⟨_, .tm 3 (.nm z1 a), atI_nat (j := 2) rfl, ⟨t2, _, rfl, ht2, hlf13⟩, gz, ⟨⟨by decide, by decide⟩, trivial⟩, sml, by show 2 ≤ 10; decide⟩
    refine ⟨l3, _, v14, _, rfl, rfl, SqL.of (B14 _ _ hl3 l3f), et, (by show 2 ≤ sizeLine; decide), fun pt npt => ?_⟩
    have u15 : Same H14 (upd H14 pt (.tup [.str z, tv])) := same_new npt
    have hpt : (upd H14 pt (.tup [.str z, tv])) pt = some (.tup [.str z, tv]) := upd_same
    have F15 := F14.same u15
    have B515 : But f H5 (upd H14 pt (.tup [.str z, tv])) := ((B512.same u13).trans B14).same u15
    have htr15 := (htr.keep (TK.but F13 B14)).keep (TK.same u15)
    have hD15 := B515 _ _ hD5 Df
    have hnl15 := B515 _ _ hnl5 nlf
    generalize upd H14 pt (.tup [.str z, tv]) = H15 at u15 hpt F15 B515 htr15 hD15 hnl15 ⊢
    have kd : TK H15 (upd H15 D (.lst (rv ++ [.ref pt]))) := TK.lst hD15
    refine ⟨D, _, _, rfl, rfl, hD15, small1000 (by omega), _, _, _, rv ++ [.ref pt], rules ++ [(z, t')], rfl, by rw [upd_ne nlD]; exact hnl15, upd_same, (al.imp fun _ _ h => (h.keep (TK.but F5 B515)).keep kd).snoc ⟨pt, tv, rfl, kd _ _ hpt, htr15.keep kd⟩, by rw [List.length_append, li]; rfl, fun p hp => ?_, F15.lst Df Dc, (B5.trans B515).own nD0⟩
    rcases List.mem_append.mp hp with h | h
    · exact gr p h
    · rw [List.mem_singleton.mp h]; exact gt
  · rintro σ H5 ⟨v3, v4, v5, rv, rules, rfl, hnl5, hD5, al, li, gr, F5, B5⟩
    rw [List.length_map] at li
    refine ⟨(by show 0 ≤ sizeLine; decide), fun q1 m1 => ⟨(by show 0 ≤ sizeLine; decide), fun q2 m2 => ?_⟩⟩
    generalize e9 : upd (upd H5 q1 _) q2 _ = H6
    have u6 : Same H5 H6 := by rw [← e9]; exact (same_new m1).trans (same_new m2)
    have hq1 : H6 q1 = some (.tup []) := by rw [← e9]; exact same_new m2 _ _ upd_same
    have hq2 : H6 q2 = some (.tup []) := by rw [← e9]; exact upd_same
    have q1f : q1 ≠ f := F5.ne m1
    have q2f : q2 ≠ f := (F5.new (o := .tup []) m1).ne m2
    clear e9
    have F6 := F5.same u6
    refine ⟨_, rfl, D, _, rfl, .inl ⟨SqL.of (u6 _ _ hD5), fun q3 m3 => ?_⟩⟩
    have u7 : Same H6 (upd H6 q3 (.tup rv)) := same_new m3
    have hq3 : (upd H6 q3 (.tup rv)) q3 = some (.tup rv) := upd_same
    have q3f : q3 ≠ f := F6.ne m3
    have F7 := F6.same u7
    generalize upd H6 q3 (.tup rv) = H7 at u7 hq3 F7 ⊢
    have u57 := u6.trans u7
    refine ⟨_, rfl, ?_⟩
    dsimp only [tNoPart]
    refine ⟨_, rfl, f, c, 3, rfl, by decide, by decide, F7, fun v8 H8 v80 v81 F8 B8 => ⟨v8, rfl, nl, _, rfl, SqL.of (B8 _ _ (u57 _ _ hnl5) nlf), fun sl nsl => ?_⟩⟩
    obtain ⟨k, rfl⟩ : ∃ k : Nat, v8 = ((k : Nat) : Int) := ⟨v8.toNat, by omega⟩
    rw [cut_take, ← List.map_take]
    have u9 : Same H8 (upd H8 sl (.lst ((ns.take k).map V.str))) := same_new nsl
    have hsl : (upd H8 sl (.lst ((ns.take k).map V.str))) sl = some (.lst ((ns.take k).map V.str)) := upd_same
    have F9 := F8.same u9
    generalize upd H8 sl (.lst ((ns.take k).map V.str)) = H9 at u9 hsl F9 ⊢
    refine ⟨sl, _, rfl, .inl ⟨SqL.of hsl, fun q4 m4 => ⟨(by show 4 ≤ sizeLine; decide), fun rr nr => ?_⟩⟩⟩
    have u10 : Same H9 (upd H9 q4 (.tup ((ns.take k).map V.str))) := same_new m4
    have hq4 : (upd H9 q4 (.tup ((ns.take k).map V.str))) q4 = some (.tup ((ns.take k).map V.str)) := upd_same
    generalize upd H9 q4 (.tup ((ns.take k).map V.str)) = H10 at u10 hq4 nr ⊢
    have u11 : Same H10 (upd H10 rr (.tup [.ref q1, .ref q2, .ref q3, .ref q4])) := same_new nr
    have B711 : But f H7 (upd H10 rr (.tup [.ref q1, .ref q2, .ref q3, .ref q4])) := B8.same (u9.trans (u10.trans u11))
    refine q rr ⟨[], [], rules, ns.take k⟩ _ ⟨q1, q2, q3, q4, [], rv, upd_same, B711 _ _ (u7 _ _ hq1) q1f, B711 _ _ (u7 _ _ hq2) q2f, .nil, B711 _ _ hq3 q3f, al.imp fun _ _ h => (h.keep (TK.same u57)).keep (TK.but F7 B711), u11 _ _ hq4⟩ ⟨⟨(fun _ h => by cases h), fun z hz => gn z (List.mem_of_mem_take hz), (fun _ h => by cases h), gr⟩, Nat.zero_le _, Nat.zero_le _, by show rules.length ≤ 5; omega, ?_⟩ ((F9.same u10).same u11) ((B5.same u57).trans B711)
    show (ns.take k).length ≤ 4
    rw [List.length_take]; omega
end
def dueD : Option (Str × Str) → PyData
  | none => .str "let by"
  | some (z, x) => .tuple [.str z, .str x]
theorem DueV.dp {K : PySem.W.Frag} {H : Hp} {v : V} {o : Option (Str × Str)} (h : DueV H v o) : Dp K H v (dueD o) := by
  cases o with
  | none =>
    obtain rfl : v = .str "let by" := h
    exact .str _
  | some p =>
    obtain ⟨p, rfl, e⟩ := h
    exact .tup (SqT.of e) (.cons (.str _) (.cons (.str _) .nil))
theorem DueV.same {H H' : Hp} {v : V} {o : Option (Str × Str)} (h : DueV H v o) (s : Same H H') : DueV H' v o := by
  cases o with
  | none => exact h
  | some p =>
    obtain ⟨p, rfl, e⟩ := h
    exact ⟨p, rfl, s _ _ e⟩
theorem look_word {F : Fm} {z x : Str} (h : lookO F = some (z, x)) : z ∈ ([("twice" : Str), "again", "lost", "ring"] : List Str) ∧ (x ∈ F.own ∨ x ∈ F.kept ∨ x ∈ F.used) := by
  have dm : ∀ {l : List Str} {x : Str}, dupO l = some x → x ∈ l := fun {l x} e => by
    unfold dupO at e
    cases c : firstN l.length (dupB l) with
    | none => rw [c] at e; cases e
    | some i =>
      rw [c] at e
      exact List.mem_of_getElem? e
  unfold lookO at h
  split at h
  · rename_i y e
    obtain ⟨rfl, rfl⟩ := Prod.mk.inj (Option.some.inj h)
    exact ⟨by simp, .inl (dm e)⟩
  · split at h
    · rename_i y e
      obtain ⟨rfl, rfl⟩ := Prod.mk.inj (Option.some.inj h)
      exact ⟨by simp, .inr (.inl (dm e))⟩
    · split at h
      · rename_i y e
        obtain ⟨rfl, rfl⟩ := Prod.mk.inj (Option.some.inj h)
        exact ⟨by simp, .inr (.inr (List.mem_of_find?_eq_some e))⟩
      · split at h
        · rename_i y e
          obtain ⟨rfl, rfl⟩ := Prod.mk.inj (Option.some.inj h)
          unfold ringO at e
          exact ⟨by simp, .inl (List.mem_append.mpr (.inr (List.mem_of_find?_eq_some e)))⟩
        · cases h
theorem SmF.used {F : Fm} (sm : SmF F) : ∀ z, (z ∈ F.own ∨ z ∈ F.kept ∨ z ∈ F.used) → Nm z := by
  have ow : ∀ z ∈ F.own, Nm z := fun z hz => by
    rcases List.mem_append.mp hz with m | m
    · exact sm.i z m
    · obtain ⟨p, hp, rfl⟩ := List.mem_map.mp m
      exact (sm.r p hp).1
  have kp : ∀ z ∈ F.kept, Nm z := fun z hz => by
    obtain ⟨p, hp, rfl⟩ := List.mem_map.mp hz
    exact (sm.w p hp).1
  intro z h
  rcases h with h | h | h
  · exact ow z h
  · exact kp z h
  · rcases List.mem_append.mp h with h | h
    · rcases List.mem_append.mp h with h | h
      · exact kp z h
      · obtain ⟨p, hp, hz⟩ := List.mem_flatMap.mp h
        obtain ⟨q, hq, rfl⟩ := List.mem_map.mp hz
        exact ((sm.r p hp).2.2.1 q hq).1
    · exact sm.o z h
theorem due_lay {F : Fm} (sm : SmF F) : (dueD (lookO F)).canLay0 = true ∧ SeqAt.shaped (dueD (lookO F)) = true := by
  have key : ∀ o : Option (Str × Str), (∀ p, o = some p → Nm p.1 ∧ Nm p.2) → ∃ n, Neat (dueD o) 1 n := fun o h => by
    cases o with
    | none => exact ⟨9, Neat.str (by decide +kernel) (by decide +kernel)⟩
    | some p =>
      obtain ⟨g1, g2⟩ := h p rfl
      exact ⟨_, Neat.tup (.cons (Neat.str (dp := 0) g1.lay g1.few) (.cons (Neat.str g2.lay g2.few) .nil))⟩
  obtain ⟨n, ne⟩ := key (lookO F) fun p e => by
    obtain ⟨z, x⟩ := p
    obtain ⟨g1, g2⟩ := look_word e
    refine ⟨?_, sm.used x g2⟩
    show Nm z
    simp only [List.mem_cons, List.not_mem_nil, or_false] at g1
    rcases g1 with rfl | rfl | rfl | rfl <;> exact ⟨by decide +kernel, by decide +kernel⟩
  exact ⟨ne.lay, ne.shaped (by decide)⟩
theorem GFm.ok {most : Nat} {F : Fm} (g : GFm most F) (m : most ≤ 5) : FmOk F := ⟨by have := g.li; omega, by have := g.lw; omega, by have := g.lr; omega, by have := g.lo; omega, fun p hp => by have := (g.tr p hp).1; omega⟩
theorem GFm.sm {most : Nat} {F : Fm} (g : GFm most F) : SmF F := by
  have ow : ∀ z ∈ F.own, Nm z := fun z hz => (g.wd z hz).1.nm (by decide)
  refine ⟨fun z hz => ow z (List.mem_append.mpr (.inl hz)), fun z hz => ow z (g.oo z hz), fun p hp => ⟨ow _ (g.ko _ (List.mem_map.mpr ⟨p, hp, rfl⟩)), ?_, (g.th p hp).2⟩, fun p hp => ⟨ow _ (List.mem_append.mpr (.inr (List.mem_map.mpr ⟨p, hp, rfl⟩))), (g.tr p hp).2.1, fun q hq => ?_, (g.tr p hp).1⟩⟩
  · have := (g.th p hp).1; omega
  · obtain ⟨h1, h2⟩ := (g.tr p hp).2.2 q hq
    exact ⟨ow _ h1, by omega⟩
theorem nodup_dup {l : List Str} (nd : l.Nodup) : dupO l = none := by
  unfold dupO
  rw [firstN_none fun j hj => ?_]
  · rfl
  · unfold dupB
    rw [List.getElem?_eq_getElem hj]
    refine decide_eq_false fun m => ?_
    obtain ⟨i, hi, ei⟩ := List.mem_take_iff_getElem.mp m
    have := nodup_get nd (List.getElem?_eq_some_iff.mpr ⟨by omega, ei⟩) (List.getElem?_eq_getElem hj)
    omega
theorem GFm.letby {most : Nat} {F : Fm} (g : GFm most F) : lookO F = none := by
  have e1 := nodup_dup g.nd
  have e2 : dupO F.kept = none := nodup_dup g.kn
  have e3 : lostO F.used F.own = none := by
    unfold lostO
    rw [List.find?_eq_none]
    intro z hz c
    refine of_decide_eq_true c ?_
    rcases List.mem_append.mp hz with h | h
    · rcases List.mem_append.mp h with h | h
      · exact g.ko z h
      · obtain ⟨p, hp, hz⟩ := List.mem_flatMap.mp h
        obtain ⟨q, hq, rfl⟩ := List.mem_map.mp hz
        exact ((g.tr p hp).2.2 q hq).1
    · exact g.oo z h
  have e4 : ringO F.rules = Option.none := by
    classical
    unfold ringO
    rw [List.find?_eq_none]
    intro z hz c
    obtain ⟨rk, hr⟩ := g.rk
    have step : ∀ x, ∀ y ∈ stF F.rules x, rk y < rk x := fun x y hy => by
      unfold stF at hy
      split at hy
      · rename_i p e
        have pm := List.mem_of_find?_eq_some e
        have px := of_decide_eq_true (List.find?_some (p := fun p : Str × Tr => decide (p.1 = x)) e)
        obtain ⟨q, hq, rfl⟩ := List.mem_map.mp hy
        obtain ⟨q1, q2⟩ := List.mem_filter.mp hq
        rw [Bool.and_eq_true, decide_eq_true_eq] at q2
        rw [← px]
        exact hr p pm q q1 q2.1
      · cases hy
    have on : ∀ {x y : Str}, OnW (stF F.rules) x y → rk y < rk x := fun {x y} h => by
      induction h with
      | one m => exact step _ _ m
      | more _ m ih => exact Nat.lt_trans (step _ _ m) ih
    exact Nat.lt_irrefl _ (on (of_decide_eq_true c))
  unfold lookO
  rw [e1]; dsimp only; rw [e2]; dsimp only; rw [e3]; dsimp only; rw [e4]
theorem Lim.ok {b : Nat} {F : Fm} (l : Lim 4 b 5 4 F) (m : b ≤ 40) : FmOk F := ⟨by have := l.i; omega, by have := l.w; omega, by have := l.r; omega, by have := l.o; omega, fun p hp => by have := (l.sm.r p hp).2.2.2; omega⟩
theorem Lim.up {b b' : Nat} {F : Fm} (l : Lim 4 b 5 4 F) (m : b ≤ b') : Lim 4 b' 5 4 F := ⟨l.sm, l.i, Nat.le_trans l.w m, l.r, l.o⟩
section
variable {P : Program} {w : World} {K : PySem.W.Frag} {mg : Str → Option Value} {base : Heap}
def sp_law (K : PySem.W.Frag) : Sp := fun vs H Q _ => ∃ (a : Addr) (ns : List Int), vs = [.ref a] ∧ SqL K H a (ns.map V.int) ∧ ns.length ≤ 63 ∧ ∀ H', Q (.bl true) H'
theorem ok_law {f : Addr} {fd : FuncData} (F : Fun K "law" "law" s_law f fd) (T : Top w K mg) : FnG P w K mg base CX0 14 f fd ["_law_script"] (sp_law K) := by
  obtain ⟨f_law_flow, fd_law_flow, F_law_flow, b_law_flow, m_law_flow⟩ := T.d_law_flow
  have G_law_flow := ok_law_flow (P := P) (w := w) (base := base) F_law_flow T
  obtain ⟨f_law_formulas, fd_law_formulas, F_law_formulas, b_law_formulas, m_law_formulas⟩ := T.d_law_formulas
  have G_law_formulas := ok_law_formulas (P := P) (w := w) (base := base) F_law_formulas T
  obtain ⟨f_law_changed, fd_law_changed, F_law_changed, b_law_changed, m_law_changed⟩ := T.d_law_changed
  have G_law_changed := ok_law_changed (P := P) (w := w) (base := base) F_law_changed T
  obtain ⟨f_law_round, fd_law_round, F_law_round, b_law_round, m_law_round⟩ := T.d_law_round
  have G_law_round := ok_law_round (P := P) (w := w) (base := base) F_law_round T
  obtain ⟨f_law_told, fd_law_told, F_law_told, b_law_told, m_law_told⟩ := T.d_law_told
  have G_law_told := ok_law_told (P := P) (w := w) (base := base) F_law_told T
  obtain ⟨f_law_pick, fd_law_pick, F_law_pick, b_law_pick, m_law_pick⟩ := T.d_law_pick
  have G_law_pick := ok_law_pick (P := P) (w := w) (base := base) F_law_pick T
  obtain ⟨f_law_due, fd_law_due, F_law_due, b_law_due, m_law_due⟩ := T.d_law_due
  have G_law_due := ok_law_due (P := P) (w := w) (base := base) F_law_due T
  refine Fun.okG F sc_law (fun vs H Q E h => ?_) (fun cdv A outer s H vs Q E hr hG h => ?_)
  · obtain ⟨a, ns, rfl, _⟩ := h
    rfl
  obtain ⟨a, ns, rfl, hS, hlen, q⟩ := h
  refine ⟨_, (pss_cons (ps_set (i := 1) sc_law.nd rfl (Or.inl rfl) (pe_call G_law_flow (hr.mono (by decide)) (by rfl) m_law_flow F_law_flow.kp b_law_flow .nil pass0 (pa_cons (pv 0) pa_nil)))
      (pss_cons (ps_set (i := 2) sc_law.nd rfl (Or.inl rfl) (pe_call G_law_formulas (hr.mono (by decide)) (by rfl) m_law_formulas F_law_formulas.kp b_law_formulas .nil pass0 (pa_cons (pv 1) (pa_cons pe_int pa_nil))))
      (pss_cons (ps_set (i := 3) sc_law.nd rfl (Or.inl rfl) (pv 2))
      (pss_cons (ps_for PassesOwn.never rfl (pi_range1 (by rfl) T.m_range (pa_cons (pe_op op_add pe_int (pe_call G_law_pick (hr.mono (by decide)) (by rfl) m_law_pick F_law_pick.kp b_law_pick .nil pass0 (pa_cons (pv 1) (pa_cons pe_int pa_nil)))) pa_nil)) (pg_name (i := 4) sc_law.nd rfl (Or.inl rfl))
        (pss_one (ps_set (i := 3) sc_law.nd rfl (Or.inl rfl) (pe_call G_law_changed (hr.mono (by decide)) (by rfl) m_law_changed F_law_changed.kp b_law_changed .nil pass0 (pa_cons (pv 1) (pa_cons (pv 3) pa_nil))))))
      (pss_cons (ps_set (i := 5) sc_law.nd rfl (Or.inl rfl) (pe_lst (pa_cons (pv 3) (pa_cons (pe_call G_law_round (hr.mono (by decide)) (by rfl) m_law_round F_law_round.kp b_law_round .nil pass0 (pa_cons (pv 1) pa_nil)) (pa_cons (pv 2) pa_nil)))))
      (pss_cons (ps_for PassesOwn.never rfl (pi_listK K rfl (pe_op op_cat (pv 5) (pe_revLK K rfl (pv 5)))) (pg_name (i := 6) sc_law.nd rfl (Or.inl rfl))
        (pss_one (ps_if (pt_cmpR (op_neDK K rfl hr.units) (pe_callG G_law_told (hr.mono (by decide)) hG (by rfl) m_law_told F_law_told.kp b_law_told .nil pass0 (pa_cons (pv 6) pa_nil)) (pe_call G_law_due (hr.mono (by decide)) (by rfl) m_law_due F_law_due.kp b_law_due .nil pass0 (pa_cons (pv 6) pa_nil)) (nomark _)) (pss_one (ps_ret pe_bl)) pss_nil)))
      (pss_one (ps_ret (pe_cmpR (op_eqDK K rfl hr.units) (pe_callG G_law_told (hr.mono (by decide)) hG (by rfl) m_law_told F_law_told.kp b_law_told .nil pass0 (pa_cons (pv 2) pa_nil)) pe_str (nomark _)))))))))), ?_⟩
  refine ⟨_, rfl, a, ns, rfl, hS, fun f c H1 nf nc F1 s1 => ?_⟩
  refine ⟨_, rfl, f, c, 5, rfl, by decide, F1, fun r F H2 hR2 g F2 B2 => ?_⟩
  have ok := g.ok (by decide)
  have say := fm_say ok g.sm
  have lim : Lim 4 9 5 4 F := ⟨g.sm, g.li, g.lw, g.lr, g.lo⟩
  refine ⟨_, rfl, ?_⟩
  refine ⟨_, rfl, f, c, 4, rfl, by decide, by decide, F2, fun v H3 v0 v1 F3 B3 => ⟨_, _, rfl, rfl, _, rfl, by omega, by omega, for_range (lo := 0) (n := (2 + v).toNat) (fun i σ H5 => ∃ (wr : Addr) (W : Fm) (x4 : Option V), σ = [some (.ref a), some (.ref f), some (.ref r), some (.ref wr), x4, none, none] ∧ Flow H5 f c ∧ FmAt H5 r F ∧ FmAt H5 wr W ∧ Lim 4 (9 + 2 * i) 5 4 W) ⟨r, F, none, rfl, F3, hR2.keep (TK.but F2 B3), hR2.keep (TK.but F2 B3), lim⟩ ?_ ?_⟩⟩
  · rintro i σ H5 hi ⟨wr, W, x4, rfl, F5, hR5, hW5, lW⟩
    refine ⟨_, rfl, _, rfl, f, c, wr, W, 9 + 2 * i, rfl, F5, hW5, by omega, lW, fun r' W' H6 hW6 lW' F6 B6 => ?_⟩
    exact ⟨r', W', _, rfl, F6, hR5.keep (TK.but F5 B6), hW6, lW'.up (by omega)⟩
  rintro σ H5 ⟨wr, W, x4, rfl, F5, hR5, hW5, lW⟩
  have lW := lW.up (b' := 19) (by omega)
  refine ⟨_, rfl, _, rfl, f, c, rfl, F5, fun rd R H6 hR6 lR F6 B6 => ⟨_, rfl, (by show 3 ≤ sizeLine; decide), fun l nl => ?_⟩⟩
  generalize e9 : upd H6 l _ = H7
  have u7 : Same H6 H7 := by rw [← e9]; exact same_new nl
  have hl : H7 l = some (.lst [.ref wr, .ref rd, .ref r]) := by rw [← e9]; exact upd_same
  clear e9
  have k7 : TK H5 H7 := (TK.but F5 B6).trans (TK.same u7)
  have hr7 := hR5.keep k7
  have hw7 := hW5.keep k7
  have hd7 := hR6.keep (TK.same u7)
  refine ⟨_, rfl, _, rfl, l, _, rfl, SqL.of hl, fun l2 nl2 => ?_⟩
  generalize e9 : upd H7 l2 _ = H8
  have u8 : Same H7 H8 := by rw [← e9]; exact same_new nl2
  have hl2 : H8 l2 = some (.lst [.ref r, .ref rd, .ref wr]) := by rw [← e9]; exact upd_same
  clear e9
  refine ⟨l, l2, _, _, rfl, rfl, u8 _ _ hl, hl2, (by show 6 ≤ sizeLine; decide), fun l3 nl3 => ?_⟩
  generalize e9 : upd H8 l3 _ = H9
  have u9 : Same H8 H9 := by rw [← e9]; exact same_new nl3
  have hl3 : H9 l3 = some (.lst [.ref wr, .ref rd, .ref r, .ref r, .ref rd, .ref wr]) := by rw [← e9]; exact upd_same
  clear e9
  have u79 := u8.trans u9
  have hr9 := hr7.keep (TK.same u79)
  have each : ∀ x ∈ [V.ref wr, .ref rd, .ref r, .ref r, .ref rd, .ref wr], ∃ (p : Addr) (G : Fm), x = .ref p ∧ FmAt H9 p G ∧ Lim 4 19 5 4 G := fun x hx => by
    have hw9 := hw7.keep (TK.same u79)
    have hd9 := hd7.keep (TK.same u79)
    have lF := lim.up (b' := 19) (by decide)
    have lR := lR.up (b' := 19) (by decide)
    simp only [List.mem_cons, List.not_mem_nil, or_false] at hx
    rcases hx with rfl | rfl | rfl | rfl | rfl | rfl
    · exact ⟨wr, W, rfl, hw9, lW⟩
    · exact ⟨rd, R, rfl, hd9, lR⟩
    · exact ⟨r, F, rfl, hr9, lF⟩
    · exact ⟨r, F, rfl, hr9, lF⟩
    · exact ⟨rd, R, rfl, hd9, lR⟩
    · exact ⟨wr, W, rfl, hw9, lW⟩
  refine ⟨l3, rfl, ⟨_, SqL.of hl3⟩, for_list (K := K) (a := l3) (xs := [.ref wr, .ref rd, .ref r, .ref r, .ref rd, .ref wr]) (fun i σ H5 => ∃ x6 : Option V, σ = [some (.ref a), some (.ref f), some (.ref r), some (.ref wr), x4, some (.ref l), x6] ∧ Same H9 H5) ⟨none, rfl, Same.refl _⟩ (fun i σ H5 _ ⟨_, _, s5⟩ => SqL.of (s5 _ _ hl3)) ?_ ?_⟩
  · rintro i x σ H10 hx ⟨x6, rfl, s10⟩
    obtain ⟨p, G, rfl, hp, lG⟩ := each x (List.mem_of_getElem? hx)
    have ok' := lG.ok (by decide)
    have say' := fm_say ok' lG.sm
    obtain ⟨lay', sh'⟩ := due_lay lG.sm
    refine ⟨_, rfl, p, G, rfl, hp.keep (TK.same s10), ok', say', fun u2 H11 ou2 s11 => ?_⟩
    have s911 := s10.trans s11
    refine ⟨_, rfl, p, G, rfl, hp.keep (TK.same s911), ok', (fun p hp => (lG.sm.r p hp).2.2.2), fun u3 H12 ou3 s12 => ?_⟩
    refine ⟨_, _, (ou2.same s12).dp, ou3.dp, sh', sh', _, rfl, ?_⟩
    rw [PySem.SeqAt.eqv_refl _ lay']
    exact if_bl (fun z => nomatch z) (fun _ => ⟨_, rfl, s911.trans s12⟩)
  · rintro σ H10 ⟨x6, rfl, s10⟩
    refine ⟨_, rfl, r, F, rfl, hr9.keep (TK.same s10), ok, say, fun u H11 ou s11 => ?_⟩
    rw [g.letby] at ou
    obtain rfl : u = .str "let by" := ou
    refine ⟨_, _, .str _, .str _, by decide +kernel, by decide +kernel, ?_⟩
    rw [PySem.SeqAt.eqv_refl (.str "let by") (by decide +kernel)]
    exact q _
end
/-! ### the class of own errors, looked at in the head -/
def oexB (K : PySem.W.Frag) (C : Addr) : Bool := match K.lookup C with
  | some o => (match o.cls, o.data, o.slots.toList with
    | .type t, .cls cd, [_, _, _, _, some (.builtin n), _] => decide (t = "type") && (decide (n = "ValueError.__new__") && (!cd.hasDel && (cd.hasDict && (match cd.mro with
      | .ref C' :: bm => decide (C' = C) && PySem.HandSPX.refsVE bm
      | _ => false))))
    | _, _, _ => false)
  | none => false
theorem oexB_ok {K : PySem.W.Frag} {C : Addr} (h : oexB K C = true) : ∃ nm q N bs bm sn sub ab col dd k0 k1 k2 k3 k5, K.lookup C = some (excClassObj nm q C N bs bm true sn sub ab col dd k0 k1 k2 k3 k5 "ValueError.__new__") ∧ PySem.HandSPX.refsVE bm = true := by
  unfold oexB at h
  split at h
  · rename_i o ho
    split at h
    · rename_i t cd k0 k1 k2 k3 n k5 e1 e2 hs
      simp only [Bool.and_eq_true, decide_eq_true_eq, Bool.not_eq_true'] at h
      obtain ⟨q1, q2, q3, q4, q5⟩ := h
      split at q5
      · rename_i C' bm e3
        simp only [Bool.and_eq_true, decide_eq_true_eq] at q5
        obtain ⟨oc, od, odt, osl⟩ := o
        obtain ⟨nm, bs, mro, ns, qn, hd, sn, sub, ab, col, del⟩ := cd
        obtain ⟨l⟩ := osl
        dsimp only at e1 e2 e3 hs q3 q4
        have hs : l = [k0, k1, k2, k3, some (.builtin n), k5] := hs
        rw [e1, e2, e3, hs, q1, q2, q3, q4, q5.1] at ho
        exact ⟨nm, qn, ns, bs, bm, sn, sub, ab, col, od, k0, k1, k2, k3, k5, ho, q5.2⟩
      · cases q5
    · cases h
  · cases h
/-- all that is asked of the class named x, its __init__ at f -/
def ownB (K : PySem.W.Frag) (C f CB : Addr) : List Bool := [oexB K C,
  decide (PySem.W.findIn K (.ref C) "__setattr__" = some (some (.builtin "object.__setattr__"))),
  decide (PySem.W.subIn K (.ref C) (.type "BaseException") = some true),
  decide (PySem.W.typeIn K (.ref C) = some (.type "type")),
  PySem.W.keepIn K (.ref C),
  decide (PySem.W.findIn K (.ref C) "__init__" = some (some (.ref f))),
  decide (PySem.W.typeIn K (.ref f) = some (.type "function")),
  decide (PySem.W.findIn K (.ref C) "__getattribute__" = some (some (.builtin "BaseException.__getattribute__"))),
  decide (PySem.W.findIn K (.ref C) "__getattr__" = some none),
  PySem.W.hasDictIn K C,
  decide (PySem.W.findIn K (.ref C) "__class__" = some (some (.builtin "object.__class__"))),
  decide (PySem.W.specialIn K (.builtin "object.__class__") "__get__" = some (some (.builtin "getset_descriptor.__get__"))),
  decide (PySem.W.takesIn K (.builtin "object.__class__") = some true),
  decide (PySem.W.mroIn K C (.type "object") = some true),
  decide (PySem.W.exmOne K (.ref C) (.ref C) = some true),
  decide (PySem.W.kitOne K (.ref C) (.ref CB) = some true),
  decide (PySem.W.findIn K (.ref C) "word" = some none),
  decide (PySem.W.findIn K (.ref C) "name" = some none)]
def nsB (K : PySem.W.Frag) : Bool := (ownB K (He.ga K "NoFormula") (He.fAd K ("NoFormula", some "__init__")) (He.ga K "BeltError")).all id && decide (PySem.W.exmOne K (.ref (He.ga K "NoFormula")) (.ref (He.ga K "BeltError")) = some true) && decide (PySem.W.kitAny K (.ref (He.ga K "NoFormula")) [.ref (He.ga K "NoText"), .ref (He.ga K "NoRoom"), .ref (He.ga K "NoShift"), .ref (He.ga K "NoName"), .ref (He.ga K "NoRow")] = some false)
theorem nsB_ok {K : PySem.W.Frag} {mg : Str → Option Value} {fd : FuncData} (h : nsB K = true) (gC : mg "NoFormula" = some (.ref (He.ga K "NoFormula"))) (gB : mg "BeltError" = some (.ref (He.ga K "BeltError"))) (F : Fun K "__init__" "NoFormula.__init__" s_NoFormula_init (He.fAd K ("NoFormula", some "__init__")) fd) (b : Binds K fd ["self", "word", "name"] []) : NsC K mg (He.ga K "NoFormula") (He.ga K "BeltError") (He.fAd K ("NoFormula", some "__init__")) fd := by
  unfold nsB at h
  obtain ⟨h, ko⟩ := Bool.and_eq_true_iff.mp h
  have ko := of_decide_eq_true ko
  revert ko
  generalize He.ga K "NoFormula" = C at *
  generalize He.ga K "BeltError" = CB at *
  intro ko
  generalize He.fAd K ("NoFormula", some "__init__") = f at *
  obtain ⟨h, te⟩ := Bool.and_eq_true_iff.mp h
  have all := List.all_eq_true.mp h
  have at_ : ∀ (i : Nat) (z : Bool), (ownB K C f CB)[i]? = some z → z = true := fun i z e => all z (List.mem_of_getElem? e)
  have d : ∀ {p : Prop} [Decidable p], decide p = true → p := fun h => of_decide_eq_true h
  have w1 := d (at_ 1 _ rfl)
  have w2 := d (at_ 2 _ rfl)
  have w3 := d (at_ 3 _ rfl)
  have w4 := at_ 4 _ rfl
  have w7 := d (at_ 7 _ rfl)
  have w8 := d (at_ 8 _ rfl)
  have w9 := at_ 9 _ rfl
  exact ⟨gC, gB, ⟨oexB_ok (at_ 0 _ rfl), w1, w2, w3, w4⟩, d (at_ 16 _ rfl), d (at_ 17 _ rfl), d (at_ 5 _ rfl), d (at_ 6 _ rfl), F, b, of_decide_eq_true te, ⟨w7, w8, w2, w9⟩, ⟨w7, w8, w2, w9, d (at_ 10 _ rfl), d (at_ 11 _ rfl), d (at_ 12 _ rfl), d (at_ 13 _ rfl)⟩, d (at_ 14 _ rfl), d (at_ 15 _ rfl), ko⟩
theorem fun_of_D {K : PySem.W.Frag} {x q : Str} {st : Stmt} {f : Addr} {fd : FuncData} (D : FunD K x q (defArgs st) (defBody st) (defScope st) [] [] f fd) : Fun K x q st f fd := by
  obtain ⟨⟨oc, od, dV, kV, doc, pm, an, cdv, ct, osl, e, lk, ci, dfl, _⟩, kp⟩ := D
  have z : dV = .none := by
    rcases dfl with ⟨_, h⟩ | ⟨h, _⟩
    · exact h
    · exact absurd rfl h
  subst z
  exact ⟨⟨oc, od, kV, doc, pm, an, cdv, ct, osl, e, lk, ci⟩, kp⟩
def hd_first_on_ring : He.DefD := ⟨("first_on_ring", none), "first_on_ring", "first_on_ring", defArgs s_first_on_ring, defBody s_first_on_ring, defScope s_first_on_ring, [], []⟩
def hd_comes_back : He.DefD := ⟨("comes_back", none), "comes_back", "comes_back", defArgs s_comes_back, defBody s_comes_back, defScope s_comes_back, [], []⟩
def hd_tree_parts : He.DefD := ⟨("tree_parts", none), "tree_parts", "tree_parts", defArgs s_tree_parts, defBody s_tree_parts, defScope s_tree_parts, [], []⟩
def hd_leanings : He.DefD := ⟨("leanings", none), "leanings", "leanings", defArgs s_leanings, defBody s_leanings, defScope s_leanings, [], []⟩
def hd_look_formulas : He.DefD := ⟨("look_formulas", none), "look_formulas", "look_formulas", defArgs s_look_formulas, defBody s_look_formulas, defScope s_look_formulas, [], []⟩
def hd_refuse_formula : He.DefD := ⟨("refuse_formula", none), "refuse_formula", "refuse_formula", defArgs s_refuse_formula, defBody s_refuse_formula, defScope s_refuse_formula, [], []⟩
def hd_first_again : He.DefD := ⟨("first_again", none), "first_again", "first_again", defArgs s_first_again, defBody s_first_again, defScope s_first_again, [], []⟩
def hd_first_lost : He.DefD := ⟨("first_lost", none), "first_lost", "first_lost", defArgs s_first_lost, defBody s_first_lost, defScope s_first_lost, [], []⟩
def hd_rule_on_ring : He.DefD := ⟨("rule_on_ring", none), "rule_on_ring", "rule_on_ring", defArgs s_rule_on_ring, defBody s_rule_on_ring, defScope s_rule_on_ring, [], []⟩
def hd_law_flow : He.DefD := ⟨("_law_flow", none), "_law_flow", "_law_flow", defArgs s_law_flow, defBody s_law_flow, defScope s_law_flow, [], []⟩
def hd_law_pick : He.DefD := ⟨("_law_pick", none), "_law_pick", "_law_pick", defArgs s_law_pick, defBody s_law_pick, defScope s_law_pick, [], []⟩
def hd_law_thing : He.DefD := ⟨("_law_thing", none), "_law_thing", "_law_thing", defArgs s_law_thing, defBody s_law_thing, defScope s_law_thing, [], []⟩
def hd_law_shuffled : He.DefD := ⟨("_law_shuffled", none), "_law_shuffled", "_law_shuffled", defArgs s_law_shuffled, defBody s_law_shuffled, defScope s_law_shuffled, [], []⟩
def hd_law_word : He.DefD := ⟨("_law_word", none), "_law_word", "_law_word", defArgs s_law_word, defBody s_law_word, defScope s_law_word, [], []⟩
def hd_law_taken : He.DefD := ⟨("_law_taken", none), "_law_taken", "_law_taken", defArgs s_law_taken, defBody s_law_taken, defScope s_law_taken, [], []⟩
def hd_law_names : He.DefD := ⟨("_law_names", none), "_law_names", "_law_names", defArgs s_law_names, defBody s_law_names, defScope s_law_names, [], []⟩
def hd_law_leaf : He.DefD := ⟨("_law_leaf", none), "_law_leaf", "_law_leaf", defArgs s_law_leaf, defBody s_law_leaf, defScope s_law_leaf, [], []⟩
def hd_law_tree : He.DefD := ⟨("_law_tree", none), "_law_tree", "_law_tree", defArgs s_law_tree, defBody s_law_tree, defScope s_law_tree, [], []⟩
def hd_law_formulas : He.DefD := ⟨("_law_formulas", none), "_law_formulas", "_law_formulas", defArgs s_law_formulas, defBody s_law_formulas, defScope s_law_formulas, [], []⟩
def hd_law_put : He.DefD := ⟨("_law_put", none), "_law_put", "_law_put", defArgs s_law_put, defBody s_law_put, defScope s_law_put, [], []⟩
def hd_law_parts : He.DefD := ⟨("_law_parts", none), "_law_parts", "_law_parts", defArgs s_law_parts, defBody s_law_parts, defScope s_law_parts, [], []⟩
def hd_law_hangs : He.DefD := ⟨("_law_hangs", none), "_law_hangs", "_law_hangs", defArgs s_law_hangs, defBody s_law_hangs, defScope s_law_hangs, [], []⟩
def hd_law_uses : He.DefD := ⟨("_law_uses", none), "_law_uses", "_law_uses", defArgs s_law_uses, defBody s_law_uses, defScope s_law_uses, [], []⟩
def hd_law_due : He.DefD := ⟨("_law_due", none), "_law_due", "_law_due", defArgs s_law_due, defBody s_law_due, defScope s_law_due, [], []⟩
def hd_law_told : He.DefD := ⟨("_law_told", none), "_law_told", "_law_told", defArgs s_law_told, defBody s_law_told, defScope s_law_told, [], []⟩
def hd_law_put_leaf : He.DefD := ⟨("_law_put_leaf", none), "_law_put_leaf", "_law_put_leaf", defArgs s_law_put_leaf, defBody s_law_put_leaf, defScope s_law_put_leaf, [], []⟩
def hd_law_changed : He.DefD := ⟨("_law_changed", none), "_law_changed", "_law_changed", defArgs s_law_changed, defBody s_law_changed, defScope s_law_changed, [], []⟩
def hd_law_round : He.DefD := ⟨("_law_round", none), "_law_round", "_law_round", defArgs s_law_round, defBody s_law_round, defScope s_law_round, [], []⟩
def hd_law : He.DefD := ⟨("law", none), "law", "law", defArgs s_law, defBody s_law, defScope s_law, [], []⟩
def hd_NsInit : He.DefD := ⟨("NoFormula", some "__init__"), "__init__", "NoFormula.__init__", defArgs s_NoFormula_init, defBody s_NoFormula_init, defScope s_NoFormula_init, [], []⟩
def hFn : List He.DefD := [hd_first_on_ring, hd_comes_back, hd_tree_parts, hd_leanings, hd_look_formulas, hd_refuse_formula, hd_first_again, hd_first_lost, hd_rule_on_ring, hd_law_flow, hd_law_pick, hd_law_thing, hd_law_shuffled, hd_law_word, hd_law_taken, hd_law_names, hd_law_leaf, hd_law_tree, hd_law_formulas, hd_law_put, hd_law_parts, hd_law_hangs, hd_law_uses, hd_law_due, hd_law_told, hd_law_put_leaf, hd_law_changed, hd_law_round, hd_law, hd_NsInit]
def hFa : List He.Fa := [.glo "first_on_ring", .glo "comes_back", .glo "tree_parts", .glo "leanings", .glo "look_formulas", .glo "refuse_formula", .glo "first_again", .glo "first_lost", .glo "rule_on_ring", .glo "_law_flow", .glo "_law_pick", .glo "_law_thing", .glo "_law_shuffled", .glo "_law_word", .glo "_law_taken", .glo "_law_names", .glo "_law_leaf", .glo "_law_tree", .glo "_law_formulas", .glo "_law_put", .glo "_law_parts", .glo "_law_hangs", .glo "_law_uses", .glo "_law_due", .glo "_law_told", .glo "_law_put_leaf", .glo "_law_changed", .glo "_law_round", .glo "law", .free "enumerate", .free "int", .free "isinstance", .free "len", .free "list", .free "max", .free "range", .free "repr", .free "set", .free "tuple", .glo "NoFormula", .glo "BeltError", .glo "NoText", .glo "NoRoom", .glo "NoShift", .glo "NoName", .glo "NoRow"]
def hEx (K : PySem.W.Frag) : Bool := nsB K
def hTf : List (Str × Option Str) := []
abbrev hR : PySem.W.OpenRow := PySem.W.OpenLaw.row PySem.Challenge.rw_beltshift_k20_the_first_of_several_names
abbrev hk : PySem.W.Hook := He.hookX 4 hFa hFn [] hTf hEx
def hOb (s : PySem.W.SharedT) : He.AlX := He.obsX 4 hFa hFn [] hTf hEx (HandSHeadRun.getT s)
theorem hOb_eq (s : PySem.W.SharedT) : hOb s = hk.obs s.abs := He.obsX_eq (HandSHeadRun.getT_eq s)
def hN0 : List Str := ["BeltError", "NoText", "NoRoom", "NoFormula", "NoShift", "NoName", "NoRow", "first_on_ring", "comes_back", "tree_parts", "leanings", "look_formulas", "refuse_formula", "first_again", "first_lost", "rule_on_ring", "_law_flow", "_law_pick", "_law_thing", "_law_shuffled", "_law_word", "_law_taken", "_law_names", "_law_leaf", "_law_tree", "_law_formulas", "_law_put", "_law_parts", "_law_hangs", "_law_uses"]
def hN1 : List Str := ["_law_due", "_law_told", "_law_put_leaf", "_law_changed", "_law_round"]
def hNames : List Str := hN0 ++ hN1
set_option maxHeartbeats 0 in
theorem hRun (w : World) : HandSHeadRun.RunEq hR (PySem.W.view hR.prog [40]) hk hOb 40000 hNames w := by
  intro os
  kernel_rfl
set_option maxHeartbeats 0 in
theorem all_mkX {w : World} {K : PySem.W.Frag} {h : Heap} {mg : Str → Option Value} {fa : Addr} (X : K.In h) (G : h.Ns mainGlobals mg) (hfa : mg "law" = some (.ref fa)) (c : He.SaysX hFa hFn [] hTf hEx w h K) : LawAtG PySem.Challenge.rw_beltshift_k20_the_first_of_several_names w K CX0 14 63 "_law_script" mg fa h := by
  have cd := c.t.d
  obtain ⟨fd0, D0⟩ := cd.def_ 0 (d := hd_first_on_ring) rfl
  have F0 : Fun K "first_on_ring" "first_on_ring" s_first_on_ring (He.ga K "first_on_ring") fd0 := fun_of_D D0
  have g0 : mg "first_on_ring" = some (.ref (He.ga K "first_on_ring")) := He.glo_ok X G (cd.fact 0 (f := .glo "first_on_ring") rfl)
  have b0 := F0.binds (ps := ["places", "steps"]) fun _ _ _ _ _ _ us hl => match us, hl with | [_, _], _ => rfl
  obtain ⟨fd1, D1⟩ := cd.def_ 1 (d := hd_comes_back) rfl
  have F1 : Fun K "comes_back" "comes_back" s_comes_back (He.ga K "comes_back") fd1 := fun_of_D D1
  have g1 : mg "comes_back" = some (.ref (He.ga K "comes_back")) := He.glo_ok X G (cd.fact 1 (f := .glo "comes_back") rfl)
  have b1 := F1.binds (ps := ["place", "steps"]) fun _ _ _ _ _ _ us hl => match us, hl with | [_, _], _ => rfl
  obtain ⟨fd2, D2⟩ := cd.def_ 2 (d := hd_tree_parts) rfl
  have F2 : Fun K "tree_parts" "tree_parts" s_tree_parts (He.ga K "tree_parts") fd2 := fun_of_D D2
  have g2 : mg "tree_parts" = some (.ref (He.ga K "tree_parts")) := He.glo_ok X G (cd.fact 2 (f := .glo "tree_parts") rfl)
  have b2 := F2.binds (ps := ["tree"]) fun _ _ _ _ _ _ us hl => match us, hl with | [_], _ => rfl
  obtain ⟨fd3, D3⟩ := cd.def_ 3 (d := hd_leanings) rfl
  have F3 : Fun K "leanings" "leanings" s_leanings (He.ga K "leanings") fd3 := fun_of_D D3
  have g3 : mg "leanings" = some (.ref (He.ga K "leanings")) := He.glo_ok X G (cd.fact 3 (f := .glo "leanings") rfl)
  have b3 := F3.binds (ps := ["tree"]) fun _ _ _ _ _ _ us hl => match us, hl with | [_], _ => rfl
  obtain ⟨fd4, D4⟩ := cd.def_ 4 (d := hd_look_formulas) rfl
  have F4 : Fun K "look_formulas" "look_formulas" s_look_formulas (He.ga K "look_formulas") fd4 := fun_of_D D4
  have g4 : mg "look_formulas" = some (.ref (He.ga K "look_formulas")) := He.glo_ok X G (cd.fact 4 (f := .glo "look_formulas") rfl)
  have b4 := F4.binds (ps := ["formulas"]) fun _ _ _ _ _ _ us hl => match us, hl with | [_], _ => rfl
  obtain ⟨fd5, D5⟩ := cd.def_ 5 (d := hd_refuse_formula) rfl
  have F5 : Fun K "refuse_formula" "refuse_formula" s_refuse_formula (He.ga K "refuse_formula") fd5 := fun_of_D D5
  have g5 : mg "refuse_formula" = some (.ref (He.ga K "refuse_formula")) := He.glo_ok X G (cd.fact 5 (f := .glo "refuse_formula") rfl)
  have b5 := F5.binds (ps := ["word", "name"]) fun _ _ _ _ _ _ us hl => match us, hl with | [_, _], _ => rfl
  obtain ⟨fd6, D6⟩ := cd.def_ 6 (d := hd_first_again) rfl
  have F6 : Fun K "first_again" "first_again" s_first_again (He.ga K "first_again") fd6 := fun_of_D D6
  have g6 : mg "first_again" = some (.ref (He.ga K "first_again")) := He.glo_ok X G (cd.fact 6 (f := .glo "first_again") rfl)
  have b6 := F6.binds (ps := ["names"]) fun _ _ _ _ _ _ us hl => match us, hl with | [_], _ => rfl
  obtain ⟨fd7, D7⟩ := cd.def_ 7 (d := hd_first_lost) rfl
  have F7 : Fun K "first_lost" "first_lost" s_first_lost (He.ga K "first_lost") fd7 := fun_of_D D7
  have g7 : mg "first_lost" = some (.ref (He.ga K "first_lost")) := He.glo_ok X G (cd.fact 7 (f := .glo "first_lost") rfl)
  have b7 := F7.binds (ps := ["formulas", "told"]) fun _ _ _ _ _ _ us hl => match us, hl with | [_, _], _ => rfl
  obtain ⟨fd8, D8⟩ := cd.def_ 8 (d := hd_rule_on_ring) rfl
  have F8 : Fun K "rule_on_ring" "rule_on_ring" s_rule_on_ring (He.ga K "rule_on_ring") fd8 := fun_of_D D8
  have g8 : mg "rule_on_ring" = some (.ref (He.ga K "rule_on_ring")) := He.glo_ok X G (cd.fact 8 (f := .glo "rule_on_ring") rfl)
  have b8 := F8.binds (ps := ["rules"]) fun _ _ _ _ _ _ us hl => match us, hl with | [_], _ => rfl
  obtain ⟨fd9, D9⟩ := cd.def_ 9 (d := hd_law_flow) rfl
  have F9 : Fun K "_law_flow" "_law_flow" s_law_flow (He.ga K "_law_flow") fd9 := fun_of_D D9
  have g9 : mg "_law_flow" = some (.ref (He.ga K "_law_flow")) := He.glo_ok X G (cd.fact 9 (f := .glo "_law_flow") rfl)
  have b9 := F9.binds (ps := ["_law_script"]) fun _ _ _ _ _ _ us hl => match us, hl with | [_], _ => rfl
  obtain ⟨fd10, D10⟩ := cd.def_ 10 (d := hd_law_pick) rfl
  have F10 : Fun K "_law_pick" "_law_pick" s_law_pick (He.ga K "_law_pick") fd10 := fun_of_D D10
  have g10 : mg "_law_pick" = some (.ref (He.ga K "_law_pick")) := He.glo_ok X G (cd.fact 10 (f := .glo "_law_pick") rfl)
  have b10 := F10.binds (ps := ["_law_flow_here", "_law_many"]) fun _ _ _ _ _ _ us hl => match us, hl with | [_, _], _ => rfl
  obtain ⟨fd11, D11⟩ := cd.def_ 11 (d := hd_law_thing) rfl
  have F11 : Fun K "_law_thing" "_law_thing" s_law_thing (He.ga K "_law_thing") fd11 := fun_of_D D11
  have g11 : mg "_law_thing" = some (.ref (He.ga K "_law_thing")) := He.glo_ok X G (cd.fact 11 (f := .glo "_law_thing") rfl)
  have b11 := F11.binds (ps := ["_law_flow_here"]) fun _ _ _ _ _ _ us hl => match us, hl with | [_], _ => rfl
  obtain ⟨fd12, D12⟩ := cd.def_ 12 (d := hd_law_shuffled) rfl
  have F12 : Fun K "_law_shuffled" "_law_shuffled" s_law_shuffled (He.ga K "_law_shuffled") fd12 := fun_of_D D12
  have g12 : mg "_law_shuffled" = some (.ref (He.ga K "_law_shuffled")) := He.glo_ok X G (cd.fact 12 (f := .glo "_law_shuffled") rfl)
  have b12 := F12.binds (ps := ["_law_flow_here", "_law_some"]) fun _ _ _ _ _ _ us hl => match us, hl with | [_, _], _ => rfl
  obtain ⟨fd13, D13⟩ := cd.def_ 13 (d := hd_law_word) rfl
  have F13 : Fun K "_law_word" "_law_word" s_law_word (He.ga K "_law_word") fd13 := fun_of_D D13
  have g13 : mg "_law_word" = some (.ref (He.ga K "_law_word")) := He.glo_ok X G (cd.fact 13 (f := .glo "_law_word") rfl)
  have b13 := F13.binds (ps := ["_law_flow_here", "_law_most"]) fun _ _ _ _ _ _ us hl => match us, hl with | [_, _], _ => rfl
  obtain ⟨fd14, D14⟩ := cd.def_ 14 (d := hd_law_taken) rfl
  have F14 : Fun K "_law_taken" "_law_taken" s_law_taken (He.ga K "_law_taken") fd14 := fun_of_D D14
  have g14 : mg "_law_taken" = some (.ref (He.ga K "_law_taken")) := He.glo_ok X G (cd.fact 14 (f := .glo "_law_taken") rfl)
  have b14 := F14.binds (ps := []) fun _ _ _ _ _ _ us hl => match us, hl with | [], _ => rfl
  obtain ⟨fd15, D15⟩ := cd.def_ 15 (d := hd_law_names) rfl
  have F15 : Fun K "_law_names" "_law_names" s_law_names (He.ga K "_law_names") fd15 := fun_of_D D15
  have g15 : mg "_law_names" = some (.ref (He.ga K "_law_names")) := He.glo_ok X G (cd.fact 15 (f := .glo "_law_names") rfl)
  have b15 := F15.binds (ps := ["_law_flow_here", "_law_many"]) fun _ _ _ _ _ _ us hl => match us, hl with | [_, _], _ => rfl
  obtain ⟨fd16, D16⟩ := cd.def_ 16 (d := hd_law_leaf) rfl
  have F16 : Fun K "_law_leaf" "_law_leaf" s_law_leaf (He.ga K "_law_leaf") fd16 := fun_of_D D16
  have g16 : mg "_law_leaf" = some (.ref (He.ga K "_law_leaf")) := He.glo_ok X G (cd.fact 16 (f := .glo "_law_leaf") rfl)
  have b16 := F16.binds (ps := ["_law_flow_here", "_law_now", "_law_names_here"]) fun _ _ _ _ _ _ us hl => match us, hl with | [_, _, _], _ => rfl
  obtain ⟨fd17, D17⟩ := cd.def_ 17 (d := hd_law_tree) rfl
  have F17 : Fun K "_law_tree" "_law_tree" s_law_tree (He.ga K "_law_tree") fd17 := fun_of_D D17
  have g17 : mg "_law_tree" = some (.ref (He.ga K "_law_tree")) := He.glo_ok X G (cd.fact 17 (f := .glo "_law_tree") rfl)
  have b17 := F17.binds (ps := ["_law_flow_here", "_law_room", "_law_now", "_law_names_here"]) fun _ _ _ _ _ _ us hl => match us, hl with | [_, _, _, _], _ => rfl
  obtain ⟨fd18, D18⟩ := cd.def_ 18 (d := hd_law_formulas) rfl
  have F18 : Fun K "_law_formulas" "_law_formulas" s_law_formulas (He.ga K "_law_formulas") fd18 := fun_of_D D18
  have g18 : mg "_law_formulas" = some (.ref (He.ga K "_law_formulas")) := He.glo_ok X G (cd.fact 18 (f := .glo "_law_formulas") rfl)
  have b18 := F18.binds (ps := ["_law_flow_here", "_law_most"]) fun _ _ _ _ _ _ us hl => match us, hl with | [_, _], _ => rfl
  obtain ⟨fd19, D19⟩ := cd.def_ 19 (d := hd_law_put) rfl
  have F19 : Fun K "_law_put" "_law_put" s_law_put (He.ga K "_law_put") fd19 := fun_of_D D19
  have g19 : mg "_law_put" = some (.ref (He.ga K "_law_put")) := He.glo_ok X G (cd.fact 19 (f := .glo "_law_put") rfl)
  have b19 := F19.binds (ps := ["_law_flow_here", "_law_some", "_law_one"]) fun _ _ _ _ _ _ us hl => match us, hl with | [_, _, _], _ => rfl
  obtain ⟨fd20, D20⟩ := cd.def_ 20 (d := hd_law_parts) rfl
  have F20 : Fun K "_law_parts" "_law_parts" s_law_parts (He.ga K "_law_parts") fd20 := fun_of_D D20
  have g20 : mg "_law_parts" = some (.ref (He.ga K "_law_parts")) := He.glo_ok X G (cd.fact 20 (f := .glo "_law_parts") rfl)
  have b20 := F20.binds (ps := ["_law_tree_here"]) fun _ _ _ _ _ _ us hl => match us, hl with | [_], _ => rfl
  obtain ⟨fd21, D21⟩ := cd.def_ 21 (d := hd_law_hangs) rfl
  have F21 : Fun K "_law_hangs" "_law_hangs" s_law_hangs (He.ga K "_law_hangs") fd21 := fun_of_D D21
  have g21 : mg "_law_hangs" = some (.ref (He.ga K "_law_hangs")) := He.glo_ok X G (cd.fact 21 (f := .glo "_law_hangs") rfl)
  have b21 := F21.binds (ps := ["_law_formulas_here"]) fun _ _ _ _ _ _ us hl => match us, hl with | [_], _ => rfl
  obtain ⟨fd22, D22⟩ := cd.def_ 22 (d := hd_law_uses) rfl
  have F22 : Fun K "_law_uses" "_law_uses" s_law_uses (He.ga K "_law_uses") fd22 := fun_of_D D22
  have g22 : mg "_law_uses" = some (.ref (He.ga K "_law_uses")) := He.glo_ok X G (cd.fact 22 (f := .glo "_law_uses") rfl)
  have b22 := F22.binds (ps := ["_law_tree_here"]) fun _ _ _ _ _ _ us hl => match us, hl with | [_], _ => rfl
  obtain ⟨fd23, D23⟩ := cd.def_ 23 (d := hd_law_due) rfl
  have F23 : Fun K "_law_due" "_law_due" s_law_due (He.ga K "_law_due") fd23 := fun_of_D D23
  have g23 : mg "_law_due" = some (.ref (He.ga K "_law_due")) := He.glo_ok X G (cd.fact 23 (f := .glo "_law_due") rfl)
  have b23 := F23.binds (ps := ["_law_formulas_here"]) fun _ _ _ _ _ _ us hl => match us, hl with | [_], _ => rfl
  obtain ⟨fd24, D24⟩ := cd.def_ 24 (d := hd_law_told) rfl
  have F24 : Fun K "_law_told" "_law_told" s_law_told (He.ga K "_law_told") fd24 := fun_of_D D24
  have g24 : mg "_law_told" = some (.ref (He.ga K "_law_told")) := He.glo_ok X G (cd.fact 24 (f := .glo "_law_told") rfl)
  have b24 := F24.binds (ps := ["_law_formulas_here"]) fun _ _ _ _ _ _ us hl => match us, hl with | [_], _ => rfl
  obtain ⟨fd25, D25⟩ := cd.def_ 25 (d := hd_law_put_leaf) rfl
  have F25 : Fun K "_law_put_leaf" "_law_put_leaf" s_law_put_leaf (He.ga K "_law_put_leaf") fd25 := fun_of_D D25
  have g25 : mg "_law_put_leaf" = some (.ref (He.ga K "_law_put_leaf")) := He.glo_ok X G (cd.fact 25 (f := .glo "_law_put_leaf") rfl)
  have b25 := F25.binds (ps := ["_law_tree_here", "_law_spot", "_law_leaf_here"]) fun _ _ _ _ _ _ us hl => match us, hl with | [_, _, _], _ => rfl
  obtain ⟨fd26, D26⟩ := cd.def_ 26 (d := hd_law_changed) rfl
  have F26 : Fun K "_law_changed" "_law_changed" s_law_changed (He.ga K "_law_changed") fd26 := fun_of_D D26
  have g26 : mg "_law_changed" = some (.ref (He.ga K "_law_changed")) := He.glo_ok X G (cd.fact 26 (f := .glo "_law_changed") rfl)
  have b26 := F26.binds (ps := ["_law_flow_here", "_law_formulas_here"]) fun _ _ _ _ _ _ us hl => match us, hl with | [_, _], _ => rfl
  obtain ⟨fd27, D27⟩ := cd.def_ 27 (d := hd_law_round) rfl
  have F27 : Fun K "_law_round" "_law_round" s_law_round (He.ga K "_law_round") fd27 := fun_of_D D27
  have g27 : mg "_law_round" = some (.ref (He.ga K "_law_round")) := He.glo_ok X G (cd.fact 27 (f := .glo "_law_round") rfl)
  have b27 := F27.binds (ps := ["_law_flow_here"]) fun _ _ _ _ _ _ us hl => match us, hl with | [_], _ => rfl
  obtain ⟨fd28, D28⟩ := cd.def_ 28 (d := hd_law) rfl
  have F28 : Fun K "law" "law" s_law (He.ga K "law") fd28 := fun_of_D D28
  have g28 : mg "law" = some (.ref (He.ga K "law")) := He.glo_ok X G (cd.fact 28 (f := .glo "law") rfl)
  have ex := c.more
  unfold hEx at ex
  have ex0 := ex
  obtain ⟨fdNs, DNs⟩ := cd.def_ 29 (d := hd_NsInit) rfl
  have FNs : Fun K "__init__" "NoFormula.__init__" s_NoFormula_init (He.fAd K ("NoFormula", some "__init__")) fdNs := fun_of_D DNs
  have bNs := FNs.binds (ps := ["self", "word", "name"]) fun _ _ _ _ _ _ us hl => match us, hl with | [_, _, _], _ => rfl
  have gNs : mg "NoFormula" = some (.ref (He.ga K "NoFormula")) := He.glo_ok X G (cd.fact 39 (f := .glo "NoFormula") rfl)
  have gBe : mg "BeltError" = some (.ref (He.ga K "BeltError")) := He.glo_ok X G (cd.fact 40 (f := .glo "BeltError") rfl)
  have T : Top w K mg := ⟨⟨_, fd0, F0, b0, g0⟩, ⟨_, fd1, F1, b1, g1⟩, ⟨_, fd2, F2, b2, g2⟩, ⟨_, fd3, F3, b3, g3⟩, ⟨_, fd4, F4, b4, g4⟩, ⟨_, fd5, F5, b5, g5⟩, ⟨_, fd6, F6, b6, g6⟩, ⟨_, fd7, F7, b7, g7⟩, ⟨_, fd8, F8, b8, g8⟩, ⟨_, fd9, F9, b9, g9⟩, ⟨_, fd10, F10, b10, g10⟩, ⟨_, fd11, F11, b11, g11⟩, ⟨_, fd12, F12, b12, g12⟩, ⟨_, fd13, F13, b13, g13⟩, ⟨_, fd14, F14, b14, g14⟩, ⟨_, fd15, F15, b15, g15⟩, ⟨_, fd16, F16, b16, g16⟩, ⟨_, fd17, F17, b17, g17⟩, ⟨_, fd18, F18, b18, g18⟩, ⟨_, fd19, F19, b19, g19⟩, ⟨_, fd20, F20, b20, g20⟩, ⟨_, fd21, F21, b21, g21⟩, ⟨_, fd22, F22, b22, g22⟩, ⟨_, fd23, F23, b23, g23⟩, ⟨_, fd24, F24, b24, g24⟩, ⟨_, fd25, F25, b25, g25⟩, ⟨_, fd26, F26, b26, g26⟩, ⟨_, fd27, F27, b27, g27⟩, He.free_ok X G (cd.fact 29 (f := .free "enumerate") rfl), He.free_ok X G (cd.fact 30 (f := .free "int") rfl), He.free_ok X G (cd.fact 31 (f := .free "isinstance") rfl), He.free_ok X G (cd.fact 32 (f := .free "len") rfl), He.free_ok X G (cd.fact 33 (f := .free "list") rfl), He.free_ok X G (cd.fact 34 (f := .free "max") rfl), He.free_ok X G (cd.fact 35 (f := .free "range") rfl), He.free_ok X G (cd.fact 36 (f := .free "repr") rfl), He.free_ok X G (cd.fact 37 (f := .free "set") rfl), He.free_ok X G (cd.fact 38 (f := .free "tuple") rfl), ⟨_, nsB_ok ex0 gNs gBe FNs bNs⟩, He.glo_ok X G (cd.fact 41 (f := .glo "NoText") rfl), He.glo_ok X G (cd.fact 42 (f := .glo "NoRoom") rfl), He.glo_ok X G (cd.fact 43 (f := .glo "NoShift") rfl), He.glo_ok X G (cd.fact 44 (f := .glo "NoName") rfl), He.glo_ok X G (cd.fact 45 (f := .glo "NoRow") rfl)⟩
  have e := hfa.symm.trans g28
  cases e
  have law_b : ∀ (s : Shared) (v : Value), BindsTo s fd28 ⟨[v], []⟩ [("_law_script", v)] := fun s v => by
    obtain ⟨_, _, _, _, _, _, _, _, _, rfl, _, _⟩ := F28.ex
    exact .of_eq rfl
  refine ⟨fd28, [], sp_law K , fun p hp => ?_, fun p hp => ?_, fun p hp => ?_, law_b, fun H a ns hl _ hT hS => ⟨a, ns, rfl, hS, hl, fun _ => rfl⟩, fun base _ _ TB => ?_⟩
  · cases hp
  · cases hp
  · cases hp
  exact ok_law F28 T
end Mine
open PySem PySem.W PySem.Calls PyProof.Rows
set_option maxRecDepth 100000 in
set_option maxHeartbeats 0 in
theorem PySem.Challenge.cw_beltshift_k20_the_first_of_several_names_holds : PySem.Challenge.rw_beltshift_k20_the_first_of_several_names.Holds := by
  w_on; o_law
  refine HandSHeadRun.head_any (r := Mine.hR) (q := view Mine.hR.prog [40]) (H := Mine.hk) (ob := Mine.hOb) (M := 40000) (loose := Mine.hNames) (d := HandSHeadRun.topDef Mine.hR.prog 40) (kwd := []) Mine.hOb_eq (by kernel_rfl) (fun s => by kernel_rfl) Mine.hRun (by kernel_rfl) (by kernel_rfl) (by kernel_rfl) (by rfl) (by first | assumption | decide +kernel) (by decide +kernel) ⟨rfl, rfl, rfl, rfl, rfl, by decide +kernel⟩ ?hw ?hc
  case hw => w_witness2
  case hc =>
    refine Mine.walkGT (l := PySem.Challenge.rw_beltshift_k20_the_first_of_several_names) (n := 63) (k := 14) (x := "_law_script") (CX := fun _ => L2.CX0) rfl (by decide) (by kernel_rfl) ⟨rfl, by decide, by decide⟩ ?F (fun _ _ _ _ _ z => z)
    intro w mg fa h Y G hmg0
    obtain ⟨K, KX, c⟩ := Y
    have hmg : mg ("law" : PySem.Str) = some (.ref fa) := by
      have e : (HandSHeadRun.topDef Mine.hR.prog 40).name = ("law" : PySem.Str) := by kernel_rfl
      rw [← e]
      exact hmg0
    exact ⟨K, KX, Mine.all_mkX KX G hmg c⟩
