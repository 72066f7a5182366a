import PyProof.Rows.All
import Wide.All
import OpenK.AllK
import Wide.FinOn
import HandS.ForMost
import HandS.DictComp
import HandS.Wide
import HandS.Style
import HandS.IsInst
import HandS.TupAny
import HandS.NoneIn
import HandS.SetFor
import HandS.Conv
import HandS.Zip
import HandS.SortKw
import HandS.Deep
import KE.DataMinMax
import KE.GoesMore
import KE.KDictZip
import KE.GoesZip
import KE.GoesEnum
import HandS.AnyAll
import HandS.GenOver
import HandS.Strs
import HandS.TupLen
import KE.KeyNested
import PyProof.Rows.TupTab
import HandS.TupMul
import HandS.Words
import HandS.EndTab
import HandS.HeadWalk
import HandS.Defaults
import HandS.Head0
import HandS.Head1
import HandS.Head2
import HandS.HeadEnd
import HandS.HeadHook1
import HandS.HeadHook2
import HandS.HeadHook3
import HandS.HeadHook4
import KE.KStateDown
import KE.KIsAll
import KE.KNestM
import PyProof.GenCompD
import PyProof.WalksMore
import PyProof.ReprRoads
import PySem.Challenge.RW_beltshift_k23_what_formulas_say
import HandS.Lambda
import KE.KLam
import KE.DataMinKey
import HandS.TryOnly
import HandS.ExcInit
import HandS.WordsExc
import HandS.ExcIs
import HandS.ExcField
import HandS.ExcOwn
set_option Elab.async false
set_option linter.all false
set_option maxRecDepth 100000
namespace Mine
open PySem PyProof.Rows L2
def topS (i : Nat) : Stmt := PySem.Challenge.pw_beltshift_k23_what_formulas_say.main.body.getD i (.Pass ⟨0, 0, 0, 0⟩)
abbrev s_needs : Stmt := topS 2
abbrev N_needs : List Str := ["rule"]
theorem sc_needs : FnScope N_needs ["rule"] (defScope s_needs) := ⟨rfl, rfl, rfl, by decide +kernel, rfl, by decide +kernel, by decide +kernel⟩
abbrev s_made_by : Stmt := topS 3
abbrev N_made_by : List Str := ["rule", "things", "word"]
theorem sc_made_by : FnScope N_made_by ["rule", "things"] (defScope s_made_by) := ⟨rfl, rfl, rfl, by decide +kernel, rfl, by decide +kernel, by decide +kernel⟩
abbrev s_made_of_two : Stmt := topS 4
abbrev N_made_of_two : List Str := ["word", "one", "other"]
theorem sc_made_of_two : FnScope N_made_of_two ["word", "one", "other"] (defScope s_made_of_two) := ⟨rfl, rfl, rfl, by decide +kernel, rfl, by decide +kernel, by decide +kernel⟩
abbrev s_tree_parts : Stmt := topS 6
abbrev N_tree_parts : List Str := ["tree", "found", "left", "part", "branch"]
theorem sc_tree_parts : FnScope N_tree_parts ["tree"] (defScope s_tree_parts) := ⟨rfl, rfl, rfl, by decide +kernel, rfl, by decide +kernel, by decide +kernel⟩
abbrev s_leanings : Stmt := topS 7
abbrev N_leanings : List Str := ["tree", "part"]
theorem sc_leanings : FnScope N_leanings ["tree"] (defScope s_leanings) := ⟨rfl, rfl, rfl, by decide +kernel, rfl, by decide +kernel, by decide +kernel⟩
abbrev s_part_rule : Stmt := topS 8
abbrev N_part_rule : List Str := ["part", "word"]
theorem sc_part_rule : FnScope N_part_rule ["part"] (defScope s_part_rule) := ⟨rfl, rfl, rfl, by decide +kernel, rfl, by decide +kernel, by decide +kernel⟩
abbrev s_said : Stmt := topS 10
abbrev N_said : List Str := ["formulas", "rows", "ins", "was", "rules", "outs", "before", "plan", "name", "tree", "since", "told", "bell", "things", "thing", "parts"]
theorem sc_said : FnScope N_said ["formulas", "rows"] (defScope s_said) := ⟨rfl, rfl, rfl, by decide +kernel, rfl, by decide +kernel, by decide +kernel⟩
abbrev s_rule_order : Stmt := topS 11
abbrev N_rule_order : List Str := ["rules", "order", "left", "waiting", "name", "tree", "free", "done"]
theorem sc_rule_order : FnScope N_rule_order ["rules"] (defScope s_rule_order) := ⟨rfl, rfl, rfl, by decide +kernel, rfl, by decide +kernel, by decide +kernel⟩
abbrev s_hangs_on : Stmt := topS 12
abbrev N_hangs_on : List Str := ["tree", "names"]
theorem sc_hangs_on : FnScope N_hangs_on ["tree", "names"] (defScope s_hangs_on) := ⟨rfl, rfl, rfl, by decide +kernel, rfl, by decide +kernel, by decide +kernel⟩
abbrev s_tree_thing : Stmt := topS 13
abbrev N_tree_thing : List Str := ["parts", "since", "before", "bell", "made", "part", "name", "rule", "first", "taken"]
theorem sc_tree_thing : FnScope N_tree_thing ["parts", "since", "before", "bell"] (defScope s_tree_thing) := ⟨rfl, rfl, rfl, by decide +kernel, rfl, by decide +kernel, by decide +kernel⟩
abbrev s_thing_at : Stmt := topS 14
abbrev N_thing_at : List Str := ["since", "before", "bell", "ahead"]
theorem sc_thing_at : FnScope N_thing_at ["since", "before", "bell"] (defScope s_thing_at) := ⟨rfl, rfl, rfl, by decide +kernel, rfl, by decide +kernel, by decide +kernel⟩
abbrev s_law_flow : Stmt := topS 16
abbrev N_law_flow : List Str := ["_law_script"]
theorem sc_law_flow : FnScope N_law_flow ["_law_script"] (defScope s_law_flow) := ⟨rfl, rfl, rfl, by decide +kernel, rfl, by decide +kernel, by decide +kernel⟩
abbrev s_law_pick : Stmt := topS 17
abbrev N_law_pick : List Str := ["_law_flow_here", "_law_many", "_law_cell", "_law_digit"]
theorem sc_law_pick : FnScope N_law_pick ["_law_flow_here", "_law_many"] (defScope s_law_pick) := ⟨rfl, rfl, rfl, by decide +kernel, rfl, by decide +kernel, by decide +kernel⟩
abbrev s_law_thing : Stmt := topS 18
abbrev N_law_thing : List Str := ["_law_flow_here"]
theorem sc_law_thing : FnScope N_law_thing ["_law_flow_here"] (defScope s_law_thing) := ⟨rfl, rfl, rfl, by decide +kernel, rfl, by decide +kernel, by decide +kernel⟩
abbrev s_law_shuffled : Stmt := topS 19
abbrev N_law_shuffled : List Str := ["_law_flow_here", "_law_some", "_law_left", "_law_k"]
theorem sc_law_shuffled : FnScope N_law_shuffled ["_law_flow_here", "_law_some"] (defScope s_law_shuffled) := ⟨rfl, rfl, rfl, by decide +kernel, rfl, by decide +kernel, by decide +kernel⟩
abbrev s_law_word : Stmt := topS 20
abbrev N_law_word : List Str := ["_law_flow_here", "_law_most", "_law_letters", "_law_k"]
theorem sc_law_word : FnScope N_law_word ["_law_flow_here", "_law_most"] (defScope s_law_word) := ⟨rfl, rfl, rfl, by decide +kernel, rfl, by decide +kernel, by decide +kernel⟩
abbrev s_law_taken : Stmt := topS 21
abbrev N_law_taken : List Str := []
theorem sc_law_taken : FnScope N_law_taken [] (defScope s_law_taken) := ⟨rfl, rfl, rfl, by decide +kernel, rfl, by decide +kernel, by decide +kernel⟩
abbrev s_law_names : Stmt := topS 22
abbrev N_law_names : List Str := ["_law_flow_here", "_law_many", "_law_names_here", "_law_stem", "_law_k", "_law_name", "_law_spare"]
theorem sc_law_names : FnScope N_law_names ["_law_flow_here", "_law_many"] (defScope s_law_names) := ⟨rfl, rfl, rfl, by decide +kernel, rfl, by decide +kernel, by decide +kernel⟩
abbrev s_law_leaf : Stmt := topS 23
abbrev N_law_leaf : List Str := ["_law_flow_here", "_law_now", "_law_names_here"]
theorem sc_law_leaf : FnScope N_law_leaf ["_law_flow_here", "_law_now", "_law_names_here"] (defScope s_law_leaf) := ⟨rfl, rfl, rfl, by decide +kernel, rfl, by decide +kernel, by decide +kernel⟩
abbrev s_law_tree : Stmt := topS 24
abbrev N_law_tree : List Str := ["_law_flow_here", "_law_room", "_law_now", "_law_names_here", "_law_word_here", "_law_one", "_law_parts_here"]
theorem sc_law_tree : FnScope N_law_tree ["_law_flow_here", "_law_room", "_law_now", "_law_names_here"] (defScope s_law_tree) := ⟨rfl, rfl, rfl, by decide +kernel, rfl, by decide +kernel, by decide +kernel⟩
abbrev s_law_formulas : Stmt := topS 25
abbrev N_law_formulas : List Str := ["_law_flow_here", "_law_most", "_law_names_here", "_law_ins", "_law_own", "_law_every", "_law_trees", "_law_k", "_law_name", "_law_rules", "_law_was", "_law_outs"]
theorem sc_law_formulas : FnScope N_law_formulas ["_law_flow_here", "_law_most"] (defScope s_law_formulas) := ⟨rfl, rfl, rfl, by decide +kernel, rfl, by decide +kernel, by decide +kernel⟩
abbrev s_law_parts : Stmt := topS 26
abbrev N_law_parts : List Str := ["_law_tree_here", "_law_part"]
theorem sc_law_parts : FnScope N_law_parts ["_law_tree_here"] (defScope s_law_parts) := ⟨rfl, rfl, rfl, by decide +kernel, rfl, by decide +kernel, by decide +kernel⟩
abbrev s_law_value : Stmt := topS 27
abbrev N_law_value : List Str := ["_law_tree_here", "_law_at", "_law_told", "_law_was", "_law_bell", "_law_some", "_law_part", "_law_a", "_law_b", "_law_made"]
theorem sc_law_value : FnScope N_law_value ["_law_tree_here", "_law_at", "_law_told", "_law_was"] (defScope s_law_value) := ⟨rfl, rfl, rfl, by decide +kernel, rfl, by decide +kernel, by decide +kernel⟩
abbrev s_law_said : Stmt := topS 28
abbrev N_law_said : List Str := ["_law_formulas_here", "_law_rows", "_law_ins", "_law_was", "_law_rules", "_law_outs", "_law_told", "_law_kept", "_law_at", "_law_row", "_law_turn", "_law_name", "_law_tree_here", "_law_made", "_law_now"]
theorem sc_law_said : FnScope N_law_said ["_law_formulas_here", "_law_rows"] (defScope s_law_said) := ⟨rfl, rfl, rfl, by decide +kernel, rfl, by decide +kernel, by decide +kernel⟩
abbrev s_law_comes : Stmt := topS 29
abbrev N_law_comes : List Str := ["_law_flow_here", "_law_formulas_here", "_law_many", "_law_name", "_law_k"]
theorem sc_law_comes : FnScope N_law_comes ["_law_flow_here", "_law_formulas_here", "_law_many"] (defScope s_law_comes) := ⟨rfl, rfl, rfl, by decide +kernel, rfl, by decide +kernel, by decide +kernel⟩
abbrev s_law_right : Stmt := topS 30
abbrev N_law_right : List Str := ["_law_formulas_here", "_law_rows", "_law_many", "_law_copied", "_law_due", "_law_found"]
theorem sc_law_right : FnScope N_law_right ["_law_formulas_here", "_law_rows", "_law_many"] (defScope s_law_right) := ⟨rfl, rfl, rfl, by decide +kernel, rfl, by decide +kernel, by decide +kernel⟩
abbrev s_law : Stmt := topS 31
abbrev N_law : List Str := ["_law_script", "_law_flow_here", "_law_first", "_law_second", "_law_rows", "_law_more", "_law_many"]
theorem sc_law : FnScope N_law ["_law_script"] (defScope s_law) := ⟨rfl, rfl, rfl, by decide +kernel, rfl, by decide +kernel, by decide +kernel⟩

/-- a def of the text stands, binds and is bound -/
def Dd (K : PySem.W.Frag) (mg : Str → Option Value) (name : Str) (st : Stmt) (ps : List Str) : Prop :=
  ∃ (f : Addr) (fd : FuncData), Fun K name name st f fd ∧ Binds K fd ps [] ∧ mg name = some (.ref f)
/-! ### the table of the rules -/
def eleven : List Str := ["same", "sum", "gap", "below", "most", "least", "pick", "times", "always", "in", "out"]
def needN (z : Str) : Int := if z = "always" ∨ z = "in" then 0 else if z = "same" ∨ z = "times" ∨ z = "out" then 1 else if z = "pick" then 3 else 2
structure NeedsAt (K : PySem.W.Frag) (w : World) (a : Addr) : Prop where
  dict : ∃ es n, KDict K w a es n
  yes : ∀ z ∈ eleven, ∃ t, PySem.W.nsIn K a z = some (some (.int (needN z) t))
structure Top (w : World) (K : PySem.W.Frag) (mg : Str → Option Value) : Prop where
  d_needs : Dd K mg "needs" s_needs ["rule"]
  d_made_by : Dd K mg "made_by" s_made_by ["rule", "things"]
  d_made_of_two : Dd K mg "made_of_two" s_made_of_two ["word", "one", "other"]
  d_tree_parts : Dd K mg "tree_parts" s_tree_parts ["tree"]
  d_leanings : Dd K mg "leanings" s_leanings ["tree"]
  d_part_rule : Dd K mg "part_rule" s_part_rule ["part"]
  d_said : Dd K mg "said" s_said ["formulas", "rows"]
  d_rule_order : Dd K mg "rule_order" s_rule_order ["rules"]
  d_hangs_on : Dd K mg "hangs_on" s_hangs_on ["tree", "names"]
  d_tree_thing : Dd K mg "tree_thing" s_tree_thing ["parts", "since", "before", "bell"]
  d_thing_at : Dd K mg "thing_at" s_thing_at ["since", "before", "bell"]
  d_law_flow : Dd K mg "_law_flow" s_law_flow ["_law_script"]
  d_law_pick : Dd K mg "_law_pick" s_law_pick ["_law_flow_here", "_law_many"]
  d_law_thing : Dd K mg "_law_thing" s_law_thing ["_law_flow_here"]
  d_law_shuffled : Dd K mg "_law_shuffled" s_law_shuffled ["_law_flow_here", "_law_some"]
  d_law_word : Dd K mg "_law_word" s_law_word ["_law_flow_here", "_law_most"]
  d_law_taken : Dd K mg "_law_taken" s_law_taken []
  d_law_names : Dd K mg "_law_names" s_law_names ["_law_flow_here", "_law_many"]
  d_law_leaf : Dd K mg "_law_leaf" s_law_leaf ["_law_flow_here", "_law_now", "_law_names_here"]
  d_law_tree : Dd K mg "_law_tree" s_law_tree ["_law_flow_here", "_law_room", "_law_now", "_law_names_here"]
  d_law_formulas : Dd K mg "_law_formulas" s_law_formulas ["_law_flow_here", "_law_most"]
  d_law_parts : Dd K mg "_law_parts" s_law_parts ["_law_tree_here"]
  d_law_value : Dd K mg "_law_value" s_law_value ["_law_tree_here", "_law_at", "_law_told", "_law_was"]
  d_law_said : Dd K mg "_law_said" s_law_said ["_law_formulas_here", "_law_rows"]
  d_law_comes : Dd K mg "_law_comes" s_law_comes ["_law_flow_here", "_law_formulas_here", "_law_many"]
  d_law_right : Dd K mg "_law_right" s_law_right ["_law_formulas_here", "_law_rows", "_law_many"]
  m_any : mg "any" = none
  m_dict : mg "dict" = none
  m_enumerate : mg "enumerate" = none
  m_int : mg "int" = none
  m_isinstance : mg "isinstance" = none
  m_len : mg "len" = none
  m_list : mg "list" = none
  m_max : mg "max" = none
  m_min : mg "min" = none
  m_range : mg "range" = none
  m_repr : mg "repr" = none
  m_tuple : mg "tuple" = none
  m_zip : mg "zip" = none
  x_needs : ∃ aN : Addr, mg "NEEDS" = some (.ref aN) ∧ NeedsAt K w aN

/-! ### heaps -/
def But (f : Addr) (H H' : Hp) : Prop := ∀ b o, H b = some o → b ≠ f → H' b = some o
theorem But.refl {f : Addr} {H : Hp} : But f H H := fun _ _ e _ => e
theorem But.trans {f : Addr} {H H1 H2 : Hp} (a : But f H H1) (b : But f H1 H2) : But f H H2 := fun x o e n => b x o (a x o e n) n
theorem But.upd {f : Addr} {H H1 : Hp} {o : HO} (a : But f H H1) : But f H (upd H1 f o) := fun x u e n => by rw [upd_ne n]; exact a x u e n
theorem But.new {f p : Addr} {H H1 : Hp} {o : HO} (a : But f H H1) (h : H1 p = none) : But f H (L2.upd H1 p o) := fun x u e n => by
  have e1 := a x u e n
  rw [upd_ne (ne_of_none e1 h)]
  exact e1
theorem same_new {H : Hp} {p : Addr} {o : HO} (h : H p = none) : Same H (upd H p o) := fun b u q => by rw [upd_ne (ne_of_none q h)]; exact q
theorem But.same {f : Addr} {H H1 H2 : Hp} (a : But f H H1) (b : Same H1 H2) : But f H H2 := fun x o e n => b x o (a x o e n)
theorem But.seqT {K : PySem.W.Frag} {f a : Addr} {H H1 : Hp} {xs : List V} (b : But f H H1) (h : SqT K H a xs) (n : a ≠ f) : SqT K H1 a xs := by
  rcases h with h | h
  · left
    rcases h with h | ⟨o, h⟩
    · exact .inl (b _ _ h n)
    · exact .inr ⟨o, b _ _ h n⟩
  · exact .inr h
/-- a comprehension without a test -/
theorem yes_in {σ : L2.St} {H : Hp} {A B : Hp → Prop} (h : A H) : tYes σ H (fun b H3 => if b = true then A H3 else B H3) := by
  show (if true = true then A H else B H)
  rw [if_pos rfl]
  exact h
/-! ### the draw -/
/-- the list of the law's draws at f, the script's copy at c -/
def Flow (H : Hp) (f c : Addr) : Prop := ∃ (ns : List Int) (i p q r : Int), H f = some (.lst [.ref c, .int i, .int p, .int q, .int r]) ∧ H c = some (.lst (ns.map V.int)) ∧ 0 ≤ i ∧ 0 ≤ p ∧ 0 ≤ q ∧ q < 2147483647
theorem Flow.new {H : Hp} {f c p : Addr} {o : HO} (h : Flow H f c) (n : H p = none) : Flow (upd H p o) f c := by
  obtain ⟨ns, i, a, q, r, e1, e2, e⟩ := h
  exact ⟨ns, i, a, q, r, same_new n _ _ e1, same_new n _ _ e2, e⟩
theorem Flow.ne {H : Hp} {f c p : Addr} (h : Flow H f c) (n : H p = none) : p ≠ f := by
  obtain ⟨ns, i, a, q, r, e1, _⟩ := h
  exact fun e => by rw [e, e1] at n; cases n
theorem Flow.nec {H : Hp} {f c p : Addr} (h : Flow H f c) (n : H p = none) : p ≠ c := by
  obtain ⟨ns, i, a, q, r, _, e1, _⟩ := h
  exact fun e => by rw [e, e1] at n; cases n
theorem Flow.lst {H : Hp} {f c p : Addr} {o : HO} (h : Flow H f c) (n1 : p ≠ f) (n2 : p ≠ c) : Flow (upd H p o) f c := by
  obtain ⟨ns, i, a, q, r, e1, e2, e⟩ := h
  exact ⟨ns, i, a, q, r, by rw [upd_ne n1.symm]; exact e1, by rw [upd_ne n2.symm]; exact e2, e⟩
theorem Flow.same {H H' : Hp} {f c : Addr} (h : Flow H f c) (s : Same H H') : Flow H' f c := by
  obtain ⟨ns, i, a, q, r, e1, e2, e⟩ := h
  exact ⟨ns, i, a, q, r, s _ _ e1, s _ _ e2, e⟩
theorem Flow.tup {H : Hp} {f c p : Addr} {xs : List V} (h : Flow H f c) (e : H p = some (.tup xs)) : p ≠ f := by
  obtain ⟨ns, i, a, q, r, e1, _⟩ := h
  exact ne_of e e1 (by intro z; cases z)
theorem at_ints {ns : List Int} {i : Int} (h0 : 0 ≤ i) (h1 : i < (ns.length : Int)) : ∃ v : Int, atI (ns.map V.int) i = some (.int v) := by
  have hk : i.toNat < ns.length := by omega
  have ek : i = ((i.toNat : Nat) : Int) := by omega
  have q : atI (ns.map V.int) ((i.toNat : Nat) : Int) = some (.int ns[i.toNat]) := atI_nat (by rw [List.getElem?_map, List.getElem?_eq_getElem hk]; rfl)
  rw [← ek] at q
  exact ⟨_, q⟩
/-- a block by less than it asks -/
theorem PSs.to {X : Cx} {ss : List Stmt} {t : TS} (h : PSs X ss t) (u : TS) (k : ∀ D σ H, u D σ H → t D σ H) : PSs X ss u := ⟨fun pins s σ H D I q => h.run pins s σ H D I (k D σ H q)⟩
theorem if_bl {b : Bool} {A B : Prop} (h1 : b = true → A) (h2 : b = false → B) : if b = true then A else B := by
  cases b
  · rw [if_neg Bool.false_ne_true]; exact h2 rfl
  · rw [if_pos rfl]; exact h1 rfl
/-! ### defs whose callers are showing nothing: a promise that may lean on it (repr of a list or tuple asks) -/
structure FnG (P : Program) (w : World) (K : PySem.W.Frag) (mg : Str → Option Value) (base : Heap) (CX : CXT) (lv : Nat) (fn : Addr) (dat : FuncData) (names : List Str) (sp : Sp) : Prop where
  many : ∀ xs H Q E, sp xs H Q E → xs.length = names.length
  goes : ∀ (A : Around) (outer : List Env) (st : Shared) (H : Hp) (given : Args) (us : List Value) (xs : List V) (Q : VK) (E : XK), Room lv A → A.guards = some [] →
    Env0 P w K mg base A outer st H → BindsTo st dat given (names.zip us) → Vals xs us → sp xs H Q E → codeAny (model P w) A (.call (.ref fn) given) (CR CX outer P w H st Q E) st
theorem FnG.of {P : Program} {w : World} {K : PySem.W.Frag} {mg : Str → Option Value} {base : Heap} {CX : CXT} {lv : Nat} {fn : Addr} {dat : FuncData} {names : List Str} {sp : Sp} (h : FnOk P w K mg base CX lv fn dat names sp) : FnG P w K mg base CX lv fn dat names sp :=
  ⟨h.len, fun A o st H g us xs Q E r _ e b v q => h.run A o st H g us xs Q E r e b v q⟩
section
variable {P : Program} {w : World} {K : PySem.W.Frag} {mg : Str → Option Value} {base : Heap} {CX : CXT} {lv : Nat}
theorem fnG_of {fn : Addr} {nm ql : Str} {pr : Arguments} {bd : List Stmt} {sc : Scope} {d1 d2 d3 d4 d5 d6 d7 : Value} {o1 o2 : Option Addr} {o3 : Array (Option Value)} {N names : List Str} {sp : Sp}
    (at_ : K.lookup fn = some ⟨d7, o2, .func (PySem.W.fnOf nm ql pr bd sc d1 d2 d3 d4 o1 d5 d6), o3⟩) (code : PySem.W.codeIn K d5 ql = true) (S : FnScope N names sc) (many : ∀ xs H Q E, sp xs H Q E → xs.length = names.length)
    (body : ∀ (A : Around) (outer : List Env) (st : Shared) (H : Hp) (xs : List V) (Q : VK) (E : XK), Room lv (A.deeper (envOfC ql sc st.heap.objs.size fn d5)) → (A.deeper (envOfC ql sc st.heap.objs.size fn d5)).guards = some [] → sp xs H Q E →
      ∃ t, PSs (cxOf CX P w K mg base N ql sc fn d5 A outer st H E) bd t ∧ t { nx := fun _ H' => Q .non H', rt := Q } (start N xs) H) :
    FnG P w K mg base CX (lv + 1) fn (PySem.W.fnOf nm ql pr bd sc d1 d2 d3 d4 o1 d5 d6) names sp := by
  refine ⟨many, fun A outer st H given us xs Q E rm gd e0 bnd rel asked => ?_⟩
  have inK : K.In st.heap := e0.mod.kin.keeps fun z u e => (e0.bs z u e).1
  have noL : st.heap.NoLimit := e0.mod.nolimit.keeps fun z u e => (e0.bs z u e).1
  have kinds : ∀ z ∈ names.zip us, sc.names.lookup z.1 = some .local ∨ (sc.names.lookup z.1 = some .cell ∧ ((cellsFrom (st.heap.objs.size + 1) sc.names []).lookup z.1).isSome = true) := by
    intro z hz
    rcases S.par z.1 (List.of_mem_zip (a := z.1) (b := z.2) hz).1 with k | k
    · left; exact k
    · right; exact ⟨k, PySem.W.cellsFrom_some _ _ _ (.inl k)⟩
  refine codeAny_call_function rm.depth (inK _ _ at_) rfl S.co S.gen rfl (PySem.W.codeRec_of inK code) (bnd _ _ _ _ ?_)
  refine wpAny_newFunctionEnv_cells S.kind kinds fun env eenv st1 inn => ?_
  subst eenv
  refine ⟨noL.keeps inn.toInCall.keep, codeAny_func ?_⟩
  obtain ⟨t, der, now⟩ := body A outer st H xs Q E (rm.deeper _) gd asked
  have J0 := inv_start (CX := CX) (E := E) S rm.hd e0 (many _ _ _ _ asked) rel inn
  refine wpAny_mono (der.run [] st1 (start N xs) H _ J0 now) (fun flow st' got => ?_) fun _ _ z => z
  cases flow with
  | ret u =>
    obtain ⟨v, σ', H', J, rv, fine⟩ := got
    exact ⟨v, H', J.os, J.bare, J.base, J.hok, rv, fine⟩
  | next =>
    obtain ⟨σ', H', J, fine⟩ := got
    exact ⟨V.non, H', J.os, J.bare, J.base, J.hok, rfl, fine⟩
  | brk =>
    obtain ⟨_, _, _, no⟩ := got
    exact no.elim
  | cont =>
    obtain ⟨_, _, _, no⟩ := got
    exact no.elim
theorem Fun.okG {nm ql : Str} {st : Stmt} {fn : Addr} {dat : FuncData} {N names : List Str} {sp : Sp} (F : L2.Fun K nm ql st fn dat) (S : FnScope N names (defScope st)) (many : ∀ xs H Q E, sp xs H Q E → xs.length = names.length)
    (body : ∀ (cdv : Value) (A : Around) (outer : List Env) (s : Shared) (H : Hp) (xs : List V) (Q : VK) (E : XK), Room lv (A.deeper (envOfC ql (defScope st) s.heap.objs.size fn cdv)) → (A.deeper (envOfC ql (defScope st) s.heap.objs.size fn cdv)).guards = some [] → sp xs H Q E →
      ∃ t, PSs (cxOf CX0 P w K mg base N ql (defScope st) fn cdv A outer s H E).nox (defBody st) t ∧ t { nx := fun _ H' => Q .non H', rt := Q } (start N xs) H) : FnG P w K mg base CX0 (lv + 1) fn dat names sp := by
  obtain ⟨c1, c2, c3, c4, c5, c6, cdv, c8, c9, rfl, at_, code⟩ := F.ex
  refine fnG_of at_ code S many fun A outer s H xs Q E rm gd asked => ?_
  obtain ⟨t, der, now⟩ := body cdv A outer s H xs Q E rm gd asked
  exact ⟨t, der.nox, now⟩
end
section
variable {X : Cx} {CX : CXT} {lv : Nat} {fn : Addr} {dat : FuncData} {names : List Str} {sp : Sp} {more : List V} {ds : List Value} {E : XK}
theorem goesG {pins : List (Addr × Obj)} {σ : L2.St} {H : Hp} {st : Shared} {Q : VK} {us : List Value} {xs : List V} (F : FnG X.prog X.w X.K X.mg X.base CX lv fn dat names sp) (rm : Room lv X.A) (gd : X.A.guards = some []) (bnd : Binds X.K dat names ds) (dv : Vals more ds) (out : Passes CX X E)
    (J : Inv X pins σ H st) (rel : Vals xs us) (asked : sp (xs ++ more) H Q E) : wpAny (model X.prog X.w) X.A (call (.ref fn) us) (EP X pins σ Q) X.xe st := by
  have rel2 := rel.append dv
  have len2 : (us ++ ds).length = names.length := by
    rw [← rel2.length]
    exact F.many _ _ _ _ asked
  refine wpAny_call (codeAny_mono (F.goes X.A X.stack st H ⟨us, []⟩ (us ++ ds) (xs ++ more) Q E rm gd J.env0 (bnd st us J.kIn len2) rel2 asked) fun res st' got => ?_)
  cases res with
  | error e => exact out pins σ H st e st' J got
  | ok flow =>
    cases flow with
    | ret u => exact J.after got
    | next => exact got.elim
    | brk => exact got.elim
    | cont => exact got.elim
theorem pe_callG {x : Str} {p pos : Pos} {e : Expr} {es : List Expr} {t : TA} (F : FnG X.prog X.w X.K X.mg X.base CX lv fn dat names sp) (rm : Room lv X.A) (gd : X.A.guards = some []) (glob : Gl X x) (here : X.mg x = some (.ref fn)) (kept : PySem.W.keepIn X.K (.ref fn) = true)
    (bnd : Binds X.K dat names ds) (dv : Vals more ds) (out : Passes CX X E) (args : PA X (e :: es) t) (n1 : (x == ("__debug__" : Str)) = false := by decide)
    (n2 : starEach (e :: es) X.env = (false, eval e X.env) :: starEach es X.env := by rfl) (n3 : (backTo pos (starEach es X.env)).any (·.1) = false := by rfl) : PE X (.Call (.Name x p) (e :: es) [] pos) (tCall sp more E t) := by
  refine ⟨fun pins st σ H Q J asked => ?_⟩
  refine wpAny_Call_Name_kw (ld_glob J glob here ?_ n1)
  exact PySem.W.callWith_K (h₀ := X.base) J.ok.mod.kin kept (thn (args.run pos pins st σ H _ J asked) fun us st1 ⟨xs, H1, J1, rel, now⟩ => ⟨J1.kIn, goesG F rm gd bnd dv out J1 rel now⟩) n2 n3
theorem pe_call0G {x : Str} {p pos : Pos} (F : FnG X.prog X.w X.K X.mg X.base CX lv fn dat names sp) (rm : Room lv X.A) (gd : X.A.guards = some []) (glob : Gl X x) (here : X.mg x = some (.ref fn)) (kept : PySem.W.keepIn X.K (.ref fn) = true)
    (bnd : Binds X.K dat names ds) (dv : Vals more ds) (out : Passes CX X E) (n1 : (x == ("__debug__" : Str)) = false := by decide) : PE X (.Call (.Name x p) [] [] pos) (tCall sp more E tNil) := by
  refine ⟨fun pins st σ H Q J asked => ?_⟩
  refine wpAny_Call_Name_kw (ld_glob J glob here ?_ n1)
  exact PySem.W.callWith_K0 J.kIn kept (goesG (us := []) F rm gd bnd dv out J .nil asked)
/-- repr of data -/
def rReprD (K : PySem.W.Frag) : List V → Hp → VK → Prop := fun xs H Q => ∃ (a : Addr) (d : PyData), xs = [.ref a] ∧ Dp K H (.ref a) d ∧ d.showable = true ∧ d.hasDict = false ∧ d.depth ≤ 60 ∧ d.shown.length ≤ sizeLine ∧ Q (.str d.shown) H
theorem call_reprD (gd : X.A.guards = some []) (un : X.A.units + 64 < cLine) : CallR X (.builtin "repr") (rReprD X.K) := by
  intro pins st σ H xs us Q J rel asked
  obtain ⟨a, d, rfl, hd, h1, h2, h3, h4, now⟩ := asked
  obtain ⟨u, rfl, ru⟩ := vals1 rel
  obtain rfl : u = Value.ref a := ru
  obtain ⟨as, rd⟩ := Dp.reads J d _ _ hd rfl
  exact repr_of_reads' rd h1 (PyData.noDict_hsm h2) gd (by omega) (fun _ _ e => e) (fun h' u tk kp => ⟨.str d.shown, H, J.kept (t' := tk) kp, ⟨_, rfl⟩, now⟩) h4
end
/-! ### the law's own call, its code objects' tables told, by a promise that leans on nothing being shown -/
theorem endGT {P : Program} {w : World} {K : PySem.W.Frag} {mg mb : Str → Option Value} {CX : CXT} {lv : Nat} {fn a : Addr} {dat : FuncData} {x : Str} {sp : Sp} {st : Shared} {us : List Value} {ns : List Int} {cs : List (Addr × Addr)}
    (inK : K.In st.heap) (gl : st.heap.Ns mainGlobals mg) (bl : st.heap.Ns builtinsNs mb) (boot : ∀ z : Str, z ≠ "__name__" → mb z = bootBuiltins z) (noL : st.heap.NoLimit) (gens : st.gens = #[])
    (bm : ∃ (m : Addr) (o : Obj), mg "__builtins__" = some (.ref m) ∧ m ≠ builtinsNs ∧ st.heap.get? m = some o ∧ o.cls = .type "module" ∧ o.dict = some builtinsNs ∧ o.data = .plain)
    (tabs : ∀ p ∈ cs, st.heap.get? p.2 = some { cls := .none, data := .fields #[] }) (free : ∀ p ∈ cs, K.lookup p.2 = none) (codes : ∀ p ∈ cs, PySem.W.CodeHd st.heap p.1 p.2)
    (obj : st.heap.get? a = some { cls := .type "list", data := .seq us.toArray }) (iv : IntsAre us ns) (short : ns.length ≤ sizeLine) (rm : Room lv callerA)
    (F : ∀ bs : Heap, K.In bs → bs.Ns mainGlobals mg → (∀ p ∈ cs, LamX.TabB bs mg p.1 p.2) → FnG P w K mg bs CX lv fn dat [x] sp) (bnd : ∀ (z : Shared) (u : Value), BindsTo z dat ⟨[u], []⟩ [(x, u)])
    (asked : ∀ H : Hp, (∀ p ∈ cs, H p.2 = some (.tbl #[])) → SqL K H a (ns.map V.int) → sp [.ref a] H (fun v _ => v = .bl true) fun _ _ _ => False)
    (never : ∀ H e st', CX [] H st (fun _ _ _ => False) e st' → False) :
    codeAny (model P w) callerA (.call (.ref fn) ⟨[.ref a], []⟩) (fun res st' => res = .ok (.ret (.bool true)) ∧ OldK st.heap st'.heap ∧ st'.os = st.os ∧ AllBare st'.gens) st := by
  classical
  have rel := vals_ints iv
  have many := iv.length
  let tb : Addr → Prop := fun b => ∃ p ∈ cs, p.2 = b
  have tObj : ∀ {b : Addr}, tb b → st.heap.get? b = some { cls := .none, data := .fields #[] } := fun {b} ⟨p, hp, e⟩ => e ▸ tabs p hp
  have aT : ¬ tb a := fun h => by
    have z : Data.fields #[] = Data.seq us.toArray _ := congrArg Obj.data (Option.some.inj ((tObj h).symm.trans obj))
    cases z
  have main : ∀ H : Hp, (∀ b, tb b → H b = some (.tbl #[])) → (∀ b, H b = none ∨ tb b ∨ (b = a ∧ K.lookup a = none ∧ ∃ o xs, H b = some (.frz o (.lst xs)))) → SqL K H a (ns.map V.int) → HOk P w H st.heap →
      codeAny (model P w) callerA (.call (.ref fn) ⟨[.ref a], []⟩) (fun res st' => res = .ok (.ret (.bool true)) ∧ OldK st.heap st'.heap ∧ st'.os = st.os ∧ AllBare st'.gens) st := by
    intro H ht trk sq ok
    have kClear : ∀ {b : Addr} {o : Obj}, K.lookup b = some o → H b = none := fun {b o} e => by
      rcases trk b with h | ⟨p, hp, rfl⟩ | ⟨rfl, h, _⟩
      · exact h
      · rw [free p hp] at e; cases e
      · rw [h] at e; cases e
    have dClear : ∀ {b : Addr} {o : Obj}, st.heap.get? b = some o → o.data ≠ .fields #[] → (∀ vs n, o.data ≠ .seq vs n) → H b = none := fun {b o} e n1 n2 => by
      rcases trk b with h | h | ⟨rfl, _⟩
      · exact h
      · rw [tObj h] at e; cases e; exact (n1 rfl).elim
      · rw [obj] at e; cases e; exact (n2 _ _ rfl).elim
    have names : ∀ {b : Addr} {m : Str → Option Value}, st.heap.Ns b m → (hidT st.heap H).Ns b m := by
      rintro b m ⟨u, es, ep, e, d, r⟩
      exact ⟨u, es, ep, hidT_get e (dClear e (by rw [d]; exact fun z => nomatch z) (by rw [d]; exact fun _ _ z => nomatch z)), d, r⟩
    have inB : K.In (hidT st.heap H) := fun b u e => hidT_get (inK b u e) (kClear e)
    have TB : ∀ p ∈ cs, LamX.TabB (hidT st.heap H) mg p.1 p.2 := fun p hp => by
      obtain ⟨o, vs, file, tf, flags, tg, inF, text, tt, e1, r1, r2, r3, rest⟩ := codes p hp
      obtain ⟨m, ob, b1, b2, b3, b4, b5, b6⟩ := bm
      obtain ⟨og, es, ep, eg, dg, _⟩ := gl
      have nG : m ≠ mainGlobals := fun z => by
        rw [z, eg] at b3; cases b3; rw [dg] at b6; cases b6
      have nP : m ≠ p.2 := fun z => by
        rw [z, tabs p hp] at b3; cases b3; cases b6
      refine ⟨⟨o, vs, file, tf, flags, tg, inF, text, tt, hidT_get e1 (dClear e1 (fun z => ?_) (by rw [r2]; exact fun _ _ z => nomatch z)), r1, r2, r3, rest⟩, ⟨m, ob, b1, b2, nG, nP, hidT_get b3 (dClear b3 (by rw [b6]; exact fun z => nomatch z) (by rw [b6]; exact fun _ _ z => nomatch z)), b4, b5, b6⟩, fun z => ?_⟩
      · rw [r2] at z; cases z; simp at r3
      · rw [z, tabs p hp] at eg; cases eg; cases dg
    obtain ⟨mc, l1, l2⟩ := noL
    have env : Env0 P w K mg (hidT st.heap H) callerA [] st H :=
      ⟨rfl, ⟨inB, names gl, ⟨mb, names bl, boot⟩, ⟨mc, names l1, l2⟩⟩, fun b u e => of_hidT e, Nat.le_of_eq (hidT_size _ _), trivial, (fun b z => nomatch z), ok, .of_eq gens⟩
    refine codeAny_mono ((F _ inB (names gl) TB).goes callerA [] st H ⟨[.ref a], []⟩ [.ref a] [.ref a] _ _ rm rfl env (bnd st (.ref a)) (.cons rfl .nil) (asked H (fun p hp => ht _ ⟨p, hp, rfl⟩) sq)) fun res st' got => ?_
    cases res with
    | error e => exact (never H e st' got).elim
    | ok flow =>
      cases flow with
      | next => exact got.elim
      | brk => exact got.elim
      | cont => exact got.elim
      | ret u =>
        obtain ⟨v, H', os, bare, un, ok', rv, now⟩ := got
        obtain rfl : v = V.bl true := now
        obtain rfl : u = Value.bool true := rv
        have stay : ∀ b o, ¬ tb b → st.heap.get? b = some o → st'.heap.get? b = some o := fun b o nb e => by
          rcases trk b with h | h | ⟨_, _, ob, xs, h⟩
          · exact un.keep b o e h (fun z => by cases z) (by simp)
          · exact absurd h nb
          · obtain ⟨f1, _⟩ := ok b _ h
            obtain ⟨f2, _⟩ := ok' b _ (un.frzs b ob _ h)
            rw [e] at f1
            cases f1
            exact f2
        have grown : ∀ p ∈ cs, ∃ more : Array Value, st'.heap.get? p.2 = some { cls := .none, data := .fields more } := fun p hp => by
          obtain ⟨more, z⟩ := un.tbls p.2 #[] (ht _ ⟨p, hp, rfl⟩)
          exact ⟨_, ok' p.2 _ z⟩
        refine ⟨rfl, ⟨fun b o e => ?_, fun b o e => ?_⟩, os, bare⟩
        · by_cases h : tb b
          · obtain ⟨p, hp, rfl⟩ := h
            obtain ⟨more, g⟩ := grown p hp
            rw [tabs p hp] at e
            cases e
            exact .inr (.inl ⟨((codes p hp).tab (tabs p hp)).isCodeTable, rfl, #[], more, rfl, by rw [Array.empty_append]; exact g⟩)
          · exact .inl (stay b o h e)
        · by_cases h : tb b
          · obtain ⟨p, hp, rfl⟩ := h
            obtain ⟨more, g⟩ := grown p hp
            exact ⟨_, g⟩
          · exact ⟨o, stay b o h e⟩
  cases hk : K.lookup a with
  | some u =>
    have e := inK a u hk
    rw [obj] at e
    cases e
    refine main (fun b => if tb b then some (.tbl #[]) else none) (fun b h => if_pos h) (fun b => ?_) (.inr ⟨_, us.toArray, _, hk, rfl, rfl, rfl, by rw [List.size_toArray, many]; exact short, by simpa using rel⟩) fun b z k => ?_
    · by_cases h : tb b
      · exact .inr (.inl h)
      · exact .inl (if_neg h)
    · by_cases h : tb b
      · have k2 := (if_pos h).symm.trans k
        cases k2
        exact tObj h
      · have k2 := (if_neg h).symm.trans k
        cases k2
  | none =>
    refine main (fun b => if b = a then some (.frz { cls := .type "list", data := .seq us.toArray } (.lst (ns.map V.int))) else if tb b then some (.tbl #[]) else none) (fun b h => (if_neg (fun (z : b = a) => aT (by rw [← z]; exact h))).trans (if_pos h)) (fun b => ?_) (.inl (.inr ⟨_, if_pos rfl⟩)) fun b z k => ?_
    · by_cases j : b = a
      · exact .inr (.inr ⟨j, hk, _, _, if_pos j⟩)
      · by_cases h : tb b
        · exact .inr (.inl h)
        · exact .inl ((if_neg j).trans (if_neg h))
    · by_cases j : b = a
      · have k2 := (if_pos j).symm.trans k
        cases k2
        subst j
        exact ⟨obj, by rw [List.length_map]; exact short, us, _, rel, obj⟩
      · have k1 := (if_neg j).symm.trans k
        by_cases h : tb b
        · have k2 := (if_pos h).symm.trans k1
          cases k2
          exact tObj h
        · have k2 := (if_neg h).symm.trans k1
          cases k2
/-- what is known of such a law's promise at the head's heap -/
def LawAtG (l : PySem.W.OpenLaw) (w : World) (K : PySem.W.Frag) (CX : CXT) (lv n : Nat) (x : Str) (mg : Str → Option Value) (fn : Addr) (h : Heap) : Prop :=
  ∃ (dat : FuncData) (cs : List (Addr × Addr)) (sp : Sp), (∀ p ∈ cs, h.get? p.2 = some { cls := .none, data := .fields #[] }) ∧ (∀ p ∈ cs, K.lookup p.2 = none) ∧ (∀ p ∈ cs, PySem.W.CodeHd h p.1 p.2) ∧ (∀ (z : Shared) (u : Value), BindsTo z dat ⟨[u], []⟩ [(x, u)]) ∧
    (∀ (H : Hp) (a : Addr) (ns : List Int), ns.length ≤ n → (∀ z ∈ ns, Builtin.Int.intBits z ≤ 1048576) → (∀ p ∈ cs, H p.2 = some (.tbl #[])) → SqL K H a (ns.map V.int) → sp [.ref a] H (fun v _ => v = .bl true) fun _ _ _ => False) ∧
    ∀ bs : Heap, K.In bs → bs.Ns mainGlobals mg → (∀ p ∈ cs, LamX.TabB bs mg p.1 p.2) → FnG l.prog w K mg bs CX lv fn dat [x] sp
theorem walkGT {l : PySem.W.OpenLaw} {n k : Nat} {q : Program} {loose : List Str} {XP : (Str → Option Value) → Heap → Prop} {YP : World → Heap → Prop} {d : DefRec} {CX : World → CXT} {x : Str}
    (h1 : l.most = some n) (h2 : n ≤ sizeLine) (h3 : d.params.defaults = []) (rm : Room k callerA)
    (F : ∀ (w : World) (mg : Str → Option Value) (fn : Addr) (h : Heap), YP w h → h.Ns mainGlobals mg → mg d.name = some (.ref fn) → ∃ K : PySem.W.Frag, K.In h ∧ LawAtG l w K (CX w) k n x mg fn h)
    (h6 : ∀ (w : World) (H : Hp) (s : Shared) (e : Value) (s' : Shared), CX w [] H s (fun _ _ _ => False) e s' → False) :
    PySem.W.WalkO q loose XP YP l.row.toRowW d [] (fun f vs => PySem.call f vs) := by
  refine Att.attach_callB h1 h3 fun w s₀ s₁ mg mb fn o pm cd doc a us ns G Y ho hd hcd hmg hobj hints hlen hbits hg => ?_
  obtain ⟨K, inK, dat, cs, sp, t1, t2, t3, bnd, ask, got⟩ := F w mg fn _ Y G.T.g hmg
  exact endGT inK G.T.g G.T.b G.T.builtins G.T.nolimit hg G.T.bmain t1 t2 t3 hobj hints (Nat.le_trans hlen h2) rm got bnd (fun H t o => ask H a ns hlen hbits t o) fun H e s' => h6 w H s₁ e s'
/-! ### lists, two by two -/
inductive All2 {α β : Type} (R : α → β → Prop) : List α → List β → Prop
  | nil : All2 R [] []
  | cons {a b as bs} : R a b → All2 R as bs → All2 R (a :: as) (b :: bs)
theorem All2.imp {α β : Type} {R S : α → β → Prop} (h : ∀ a b, R a b → S a b) : ∀ {as bs}, All2 R as bs → All2 S as bs
  | _, _, .nil => .nil
  | _, _, .cons a b => .cons (h _ _ a) (All2.imp h b)
theorem All2.length {α β : Type} {R : α → β → Prop} : ∀ {as bs}, All2 R as bs → as.length = bs.length
  | _, _, .nil => rfl
  | _, _, .cons _ b => congrArg (· + 1) (All2.length b)
theorem All2.snoc {α β : Type} {R : α → β → Prop} {a b} (r : R a b) : ∀ {as bs}, All2 R as bs → All2 R (as ++ [a]) (bs ++ [b])
  | _, _, .nil => .cons r .nil
  | _, _, .cons h t => .cons h (All2.snoc r t)
theorem All2.get {α β : Type} {R : α → β → Prop} {as : List α} {bs : List β} (h : All2 R as bs) : ∀ {i : Nat} {b : β}, bs[i]? = some b → ∃ a, as[i]? = some a ∧ R a b := by
  induction h with
  | nil => intro i b e; cases e
  | cons r t ih =>
    intro i b e
    cases i with
    | zero => cases e; exact ⟨_, rfl, r⟩
    | succ i => exact ih e
theorem All2.getL {α β : Type} {R : α → β → Prop} {as : List α} {bs : List β} (h : All2 R as bs) : ∀ {i : Nat} {a : α}, as[i]? = some a → ∃ b, bs[i]? = some b ∧ R a b := by
  induction h with
  | nil => intro i b e; cases e
  | cons r t ih =>
    intro i b e
    cases i with
    | zero => cases e; exact ⟨_, rfl, r⟩
    | succ i => exact ih e
/-! ### tuples stay -/
def TK (H H' : Hp) : Prop := ∀ b xs, H b = some (.tup xs) → H' b = some (.tup xs)
theorem TK.refl {H : Hp} : TK H H := fun _ _ e => e
theorem TK.trans {H H1 H2 : Hp} (a : TK H H1) (b : TK H1 H2) : TK H H2 := fun x xs e => b x xs (a x xs e)
theorem TK.same {H H' : Hp} (s : Same H H') : TK H H' := fun x xs e => s _ _ e
theorem TK.new {H : Hp} {p : Addr} {o : HO} (n : H p = none) : TK H (upd H p o) := fun x xs e => same_new n _ _ e
theorem TK.lst {H : Hp} {p : Addr} {xs ys : List V} (h : H p = some (.lst xs)) : TK H (upd H p (.lst ys)) := fun x zs e => by
  rw [upd_ne (ne_of e h (by intro z; cases z))]
  exact e
theorem TK.but {H H' : Hp} {f c : Addr} (F : Flow H f c) (b : But f H H') : TK H H' := fun x xs e => b _ _ e (F.tup e)
theorem same_none {H H' : Hp} {p : Addr} (s : Same H H') (n : H' p = none) : H p = none := by
  cases e : H p with
  | none => rfl
  | some o => rw [s _ _ e] at n; cases n
theorem But.none {f p : Addr} {H H' : Hp} (b : But f H H') (n : H' p = Option.none) (h : p ≠ f) : H p = Option.none := by
  cases e : H p with
  | none => rfl
  | some o => rw [b _ _ e h] at n; cases n
theorem But.of {f : Addr} {H H' : Hp} (s : Same H H') : But f H H' := fun _ _ e _ => s _ _ e
/-- a list that was not there is written: what was stays -/
theorem But.own {f p : Addr} {H H1 : Hp} {o : HO} (a : But f H H1) (h : H p = Option.none) : But f H (L2.upd H1 p o) := fun x u e n => by
  rw [upd_ne (ne_of_none e h)]
  exact a x u e n
theorem Same.own {p : Addr} {H H1 : Hp} {o : HO} (a : Same H H1) (h : H p = Option.none) : Same H (L2.upd H1 p o) := fun x u e => by
  rw [upd_ne (ne_of_none e h)]
  exact a x u e
/-! ### loops over any iterator -/
theorem for_it {J : It} {n : Nat} {g : TG} {tb : TS} {D : Ends} {σ : L2.St} {H : Hp} (Pv : Nat → L2.St → Hp → Prop) (h0 : Pv 0 σ H) (go : ∀ i σ H, i < n → Pv i σ H → J.go i H) (st : ∀ σ H, Pv n σ H → J.stop n H)
    (hs : ∀ i x σ H H', i < n → Pv i σ H → J.yld i H x H' → g x σ H' fun σ2 H2 => tb { D with nx := Pv (i + 1), ct := Pv (i + 1), bk := D.nx } σ2 H2) (hd : ∀ σ H, Pv n σ H → D.nx σ H) :
    ∃ W : Nat → Nat → L2.St → Hp → Prop, (∃ m, W 0 m σ H) ∧ ∀ i m σ H, W i m σ H →
      (J.stop i H ∧ D.nx σ H) ∨ (J.go i H ∧ ∃ N : L2.St → Hp → Prop, (∀ σ' H', N σ' H' → ∃ m', m' < m ∧ W (i + 1) m' σ' H') ∧ ∀ x H', J.yld i H x H' → g x σ H' fun σ2 H2 => tb { D with nx := N, ct := N, bk := D.nx } σ2 H2) := by
  refine ⟨fun i m σ H => i + m = n ∧ Pv i σ H, ⟨n, by omega, h0⟩, fun i m σ H ⟨e, p⟩ => ?_⟩
  by_cases k : i < n
  · exact .inr ⟨go i σ H k p, Pv (i + 1), fun σ' H' p' => ⟨m - 1, by omega, by omega, p'⟩, fun x H' y => hs i x σ H H' k p y⟩
  · have z : i = n := by omega
    subst z
    exact .inl ⟨st σ H p, hd σ H p⟩
theorem lc_it {J : It} {n : Nat} {g : TG} {tt : TT} {te : TE} {vs : List Nat} {σ : L2.St} {H1 : Hp} {D : Addr} {Qd : Hp → Prop} (Pv : Nat → Hp → Prop) (h0 : Pv 0 (upd H1 D (.lst []))) (go : ∀ i H, i < n → Pv i H → J.go i H) (st : ∀ H, Pv n H → J.stop n H)
    (hs : ∀ i x H H', i < n → Pv i H → J.yld i H x H' → g x (wipe σ vs) H' fun σ2 H2 => wipe σ2 vs = wipe σ vs ∧ tt σ2 H2 fun b H3 =>
      if b = true then te σ2 H3 fun y H4 => ∃ acc, H4 D = some (.lst acc) ∧ acc.length < sizeLine ∧ Pv (i + 1) (upd H4 D (.lst (acc ++ [y]))) else Pv (i + 1) H3) (hd : ∀ H, Pv n H → Qd H) :
    ∃ W : Nat → Nat → Hp → Prop, (∃ m, W 0 m (upd H1 D (.lst []))) ∧ ∀ i m H, W i m H →
      (J.stop i H ∧ Qd H) ∨ (J.go i H ∧ ∃ Nx : Hp → Prop, (∀ H', Nx H' → ∃ m', m' < m ∧ W (i + 1) m' H') ∧ ∀ x H', J.yld i H x H' → g x (wipe σ vs) H' fun σ2 H2 => wipe σ2 vs = wipe σ vs ∧ tt σ2 H2 fun b H3 =>
        if b = true then te σ2 H3 fun y H4 => ∃ acc, H4 D = some (.lst acc) ∧ acc.length < sizeLine ∧ Nx (upd H4 D (.lst (acc ++ [y]))) else Nx H3) := by
  refine ⟨fun i m H => i + m = n ∧ Pv i H, ⟨n, by omega, h0⟩, fun i m H ⟨e, p⟩ => ?_⟩
  by_cases k : i < n
  · exact .inr ⟨go i H k p, Pv (i + 1), fun H' p' => ⟨m - 1, by omega, by omega, p'⟩, fun x H' y => hs i x H H' k p y⟩
  · have z : i = n := by omega
    subst z
    exact .inl ⟨st H p, hd H p⟩
/-! ### tests -/
theorem if_str {x z : Str} {A B : Prop} (h1 : x = z → A) (h2 : x ≠ z → B) : if decide (V.str x = V.str z) = true then A else B :=
  if_bl (fun e => h1 (V.str.inj (of_decide_eq_true e))) (fun e => h2 (fun q => of_decide_eq_false e (congrArg V.str q)))
theorem inV_strs {x : Str} {zs : List Str} : inV (.str x) (zs.map V.str) = true ↔ x ∈ zs := by
  unfold inV
  induction zs with
  | nil => simp
  | cons z zs ih =>
    rw [List.map_cons, List.any_cons, Bool.or_eq_true, ih, List.mem_cons]
    constructor
    · rintro (h | h)
      · exact .inl (by simpa [eqV] using (show (z == x) = true from h) |> fun k => (eq_of_beq k).symm)
      · exact .inr h
    · rintro (h | h)
      · exact .inl (show (z == x) = true by rw [h]; exact beq_self_eq_true z)
      · exact .inr h
theorem if_in {x : Str} {zs : List Str} {A B : Prop} (h1 : x ∈ zs → A) (h2 : x ∉ zs → B) : if (if false = true then !inV (.str x) (zs.map V.str) else inV (.str x) (zs.map V.str)) = true then A else B := by
  have e : (if false = true then !inV (.str x) (zs.map V.str) else inV (.str x) (zs.map V.str)) = inV (.str x) (zs.map V.str) := if_neg Bool.false_ne_true
  rw [e]
  exact if_bl (fun c => h1 (inV_strs.mp c)) (fun c => h2 (fun k => by rw [inV_strs.mpr k] at c; cases c))
theorem same_seqT {K : PySem.W.Frag} {a : Addr} {H H1 : Hp} {xs : List V} (b : Same H H1) (h : SqT K H a xs) : SqT K H1 a xs := by
  rcases h with h | h
  · left
    rcases h with h | ⟨o, h⟩
    · exact .inl (b _ _ h)
    · exact .inr ⟨o, b _ _ h⟩
  · exact .inr h
theorem little {n : Nat} (h : n ≤ 1000) : n ≤ sizeLine := Nat.le_of_lt (small1000 h)
/-! ### xs[i] op= e -/
def rGetL (K : PySem.W.Frag) : V → V → Hp → VK → Prop := fun o i H Q => ∃ (p : Addr) (xs : List V) (j : Nat) (v : V), o = .ref p ∧ i = .int (j : Nat) ∧ SqL K H p xs ∧ xs[j]? = some v ∧ Q v H
theorem get_list {X : Cx} : PGet X (rGetL X.K) := by
  intro pins st σ H o i ov iv Q J ro ri asked
  obtain ⟨p, xs, j, v, rfl, rfl, hq, hj, now⟩ := asked
  cases ro
  obtain ⟨t, rfl⟩ := ri
  obtain ⟨its, r, pl, hz⟩ := J.list hq
  obtain ⟨u, eu, ru⟩ := r.get hj
  have n1 := (List.getElem?_eq_some_iff.mp hj).1
  have n2 := line63
  exact wpAny_getItem_list pl.isList (by omega) (by omega) (by simpa using eu) ⟨v, H, J, ru, now⟩
/-! ### the same rules, the written part named (so that they fit within comprehensions) -/
section
variable {X : Cx}
theorem ix_listK (K : PySem.W.Frag) (h : X.K = K) : IxR X (rIxL K) := by subst h; exact ix_list
theorem ix_tupK (K : PySem.W.Frag) (h : X.K = K) : IxR X (rIxT K) := by subst h; exact ix_tup
def rLenK (K : PySem.W.Frag) : List V → Hp → VK → Prop := fun xs H Q => ∃ (p : Addr) (ys : List V), xs = [.ref p] ∧ (SqL K H p ys ∨ SqT K H p ys) ∧ Q (.int (ys.length : Nat)) H
theorem call_len_seqK (K : PySem.W.Frag) (h : X.K = K) : CallR X (.builtin "len") (rLenK K) := by subst h; exact call_len_seq
def rListOfK (K : PySem.W.Frag) : List V → Hp → VK → Prop := fun xs H Q => ∃ (p : Addr) (ys : List V), xs = [.ref p] ∧ (SqL K H p ys ∨ SqT K H p ys) ∧ ∀ l, H l = none → Q (.ref l) (upd H l (.lst ys))
theorem call_list_ofK (K : PySem.W.Frag) (h : X.K = K) : CallR X (.type "list") (rListOfK K) := by subst h; exact call_list_of
def rTupOfK (K : PySem.W.Frag) : List V → Hp → VK → Prop := fun xs H Q => ∃ (p : Addr) (ys : List V), xs = [.ref p] ∧ ((SqL K H p ys ∧ ∀ l, H l = none → Q (.ref l) (upd H l (.tup ys))) ∨ (SqT K H p ys ∧ Q (.ref p) H))
theorem call_tuple_ofK (K : PySem.W.Frag) (h : X.K = K) : CallR X (.type "tuple") (rTupOfK K) := by subst h; exact call_tuple_of
theorem op_in_seqK (K : PySem.W.Frag) (h : X.K = K) : OpR X (compareOp .In) (rIn K false) := by subst h; exact op_in_seq
theorem op_notIn_seqK (K : PySem.W.Frag) (h : X.K = K) : OpR X (compareOp .NotIn) (rIn K true) := by subst h; exact op_notIn_seq
theorem sl_listK (K : PySem.W.Frag) (h : X.K = K) : SlR X (rSlL K) := by subst h; exact sl_list
theorem sl_tupAK (K : PySem.W.Frag) (h : X.K = K) : SlR X (rSlA K) := by subst h; exact sl_tupA
theorem op_eqDK (K : PySem.W.Frag) (h : X.K = K) (hu : X.A.units + 64 < cLine) : OpR X (compareOp .Eq) (rEqD K) := by subst h; exact op_eqD hu
theorem op_neDK (K : PySem.W.Frag) (h : X.K = K) (hu : X.A.units + 64 < cLine) : OpR X (compareOp .NotEq) (rNeD K) := by subst h; exact op_neD hu
theorem call_isiKK (K : PySem.W.Frag) (h : X.K = K) : CallR X (.builtin "isinstance") (rIsi K) := by subst h; exact call_isi
theorem cr_allK (K : PySem.W.Frag) (h : X.K = K) (hc : X.calm = true) : CallR X (.builtin "all") (rAll K) := by subst h; exact cr_all hc
theorem cr_anyK (K : PySem.W.Frag) (h : X.K = K) (hc : X.calm = true) : CallR X (.builtin "any") (rAny K) := by subst h; exact cr_any hc
theorem cr_minKK (K : PySem.W.Frag) (h : X.K = K) (hc : X.calm = true) : CallR X (.builtin "min") (rMin K) := by subst h; exact cr_min hc
theorem cr_maxKK (K : PySem.W.Frag) (h : X.K = K) (hc : X.calm = true) : CallR X (.builtin "max") (rMax K) := by subst h; exact cr_max hc
def tTruK (K : PySem.W.Frag) (ta : TE) : TT := fun σ H Q => ta σ H fun x H' => ∃ k, TruV K x H' k ∧ Q k H'
theorem pt_truthK (K : PySem.W.Frag) (h : X.K = K) {a : Expr} {ta : TE} (ha : PE X a ta) (he : ∀ whole, isTrue a X.env whole = (do let v ← whole; standAt a.pos; holding [v] (truthy v))) : PT X a (tTruK K ta) := by subst h; exact pt_truth ha he
theorem get_listK (K : PySem.W.Frag) (h : X.K = K) : PGet X (rGetL K) := by subst h; exact get_list
theorem pg_tupK (K : PySem.W.Frag) (h : X.K = K) {es : List Expr} {k n : Nat} {t : TGs} {pos : Pos} (hc : X.calm = true) (g : PGs X es t)
    (hn : (assignEach es X.env).length = n := by rfl) (hst : (assignEach es X.env).findIdx? (·.1) = none := by rfl) : PG X (.Tuple es k pos) (gTup K n t) := by subst h; exact pg_tup hc g hn hst
theorem pg_unlK (K : PySem.W.Frag) (h : X.K = K) {es : List Expr} {k n : Nat} {t : TGs} {pos : Pos} (hc : X.calm = true) (g : PGs X es t)
    (hn : (assignEach es X.env).length = n := by rfl) (hst : (assignEach es X.env).findIdx? (·.1) = none := by rfl) : PG X (.Tuple es k pos) (gUnl K n t) := by subst h; exact pg_unl hc g hn hst
theorem pi_listK (K : PySem.W.Frag) (h : X.K = K) {tg e : Expr} {te : TE} (he : PE X e te) : PI X tg e (iList K te) := by subst h; exact pi_list he
theorem pi_tupK (K : PySem.W.Frag) (h : X.K = K) {tg e : Expr} {te : TE} (he : PE X e te) : PI X tg e (iTup K te) := by subst h; exact pi_tup he
theorem pe_revLK (K : PySem.W.Frag) (h : X.K = K) {e : Expr} {te : TE} {k : Nat} {p1 p2 p3 pos : Pos} (he : PE X e te) : PE X (.Subscript e (.Slice none none (some (.UnaryOp .USub (.Constant (.int 1) k p1) p2)) p3) pos) (tRevL K te) := by subst h; exact pe_revL he
theorem pe_bmK (K : PySem.W.Frag) (h : X.K = K) {o e : Expr} {es : List Expr} {to : TE} {t : TA} {name : Str} {apos cpos : Pos} {T id : String} {r : V → List V → Hp → VK → Prop}
    (pa : PlainAttrs T) (slot : Slot T name id) (hty : typeOf (.builtin id) = pure (.type "method_descriptor")) (hm : MtR X id r) (ho : PE X o to) (ha : PA X (e :: es) t)
    (n1 : attributeBase o name X.env (eval o X.env) = eval o X.env := by rfl)
    (n2 : ((backTo cpos (starEach (e :: es) X.env)).all (fun x => !x.1) && (backToKw cpos (keywordEach [] X.env)).all (fun x => x.1.isSome) && decide ((e :: es).length + ([] : List Keyword).length + (if ([] : List Keyword).isEmpty then 0 else 1) < 30)) = true := by rfl)
    (n3 : (apos.endLine == cpos.line) = true := by rfl) (n4 : starEach (e :: es) X.env = (false, eval e X.env) :: starEach es X.env := by rfl) (n5 : (backTo cpos (starEach es X.env)).any (·.1) = false := by rfl) :
    PE X (.Call (.Attribute o name apos) (e :: es) [] cpos) (tBM K T r to t) := by subst h; exact pe_bm pa slot hty hm ho ha n1 n2 n3 n4 n5
theorem pe_bm0K (K : PySem.W.Frag) (h : X.K = K) {o : Expr} {to : TE} {name : Str} {apos cpos : Pos} {T id : String} {r : V → List V → Hp → VK → Prop}
    (pa : PlainAttrs T) (slot : Slot T name id) (hty : typeOf (.builtin id) = pure (.type "method_descriptor")) (hm : MtR X id r) (ho : PE X o to)
    (n1 : attributeBase o name X.env (eval o X.env) = eval o X.env := by rfl) (n3 : (apos.endLine == cpos.line) = true := by rfl) : PE X (.Call (.Attribute o name apos) [] [] cpos) (tBM0 K T r to) := by subst h; exact pe_bm0 pa slot hty hm ho n1 n3
theorem op_catAK (K : PySem.W.Frag) (h : X.K = K) : OpR X (binaryOp .Add) (rCatA K) := by subst h; exact op_catA
theorem call_isiTK (K : PySem.W.Frag) (h : X.K = K) : CallR X (.builtin "isinstance") (rIsiT K) := by subst h; exact call_isiT
theorem pi_zipAK (K : PySem.W.Frag) (h : X.K = K) {e e2 : Expr} {ta : TA} {p pos tpos : Pos} {elts : List Expr} {kk : Nat} (hg : Gl X "zip") (hm : X.mg "zip" = none) (ha : PA X [e, e2] ta)
    (hs : starEach [e, e2] X.env = (false, eval e X.env) :: starEach [e2] X.env := by rfl) (hpl : (backTo pos (starEach [e2] X.env)).any (·.1) = false := by rfl) :
    PI X (.Tuple elts kk tpos) (.Call (.Name "zip" p) [e, e2] [] pos) (RZ.iZipA K ta) := by subst h; exact RZ.pi_zipA hg hm ha hs hpl
theorem pi_or {tg e : Expr} {t1 t2 : TI} (h1 : PI X tg e t1) (h2 : PI X tg e t2) : PI X tg e (fun σ H R => t1 σ H R ∨ t2 σ H R) := ⟨fun pins s σ H R I h => h.elim (h1.run pins s σ H R I) (h2.run pins s σ H R I)⟩
theorem pe_fldK (K : PySem.W.Frag) (h : X.K = K) {e : Expr} {ta : TE} {f : Str} {pos : Pos} (he : PE X e ta) (hb : attributeBase e f X.env (eval e X.env) = eval e X.env) : PE X (.Attribute e f pos) (tFld K ta f) := by subst h; exact pe_fld he hb
theorem ps_fldK (K : PySem.W.Frag) (h : X.K = K) {o value : Expr} {ta tv : TE} {f : Str} {pos pos' : Pos} (ha : PE X o ta) (hv : PE X value tv) (hs : swapsWith value (some (.Attribute o f pos')) pos.line X.env = pure false) : PS X (.Assign [.Attribute o f pos'] value pos) (sFld K ta tv f) := by subst h; exact ps_fld ha hv hs
theorem ps_fldaugK (K : PySem.W.Frag) (h : X.K = K) {o value : Expr} {ta tv : TE} {f : Str} {pos tpos : Pos} {op : Operator} {rd : V → V → Hp → VK → Prop} (ha : PE X o ta) (hv : PE X value tv) (hop : InOp X op rd) : PS X (.AugAssign (.Attribute o f tpos) op value pos) (sFldAug K ta tv rd f) := by subst h; exact ps_fldaug ha hv hop
end
section
variable {X : Cx}
theorem cr_sumK (K : PySem.W.Frag) (h : X.K = K) (hc : X.calm = true) : CallR X (.builtin "sum") (rSum K) := by subst h; exact cr_sum hc
end
section
variable {X : Cx}
theorem op_ltTK (K : PySem.W.Frag) (h : X.K = K) (hu : X.A.units < cLine) : OpR X (compareOp .Lt) (rLtT K) := by subst h; exact op_ltT hu
end
section
variable {X : Cx}
theorem cr_sortedRevK (K : PySem.W.Frag) (h : X.K = K) {b : Bool} : CallRK X (.builtin "sorted") [Str.ofString "reverse"] (rSortedKw K b [.bl b]) := by subst h; exact cr_sortedRev
theorem op_inDK (K : PySem.W.Frag) (h : X.K = K) (hu : X.A.units + 65 < cLine) : OpR X (compareOp .In) (rInD K) := by subst h; exact op_inD hu
end
theorem hu65 {A : Around} {k : Nat} (hr : Room k A) : A.units + 65 < cLine := by have := hr.un; omega
section
variable {X : Cx}
/-- x not in t, t a tuple of data of any depth -/
def rNotInDT (K : PySem.W.Frag) : R2 := fun x y H Q => ∃ d ds, Dp K H x d ∧ Dp K H y (.tuple ds) ∧ SeqAt.shaped d = true ∧ SeqAt.shaped (.tuple ds) = true ∧ Q (.bl (!ds.any fun z => PyData.eqv z d)) H
theorem op_notInDTK (K : PySem.W.Frag) (same : X.K = K) (room : X.A.units + 65 < cLine) : OpR X (compareOp .NotIn) (rNotInDT K) := by
  subst same
  intro pins st σ H one many ov mv Q J ro rm asked
  have ⟨d, ds, dpO, dpM, shO, shM, done⟩ := asked
  have ⟨_, readO⟩ := Dp.reads J d one ov dpO ro
  have ⟨_, readM⟩ := Dp.reads J (.tuple ds) many mv dpM rm
  exact SeqAt.notIn_tuple_reads readM readO (SeqAt.canLay_of_shaped shM) (SeqAt.canLay_of_shaped shO) (room_in_shaped shO room) ⟨.bl _, H, J, rfl, done⟩
end
section
variable {X : Cx}
/-- x in t, t a tuple of data of any depth -/
def rInDT (K : PySem.W.Frag) : R2 := fun x y H Q => ∃ d ds, Dp K H x d ∧ Dp K H y (.tuple ds) ∧ SeqAt.shaped d = true ∧ SeqAt.shaped (.tuple ds) = true ∧ Q (.bl (ds.any fun z => PyData.eqv z d)) H
theorem op_inDTK (K : PySem.W.Frag) (same : X.K = K) (room : X.A.units + 65 < cLine) : OpR X (compareOp .In) (rInDT K) := by
  subst same
  intro pins st σ H one many ov mv Q J ro rm asked
  have ⟨d, ds, dpO, dpM, shO, shM, done⟩ := asked
  have ⟨_, readO⟩ := Dp.reads J d one ov dpO ro
  have ⟨_, readM⟩ := Dp.reads J (.tuple ds) many mv dpM rm
  exact SeqAt.in_tuple_reads readM readO (SeqAt.canLay_of_shaped shM) (SeqAt.canLay_of_shaped shO) (room_in_shaped shO room) ⟨.bl _, H, J, rfl, done⟩
end
section
variable {X : Cx}
def rReprG (K : PySem.W.Frag) : List V → Hp → VK → Prop := fun xs H Q => ∃ (x : V) (d : PyData), xs = [x] ∧ Dp K H x d ∧ d.showable = true ∧ d.hasDict = false ∧ d.depth ≤ 60 ∧ d.shown.length ≤ sizeLine ∧ Q (.str d.shown) H
theorem call_reprG (K : PySem.W.Frag) (hk : X.K = K) (gd : X.A.guards = some []) (un : X.A.units + 64 < cLine) : CallR X (.builtin "repr") (rReprG K) := by
  subst hk
  intro pins st σ H xs us Q J rel asked
  obtain ⟨x, d, rfl, hd, h1, h2, h3, h4, now⟩ := asked
  obtain ⟨u, rfl, ru⟩ := vals1 rel
  cases hd with
  | non =>
    obtain rfl : u = Value.none := ru
    exact PySem.P.repr_of_none ⟨.str _, H, J.tok _, ⟨_, rfl⟩, now⟩
  | bl b =>
    obtain rfl : u = Value.bool b := ru
    refine PySem.P.repr_of_bool ⟨.str (PyData.bool b).shown, H, J.tok _, ⟨st.toks, ?_⟩, now⟩
    cases b <;> rfl
  | int i =>
    obtain ⟨t, rfl⟩ := ru
    refine PySem.P.repr_of_int (by simpa [PyData.showable] using h1) ⟨.str (PyData.int i).shown, H, J.tok _, ⟨st.toks, ?_⟩, now⟩
    first | rfl | (simp only [PyData.shown]; rfl)
  | str z =>
    obtain ⟨t, rfl⟩ := ru
    refine PySem.P.repr_of_str ⟨.str (PyData.str z).shown, H, J.tok _, ⟨st.toks, ?_⟩, now⟩ (by simpa only [PyData.shown] using h4)
    first | rfl | (simp only [PyData.shown])
  | lst a b =>
    obtain rfl : u = Value.ref _ := ru
    obtain ⟨as, rd⟩ := Dp.reads J _ _ _ (.lst a b) rfl
    exact repr_of_reads' rd h1 (PyData.noDict_hsm h2) gd (by omega) (fun _ _ e => e) (fun h' u tk kp => ⟨.str _, H, J.kept (t' := tk) kp, ⟨_, rfl⟩, now⟩) h4
  | tup a b =>
    obtain rfl : u = Value.ref _ := ru
    obtain ⟨as, rd⟩ := Dp.reads J _ _ _ (.tup a b) rfl
    exact repr_of_reads' rd h1 (PyData.noDict_hsm h2) gd (by omega) (fun _ _ e => e) (fun h' u tk kp => ⟨.str _, H, J.kept (t' := tk) kp, ⟨_, rfl⟩, now⟩) h4
end
/-! ### for i, x in enumerate(t), t a tuple -/
section
open Sem (wp)
open AutoSeq1 (wpAny_loadPart')
theorem enum_of_tup (t : Addr) (its : Array Value) (n : Nat) (dct : Option Addr) (sl : Array (Option Value)) :
    Meets (Builtin.«enumerate.__new__» ⟨[.type "enumerate", .ref t], []⟩) (fun _ R st => st.heap.get? t = some { cls := .type "tuple", dict := dct, data := .seq its n, slots := sl } ∧
      R (.ok (.ret (.ref (st.heap.push { cls := .type "tuple_iterator", data := .fields #[.ref t, .int 0 0] }).objs.size)))
        { st with heap := (st.heap.push { cls := .type "tuple_iterator", data := .fields #[.ref t, .int 0 0] }).push { cls := .type "enumerate", data := .fields #[.none, .bool false, .ref st.heap.objs.size, rawInt 0, .none, .none] } }) :=
  .of_wp fun prog w A R st asked => by
    obtain ⟨hp, g, d, tk, os⟩ := st; obtain ⟨at_, asked⟩ := asked
    have sub := sub_enumerate
    have hT : Heap.IsTuple (Shared.heap ⟨hp, g, d, tk, os⟩) t its := ⟨_, at_, rfl, n, rfl⟩
    wp_walk using wpAny_loadPart' at_
    refine wpAny_stack_any fun stk => wpAny_pure ?_
    split
    · rename_i c _ _ _ _ _
      cases (c == Value.type "enumerate")
      · wp_walk using wpAny_loadPart' at_, wpAny_pyIter_tuple hT
        exact ⟨_, rfl, asked⟩
      · wp_walk using wpAny_loadPart' at_, wpAny_pyIter_tuple hT
        exact ⟨_, rfl, asked⟩
    · wp_walk using wpAny_loadPart' at_, wpAny_pyIter_tuple hT
      exact ⟨_, rfl, asked⟩
theorem call_enum_tup {prog : Program} {w : World} {A : Around} {E : Value → Shared → Prop} {st : Shared} {t : Addr} {its : Array Value} {Q : Value → Shared → Prop} (hT : st.heap.IsTuple t its)
    (now : ∀ h', IsEnum h' (st.heap.objs.size + 1) st.heap.objs.size 0 .none → h'.IsTupleIter st.heap.objs.size t 0 → h'.objs.size = st.heap.objs.size + 2 →
      (∀ b o, st.heap.get? b = some o → h'.get? b = some o) → Q (.ref (st.heap.objs.size + 1)) { st with heap := h' }) :
    wpAny (model prog w) A (call (.type "enumerate") [.ref t]) Q E st := by
  obtain ⟨⟨c, dct, dt, sl⟩, at_, hc, n, hd⟩ := hT
  replace hc : c = .type "tuple" := hc
  replace hd : dt = .seq its n := hd
  subst hc hd
  refine callType_new F.called_enumerate (by decide) (F.typeCall_enumerate_1 _) (F.newCall_enumerate_1 _) (fun obj => F.args_object_init_2 obj _) F.entry_enumerate_new (enum_of_tup t its n dct sl) ⟨at_, ?_⟩
  have size1 : (st.heap.push { cls := .type "tuple_iterator", data := .fields #[.ref t, .int 0 0] }).objs.size = st.heap.objs.size + 1 := Heap.size_push ..
  show _ ∧ _
  rw [size1]
  have made := Heap.get?_push_size (st.heap.push { cls := .type "tuple_iterator", data := .fields #[.ref t, .int 0 0] }) (o := { cls := .type "enumerate", data := .fields #[.none, .bool false, .ref st.heap.objs.size, rawInt 0, .none, .none] }) rfl
  rw [size1] at made
  exact ⟨⟨_, made, rfl⟩, now _ made ⟨_, Heap.get?_push_of_some _ (Heap.get?_push_size _ rfl), rfl, rfl⟩ (by rw [Heap.size_push, size1]) fun b o e => Heap.get?_push_of_some _ (Heap.get?_push_of_some _ e)⟩
end
/-- the tuple at a, each item in a new pair -/
def IteT (K : PySem.W.Frag) (a : Addr) (xs : List V) : It :=
  ⟨fun i H => SqT K H a xs ∧ i < xs.length, fun i H v H' => ∃ T x, v = .ref T ∧ H T = none ∧ H' = upd H T (.tup [.int (i : Nat), x]) ∧ xs[i]? = some x, fun i H => SqT K H a xs ∧ i = xs.length⟩
theorem turn_enumT {P : Program} {w : World} {K : PySem.W.Frag} {elts : List Expr} {kk : Nat} {tpos : Pos} (a e it : Addr) (xs : List V) :
    Turn P w K (.Tuple elts kk tpos) (IteT K a xs) [e, it] e (fun i h => (∃ old, IsEnum h e it ((i : Nat) : Int) old) ∧ h.IsTupleIter it a i ∧ e ≠ it ∧ a ≠ it ∧ a ≠ e) where
  mem := by simp
  obj := fun i h st b hb => by
    obtain ⟨⟨old, he⟩, ⟨o, ho, hc, hd⟩, _⟩ := st
    have either : b = e ∨ b = it := by simpa using hb
    rcases either with z | z
    · rw [z]; exact ⟨_, he, fun v q => nomatch q⟩
    · rw [z]; exact ⟨o, ho, fun v q => by rw [hd] at q; cases q⟩
  keep := fun i h h' st k => let ⟨⟨old, he⟩, hi, apart⟩ := st; ⟨⟨old, k e (by simp) _ he⟩, hi.at fun o q => k it (by simp) o q, apart⟩
  item := by
    intro X hP hw hK hc i pins st σ H E J hf stt going
    subst hP hw hK
    obtain ⟨⟨old, he⟩, hit, n1, n2, n3⟩ := stt
    obtain ⟨hq, hi⟩ := going
    obtain ⟨its, rv, tup, hz⟩ := J.tuple hq
    have len := rv.length
    have el : e < st.heap.objs.size := Heap.lt_size he
    have il : it < st.heap.objs.size := by obtain ⟨_, q, _⟩ := hit; exact Heap.lt_size q
    have D := Draws.tuple (prog := X.prog) (w := X.w) (A := X.A.in1) (J.ok.hd hc) it a n2 its.toArray
    refine wpAny_pyNext_enum_itemD D he ⟨hit, tup⟩ (by rw [List.size_toArray]; omega) n1 (by simp [n1, n3.symm]) fun u h' tk px out stt' new size kp => ?_
    refine ⟨_, rfl, wpAny_letOwnedTupleGo_enum (s := { st with heap := h', toks := tk + 1 }) out fun h'' he' sb => ?_⟩
    obtain ⟨x, hx⟩ : ∃ x, xs[i]? = some x := ⟨_, List.getElem?_eq_getElem hi⟩
    obtain ⟨u', hu', ru⟩ := rv.get hx
    have eu : u' = u := by
      have px : its.toArray[i]? = some u := px
      rw [List.getElem?_toArray, hu'] at px
      exact Option.some.inj px
    subst eu
    have there : h''.get? st.heap.objs.size = some { cls := .type "tuple", data := .seq #[.int i tk, u'] } := (sb.2 _ (Nat.ne_of_gt el)).trans new
    have ok2 : ObjOk X.prog X.w (upd H st.heap.objs.size (.tup [.int (i : Nat), x])) h'' st.heap.objs.size (.tup [.int (i : Nat), x]) :=
      ⟨by show 2 ≤ sizeLine; decide, [.int i tk, u'], .cons ⟨_, rfl⟩ (.cons ru .nil), ⟨_, there, rfl, _, rfl⟩⟩
    have J1 : Inv X pins σ (upd H st.heap.objs.size (.tup [.int (i : Nat), x])) { st with heap := h'', toks := tk + 1 } :=
      J.turnedNew (ch := [e, it]) (fun b ob hb q => (sb.2 b (fun z => hb (by simp [z]))).trans (kp b ob (fun z => hb (by simp [z])) (fun z => hb (by simp [z])) q)) hf (Nat.le_refl _) ok2
    refine ⟨.ref st.heap.objs.size, _, J1, rfl, ⟨_, x, rfl, J.hok.fresh (Nat.le_refl _), rfl, hx⟩, ⟨⟨u', ?_⟩, stt'.1.at fun o q => (sb.2 it (Ne.symm n1)).trans q, n1, n2, n3⟩, fun b hb => ?_⟩
    · rw [show ((i + 1 : Nat) : Int) = (i : Int) + 1 by omega]
      exact he'
    · have bl : b < st.heap.objs.size := by
        have either : b = e ∨ b = it := by simpa using hb
        rcases either with z | z
        · rw [z]; exact el
        · rw [z]; exact il
      rw [upd_ne (Nat.ne_of_lt bl)]
      exact (hf b hb).1
  done := by
    intro X hP hw hK hc i pins st σ H E J hf stt over
    subst hP hw hK
    obtain ⟨⟨old, he⟩, hit, n1, n2, n3⟩ := stt
    obtain ⟨hq, hi⟩ := over
    obtain ⟨its, rv, tup, hz⟩ := J.tuple hq
    obtain ⟨f0, f1, f2, f3, f4, f5⟩ := hf it (by simp)
    have len := rv.length
    have D := Draws.tuple (prog := X.prog) (w := X.w) (A := X.A.in1) (J.ok.hd hc) it a n2 its.toArray
    have ei : its.toArray.size = i := by rw [List.size_toArray]; omega
    exact wpAny_pyNext_enum_endD D he ⟨by rw [ei]; exact hit, tup⟩ fun h' eb => ⟨rfl, J.turned (t' := st.toks) (fun b o hb q => eb b o hb q) f0 f1 f3 f4 f5⟩
  self := fun A i st Q E stt now => let ⟨⟨_, he⟩, _⟩ := stt; wpAny_pyIter_enum he now
def iEnumT (K : PySem.W.Frag) (ta : TA) : TI := fun σ H R => ta σ H fun vs H1 => ∃ a xs, vs = [.ref a] ∧ SqT K H1 a xs ∧ R (IteT K a xs) H1
theorem pi_enumT (K : PySem.W.Frag) {X : Cx} (hk : X.K = K) {e : Expr} {ta : TA} {p pos tpos : Pos} {elts : List Expr} {kk : Nat} (hg : Gl X "enumerate") (hm : X.mg "enumerate" = none) (ha : PA X [e] ta) (hs : starEach [e] X.env = [(false, eval e X.env)] := by rfl) :
    PI X (.Tuple elts kk tpos) (.Call (.Name "enumerate" p) [e] [] pos) (iEnumT K ta) := by
  subst hk
  refine ⟨fun pins st σ H R J asked => ?_⟩
  refine Call_ (ld_blt J hg hm boot_enumerate (PyProof.Rows.callWith_type1 (thn (ha.run pos pins st σ H _ J asked) fun us st1 ⟨vs, H1, J1, rel, now⟩ => ?_) hs rfl))
  obtain ⟨a, xs, ex, hq, now⟩ := now
  subst ex
  obtain ⟨u, rfl, ru⟩ := vals1 rel
  obtain rfl : u = Value.ref a := ru
  obtain ⟨its, rv, tup, hz⟩ := J1.tuple hq
  have al : a < st1.heap.objs.size := by obtain ⟨o, ho, _⟩ := tup; exact Heap.lt_size ho
  refine call_enum_tup tup fun h' he hit size kp => wpAny_pyIter_enum he ?_
  have J2 : Inv X pins σ H1 { st1 with heap := h' } := J1.kept (t' := st1.toks) kp
  refine ⟨st1.heap.objs.size + 1, [st1.heap.objs.size + 1, st1.heap.objs.size], _, _, H1, rfl, J2, turn_enumT a (st1.heap.objs.size + 1) st1.heap.objs.size xs, ⟨⟨.none, he⟩, hit, Nat.succ_ne_self _, Nat.ne_of_lt al, Nat.ne_of_lt (Nat.lt_succ_of_lt al)⟩, fun b hb => ?_, now⟩
  have either : b = st1.heap.objs.size + 1 ∨ b = st1.heap.objs.size := by simpa using hb
  have low : st1.heap.objs.size ≤ b := by
    rcases either with z | z
    · rw [z]; exact Nat.le_add_right _ _
    · rw [z]; exact Nat.le_refl _
  exact J1.fpOk low (J1.hok.fresh low)
theorem pi_enumK (K : PySem.W.Frag) (h : X.K = K) {e : Expr} {ta : TA} {p pos tpos : Pos} {elts : List Expr} {kk : Nat} (hg : Gl X "enumerate") (hm : X.mg "enumerate" = none) (ha : PA X [e] ta) (hs : starEach [e] X.env = [(false, eval e X.env)] := by rfl) :
    PI X (.Tuple elts kk tpos) (.Call (.Name "enumerate" p) [e] [] pos) (iEnum K ta) := by subst h; exact pi_enum hg hm ha hs
/-! ### dict(zip(xs, ys)), xs a list, ys a tuple -/
section
open Sem (wp)
variable {prog : Program} {w : World} {A : Around} {E : Value → Shared → Prop} {st : Shared} {z TI TO T i1 i2 : Addr} {fp1 fp2 : List Addr} {n1 n2 i : Nat} {P1 P2 : Nat → Value → Prop} {S1 S2 : Nat → Heap → Prop} {f : Bool} {oT : Obj}
theorem out_next (S : ZipSep2 z TI TO i1 i2 fp1 fp2) (D1 : Draws prog w A i1 fp1 n1 P1 S1) (D2 : Draws prog w A i2 fp2 n2 P2 S2) {Q : Value → Shared → Prop}
    (out : IsZipHeld st.heap z TI TO T f) (hT : st.heap.get? T = some oT) (both : IsTupOf2 st.heap TI (.ref i1) (.ref i2)) (at1 : S1 i st.heap) (at2 : S2 i st.heap) (l1 : i < n1) (l2 : i < n2)
    (now : ∀ x y h' tk, P1 i x → P2 i y → IsZipHeld h' z TI TO T true → S1 (i + 1) h' → S2 (i + 1) h' → IsTupOf2 h' st.heap.objs.size x y → (∀ c o, c ≠ z → c ≠ i1 → c ≠ i2 → st.heap.get? c = some o → h'.get? c = some o) → Q (.ref st.heap.objs.size) { st with heap := h', toks := tk }) :
    wpAny (model prog w) A (Builtin.«zip.__next__» ⟨[.ref z], []⟩) (fun fin s' => ∃ v, fin = .done (.ret v) ∧ Q v s') E st := by
  obtain ⟨hp, g, d, tk0, os⟩ := st
  show wpAny _ _ (field (.ref z) 2 >>= _) _ _ _; refine wpAny_bind (wpAny_field out rfl (x := .bool false) rfl ?_)
  show wpAny _ _ (field (.ref z) 3 >>= _) _ _ _; refine wpAny_bind (wpAny_field out rfl (x := .ref TI) rfl ?_)
  refine wpAny_bind (wpAny_seqItems both rfl ?_); show wpAny _ _ (Builtin.SmallTypes.ownedTupleIsFree (.ref z) >>= _) _ _ _
  refine wpAny_bind (wpAny_tupleHeld_zip out hT fun g1 out1 b1 => ?_)
  replace b1 : Heap.SameBut z hp g1 := b1
  simp only [Bool.false_eq_true, if_false]; refine wpAny_bind ?_; rw [← Array.forIn_toList]; simp only [List.forIn_cons, List.forIn_nil]
  refine wpAny_bind (wpAny_bind (wpAny_holding ?_)); show wpAny _ _ (Builtin.SmallTypes.nextOf (.ref i1) >>= _) _ _ ⟨g1, g, d, tk0, os⟩
  refine wpAny_bind (D1.item i _ _ _ l1 (D1.over at1 b1 S.zf1) fun x g2 tk1 px n1' b2 => wpAny_pure ?_)
  replace b2 : Heap.SameBut i1 g1 g2 := b2
  refine wpAny_pure ?_; refine wpAny_bind (wpAny_bind (wpAny_holding ?_)); show wpAny _ _ (Builtin.SmallTypes.nextOf (.ref i2) >>= _) _ _ ⟨g2, g, d, tk1, os⟩
  refine wpAny_bind (D2.item i _ _ _ l2 (D2.over (D2.over at2 b1 S.zf2) b2 S.sep1_2) fun y g3 tk2 py n2' b3 => wpAny_pure ?_)
  replace b3 : Heap.SameBut i2 g2 g3 := b3
  refine wpAny_pure (wpAny_pure ?_); show wpAny _ _ (newTuple [x, y] >>= _) _ _ ⟨g3, g, d, tk2, os⟩
  refine wpAny_bind (wpAny_newTuple ?_); refine wpAny_pure ⟨_, rfl, ?_⟩
  have size : g3.objs.size = hp.objs.size := by rw [b3.1, b2.1, b1.1]
  have out3 : IsZipHeld g3 z TI TO T true := b3.extBut _ _ S.zi2 (b2.extBut _ _ S.zi1 out1)
  have new : IsTupOf2 (g3.push { cls := .type "tuple", data := .seq #[x, y] }) g3.objs.size x y := Heap.get?_push_size _ rfl
  show Q (.ref g3.objs.size) _
  rw [size] at new ⊢
  exact now x y _ tk2 px py (Heap.get?_push_of_some _ out3) (D1.frame _ _ _ (D1.over n1' b3 S.sep2_1) fun _ _ _ q => Heap.get?_push_of_some _ q) (D2.frame _ _ _ n2' fun _ _ _ q => Heap.get?_push_of_some _ q) new
    fun c o c1 c2 c3 q => Heap.get?_push_of_some _ (b3.extBut _ _ c3 (b2.extBut _ _ c2 (b1.extBut _ _ c1 q)))
theorem out_end (S : ZipSep2 z TI TO i1 i2 fp1 fp2) (D1 : Draws prog w A i1 fp1 n1 P1 S1) (D2 : Draws prog w A i2 fp2 n2 P2 S2) {Q : Fin → Shared → Prop}
    (out : IsZipHeld st.heap z TI TO T f) (hT : st.heap.get? T = some oT) (both : IsTupOf2 st.heap TI (.ref i1) (.ref i2)) (at1 : S1 i st.heap) (at2 : S2 i st.heap) (l1 : i ≤ n1) (l2 : i ≤ n2) (last : i = n1 ∨ i = n2)
    (now : ∀ h' tk e, (∀ c o, c ≠ z → c ≠ i1 → c ≠ i2 → st.heap.get? c = some o → h'.get? c = some o) → (∃ o, h'.get? e = some o ∧ o.cls = .type "StopIteration") → E (.ref e) { st with heap := h', toks := tk }) :
    wpAny (model prog w) A (Builtin.«zip.__next__» ⟨[.ref z], []⟩) Q E st := by
  obtain ⟨hp, g, d, tk0, os⟩ := st
  show wpAny _ _ (field (.ref z) 2 >>= _) _ _ _; refine wpAny_bind (wpAny_field out rfl (x := .bool false) rfl ?_)
  show wpAny _ _ (field (.ref z) 3 >>= _) _ _ _; refine wpAny_bind (wpAny_field out rfl (x := .ref TI) rfl ?_)
  refine wpAny_bind (wpAny_seqItems both rfl ?_); show wpAny _ _ (Builtin.SmallTypes.ownedTupleIsFree (.ref z) >>= _) _ _ _
  refine wpAny_bind (wpAny_tupleHeld_zip out hT fun g1 out1 b1 => ?_)
  replace b1 : Heap.SameBut z hp g1 := b1
  simp only [Bool.false_eq_true, if_false]; refine wpAny_bind ?_; rw [← Array.forIn_toList]; simp only [List.forIn_cons, List.forIn_nil]
  refine wpAny_bind (wpAny_bind (wpAny_holding ?_)); show wpAny _ _ (Builtin.SmallTypes.nextOf (.ref i1) >>= _) _ _ ⟨g1, g, d, tk0, os⟩
  by_cases more : i < n1
  · refine wpAny_bind (D1.item i _ _ _ more (D1.over at1 b1 S.zf1) fun x g2 tk1 px n1' b2 => wpAny_pure ?_)
    replace b2 : Heap.SameBut i1 g1 g2 := b2
    refine wpAny_pure ?_; refine wpAny_bind (wpAny_bind (wpAny_holding ?_)); show wpAny _ _ (Builtin.SmallTypes.nextOf (.ref i2) >>= _) _ _ ⟨g2, g, d, tk1, os⟩
    have e2 : i = n2 := by omega
    subst e2
    refine wpAny_bind (D2.done _ _ _ (D2.over (D2.over at2 b1 S.zf2) b2 S.sep1_2) fun g3 e b3 he => ?_)
    exact now g3 tk1 e (fun c o c1 c2 c3 q => b3 _ _ c3 (b2.extBut _ _ c2 (b1.extBut _ _ c1 q))) he
  · have e1 : i = n1 := by omega
    subst e1
    refine wpAny_bind (D1.done _ _ _ (D1.over at1 b1 S.zf1) fun g3 e b3 he => ?_)
    exact now g3 tk0 e (fun c o c1 c2 c3 q => b3 _ _ c2 (b1.extBut _ _ c1 q)) he
theorem out_pyNext (S : ZipSep2 z TI TO i1 i2 fp1 fp2) (D1 : Draws prog w A.in1 i1 fp1 n1 P1 S1) (D2 : Draws prog w A.in1 i2 fp2 n2 P2 S2) {Q : Option Value → Shared → Prop}
    (out : IsZipHeld st.heap z TI TO T f) (hT : st.heap.get? T = some oT) (both : IsTupOf2 st.heap TI (.ref i1) (.ref i2)) (at1 : S1 i st.heap) (at2 : S2 i st.heap) (l1 : i < n1) (l2 : i < n2)
    (now : ∀ x y h' tk, P1 i x → P2 i y → IsZipHeld h' z TI TO T true → S1 (i + 1) h' → S2 (i + 1) h' → IsTupOf2 h' st.heap.objs.size x y → (∀ c o, c ≠ z → c ≠ i1 → c ≠ i2 → st.heap.get? c = some o → h'.get? c = some o) → Q (some (.ref st.heap.objs.size)) { st with heap := h', toks := tk }) :
    wpAny (model prog w) A (pyNext (.ref z)) Q E st := by
  have ty : st.TypeIs (.ref z) "zip" := ⟨_, out, rfl⟩
  unfold pyNext
  refine wpAny_bind (wpAny_attempt (wpAny_callSpecial?_slot (name := Str.ofString "__next__") ty F.slot_zip_next (wpAny_call_entry F.slot_zip_next ty F.entry_zip_next (out_next S D1 D2 out hT both at1 at2 l1 l2 ?_) (F.args_zip_next_1 _))))
  exact fun x y h' tk a b c d e g k => wpAny_pure (now x y h' tk a b c d e g k)
theorem out_pyNext_end (S : ZipSep2 z TI TO i1 i2 fp1 fp2) (D1 : Draws prog w A.in1 i1 fp1 n1 P1 S1) (D2 : Draws prog w A.in1 i2 fp2 n2 P2 S2) {Q : Option Value → Shared → Prop}
    (out : IsZipHeld st.heap z TI TO T f) (hT : st.heap.get? T = some oT) (both : IsTupOf2 st.heap TI (.ref i1) (.ref i2)) (at1 : S1 i st.heap) (at2 : S2 i st.heap) (l1 : i ≤ n1) (l2 : i ≤ n2) (last : i = n1 ∨ i = n2)
    (now : ∀ h' tk, (∀ c o, c ≠ z → c ≠ i1 → c ≠ i2 → st.heap.get? c = some o → h'.get? c = some o) → Q none { st with heap := h', toks := tk }) :
    wpAny (model prog w) A (pyNext (.ref z)) Q E st := by
  have ty : st.TypeIs (.ref z) "zip" := ⟨_, out, rfl⟩
  unfold pyNext
  refine wpAny_bind (wpAny_attempt (wpAny_callSpecial?_slot (name := Str.ofString "__next__") ty F.slot_zip_next (wpAny_call_entry F.slot_zip_next ty F.entry_zip_next (out_end S D1 D2 out hT both at1 at2 l1 l2 last ?_) (F.args_zip_next_1 _))))
  rintro h' tk e kp ⟨o, ho, hc⟩
  exact wpAny_bind (wpAny_isInstance (T := "StopIteration") (b := true) ⟨o, ho, hc⟩ isSubtype_stop (wpAny_pure (now _ _ kp)))
/-- the zip of the list l and the tuple t, begun -/
def ZipLT (h : Heap) (z TI TO i1 i2 l t : Addr) (xs ys : Array Value) (n : Nat) : Prop := IsTupOf2 h TI (.ref i1) (.ref i2) ∧ (h.IsListIter i1 l n ∧ h.IsList l xs) ∧ (h.IsTupleIter i2 t n ∧ h.IsTuple t ys)
theorem ZipLT.keep {h h' : Heap} {z TI TO i1 i2 l t : Addr} {xs ys : Array Value} {n : Nat} (q : ZipLT h z TI TO i1 i2 l t xs ys n) (k : ∀ b, b = TI ∨ b = i1 ∨ b = i2 ∨ b = l ∨ b = t → ∀ o, h.get? b = some o → h'.get? b = some o) : ZipLT h' z TI TO i1 i2 l t xs ys n :=
  ⟨k _ (.inl rfl) _ q.1, ⟨q.2.1.1.at fun o e => k _ (.inr (.inl rfl)) o e, q.2.1.2.at fun o e => k _ (.inr (.inr (.inr (.inl rfl)))) o e⟩, ⟨q.2.2.1.at fun o e => k _ (.inr (.inr (.inl rfl))) o e, q.2.2.2.at fun o e => k _ (.inr (.inr (.inr (.inr rfl)))) o e⟩⟩
theorem pairs_LT (z TI TO i1 i2 l t : Addr) (S : ZipSep2 z TI TO i1 i2 [i1, l] [i2, t]) (hl : l ≠ i1) (ht : t ≠ i2) (xs ys : Array Value) :
    PairArg prog w "zip" z [z, TI, TO, i1, i2, l, t] [z, TO, i1, i2] (min xs.size ys.size) (fun i k v => xs[i]? = some k ∧ ys[i]? = some v)
      (fun h => IsZip h z TI TO .none ∧ (∃ a b, IsTupOf2 h TO a b) ∧ ZipLT h z TI TO i1 i2 l t xs ys 0) where
  type := fun s ok => ⟨_, ok.1, rfl⟩
  notDict := by decide
  keep := fun h h' ok k => by
    obtain ⟨a1, ⟨a, b, a2⟩, a3⟩ := ok
    exact ⟨k _ _ a1, ⟨a, b, k _ _ a2⟩, a3.keep fun b _ o e => k b o e⟩
  there := fun h ok b hb => by
    obtain ⟨a1, ⟨a, c, a2⟩, a3, ⟨⟨o1, e1, _⟩, ⟨o2, e2, _⟩⟩, ⟨⟨o3, e3, _⟩, ⟨o4, e4, _⟩⟩⟩ := ok
    have either : b = z ∨ b = TI ∨ b = TO ∨ b = i1 ∨ b = i2 ∨ b = l ∨ b = t := by simpa using hb
    rcases either with q | q | q | q | q | q | q <;> subst q
    · exact ⟨_, a1⟩
    · exact ⟨_, a3⟩
    · exact ⟨_, a2⟩
    · exact ⟨_, e1⟩
    · exact ⟨_, e3⟩
    · exact ⟨_, e2⟩
    · exact ⟨_, e4⟩
  sub := fun b hb => by
    have either : b = z ∨ b = TO ∨ b = i1 ∨ b = i2 := by simpa using hb
    rcases either with q | q | q | q <;> subst q <;> simp
  noKeys := fun A s Q E hA ok now => getAttrOr_miss_zip ok.1 rfl rfl rfl zip_no_keys (by decide +kernel) hA now
  iter := fun A s d Q E hA ok dlt dfar now => by
    obtain ⟨a1, ⟨a, b, a2⟩, a3⟩ := ok
    have far : d ≠ z ∧ d ≠ TI ∧ d ≠ TO ∧ d ≠ i1 ∧ d ≠ i2 ∧ d ≠ l ∧ d ≠ t := by simpa using dfar
    obtain ⟨d1, d2, d3, d4, d5, d6, d7⟩ := far
    have D1 := Draws.list (prog := prog) (w := w) (A := A.in1) hA i1 l hl xs
    have D2 := Draws.tuple (prog := prog) (w := w) (A := A.in1) hA i2 t ht ys
    refine wpAny_pyIter_zip a1 (now z [z, TO, i1, i2] (fun n h => ZipLT h z TI TO i1 i2 l t xs ys n ∧ ((IsZip h z TI TO .none ∧ ∃ a b, IsTupOf2 h TO a b) ∨ ∃ T f oT, IsZipHeld h z TI TO T f ∧ h.get? T = some oT ∧ T ≠ z ∧ T ≠ i1 ∧ T ≠ i2 ∧ T ≠ d)) s.heap s.toks ?_ ⟨a3, .inl ⟨a1, a, b, a2⟩⟩ (fun _ _ e => e) fun b hb => .inl hb)
    refine ⟨fun hm => ?_, fun n h h' q k => ?_, fun n s1 Q1 E1 hn q dl now1 => ?_, fun s1 Q1 E1 q now1 => ?_⟩
    · have either : d = z ∨ d = TO ∨ d = i1 ∨ d = i2 := by simpa using hm
      rcases either with q | q | q | q
      · exact d1 q
      · exact d3 q
      · exact d4 q
      · exact d5 q
    · refine ⟨q.1.keep fun b hb o e => k b o (fun y => ?_) e, ?_⟩
      · rcases hb with q | q | q | q | q <;> rw [q] at y
        · exact d2 y.symm
        · exact d4 y.symm
        · exact d5 y.symm
        · exact d6 y.symm
        · exact d7 y.symm
      · rcases q.2 with ⟨q1, a, b, q2⟩ | ⟨T, f, oT, q1, q2, r1, r2, r3, r4⟩
        · exact .inl ⟨k _ _ (Ne.symm d1) q1, a, b, k _ _ (Ne.symm d3) q2⟩
        · exact .inr ⟨T, f, oT, k _ _ (Ne.symm d1) q1, k _ _ r4 q2, r1, r2, r3, r4⟩
    · obtain ⟨⟨both, at1, at2⟩, q⟩ := q
      have m1 : n < xs.size := Nat.lt_of_lt_of_le hn (Nat.min_le_left ..)
      have m2 : n < ys.size := Nat.lt_of_lt_of_le hn (Nat.min_le_right ..)
      have lt : ∀ {c o}, s1.heap.get? c = some o → s1.heap.objs.size ≠ c := fun e => Nat.ne_of_gt (Heap.lt_size e)
      have j1 : s1.heap.objs.size ≠ i1 := let ⟨_, e⟩ := D1.live _ _ at1; lt e
      have j2 : s1.heap.objs.size ≠ i2 := let ⟨_, e⟩ := D2.live _ _ at2; lt e
      rcases q with ⟨q1, a, b, q2⟩ | ⟨T, f, oT, q1, q2, r1, r2, r3, r4⟩
      · refine wpAny_pyNext_zipD2_item S D1 D2 q1 both q2 at1 at2 m1 m2 fun x y h' tk px py b1 b2 b3 b4 b5 b6 k => ?_
        exact now1 s1.heap.objs.size x y h' tk ⟨px, py⟩ (.inl ⟨_, b5, rfl, _, rfl⟩) ⟨⟨k _ _ S.TIz S.TITO S.TIi1 S.TIi2 both, b3, b4⟩, .inr ⟨_, false, _, b1, b5, lt q1, j1, j2, Nat.ne_of_gt dl⟩⟩
          fun c o hc e => k c o (fun y => hc (by simp [y])) (fun y => hc (by simp [y])) (fun y => hc (by simp [y])) (fun y => hc (by simp [y])) e
      · refine out_pyNext S D1 D2 q1 q2 both at1 at2 m1 m2 fun x y h' tk px py b1 b3 b4 b5 k => ?_
        exact now1 s1.heap.objs.size x y h' tk ⟨px, py⟩ (.inl ⟨_, b5, rfl, _, rfl⟩) ⟨⟨k _ _ S.TIz S.TIi1 S.TIi2 both, b3, b4⟩, .inr ⟨T, true, oT, b1, k _ _ r1 r2 r3 q2, r1, r2, r3, r4⟩⟩
          fun c o hc e => k c o (fun y => hc (by simp [y])) (fun y => hc (by simp [y])) (fun y => hc (by simp [y])) e
    · obtain ⟨⟨both, at1, at2⟩, q⟩ := q
      rcases q with ⟨q1, a, b, q2⟩ | ⟨T, f, oT, q1, q2, r1, r2, r3, r4⟩
      · exact wpAny_pyNext_zipD2_end S D1 D2 q1 both q2 at1 at2 (Nat.min_le_left ..) (Nat.min_le_right ..) (by omega) fun h' tk k => now1 h' tk fun c o hc e => k c o (fun y => hc (by simp [y])) (fun y => hc (by simp [y])) (fun y => hc (by simp [y])) (fun y => hc (by simp [y])) e
      · exact out_pyNext_end S D1 D2 q1 q2 both at1 at2 (Nat.min_le_left ..) (Nat.min_le_right ..) (by omega) fun h' tk k => now1 h' tk fun c o hc e => k c o (fun y => hc (by simp [y])) (fun y => hc (by simp [y])) (fun y => hc (by simp [y])) e
end
/-- dict(zip(e1, e2)): keys from a list, values from a tuple -/
def eDictZip (K : PySem.W.Frag) (ta : TA) : TE := fun σ H Q => ta σ H fun vs H1 => ∃ (a b : Addr) (ks : List Key) (xs : List V), vs = [.ref a, .ref b] ∧ SqL K H1 a (ks.map kV) ∧ SqT K H1 b xs ∧ ∀ p, H1 p = none → Q (.ref p) (upd H1 p (.dK (mergeK [] (ks.zip xs))))
theorem pe_dictZip (K : PySem.W.Frag) {X : Cx} (hk : X.K = K) (hcalm : X.calm = true) {e e2 : Expr} {ta : TA} {p p2 pos pos2 : Pos} (hd : Gl X "dict") (md : X.mg "dict" = none) (hg : Gl X "zip") (hm : X.mg "zip" = none) (ha : PA X [e, e2] ta)
    (hs : starEach [e, e2] X.env = (false, eval e X.env) :: starEach [e2] X.env := by rfl) (hpl : (backTo pos2 (starEach [e2] X.env)).any (·.1) = false := by rfl)
    (hs1 : starEach [.Call (.Name "zip" p2) [e, e2] [] pos2] X.env = [(false, eval (.Call (.Name "zip" p2) [e, e2] [] pos2) X.env)] := by rfl) :
    PE X (.Call (.Name "dict" p) [.Call (.Name "zip" p2) [e, e2] [] pos2] [] pos) (eDictZip K ta) := by
  subst hk
  refine ⟨fun pins st σ H Q J asked => ?_⟩
  refine Call_ (ld_blt J hd md boot_dict (PyProof.Rows.callWith_type1 (args_cons (Call_ (ld_blt J hg hm boot_zip (PyProof.Rows.callWith_type1 (thn (ha.run pos2 pins st σ H _ J asked) fun us st1 ⟨vs, H1, J1, rel, now⟩ => ?_) hs hpl))) hs1) hs1 rfl))
  obtain ⟨a, b, ks, xs, ex, hq1, hq2, now⟩ := now
  subst ex
  cases rel with
  | cons r1 rel =>
  cases rel with
  | cons r2 rel =>
  cases rel
  cases r1
  cases r2
  obtain ⟨its, rv, p1, z1⟩ := J1.list hq1
  obtain ⟨its2, rv2, p2, z2⟩ := J1.tuple hq2
  have al : a < st1.heap.objs.size := p1.lt
  have bl : b < st1.heap.objs.size := by obtain ⟨o, ho, _⟩ := p2; exact Heap.lt_size ho
  have B1 := begins_list a its.toArray
  have B2 := begins_tuple b its2.toArray
  refine zip_begins2 B1 B2 p1.isList p2 fun h' c1 c2 c3 c4 c5 size kp => args_nil ?_
  have S := zip_sep2 (N := st1.heap.objs.size) (fp1 := [a]) (fp2 := [b]) (by simpa using al) (by simpa using bl)
  have P := pairs_LT (prog := X.prog) (w := X.w) _ _ _ _ _ a b S (Nat.ne_of_lt al) (Nat.ne_of_lt (Nat.lt_succ_of_lt bl)) its.toArray its2.toArray
  have n1 := rv.length
  have n2 := rv2.length
  rw [List.length_map] at n1 z1
  have all : ∀ (ks : List Key) (xs : List V) (us vs : List Value), Vals (ks.map kV) us → Vals xs vs → ∃ rs : List (Key × Value), KV (ks.zip xs) rs ∧ rs.length = min us.length vs.length ∧ ∀ (i : Nat) (k v : Value), us[i]? = some k → vs[i]? = some v → ∃ q, rs[i]? = some (q, v) ∧ (mixKind X.prog X.w).is q k = true := by
    intro ks
    induction ks with
    | nil => intro xs us vs r1 r2; cases r1; exact ⟨[], .nil, by simp, fun i k v e => nomatch e⟩
    | cons k ks ih =>
      intro xs us vs r1 r2
      cases r1 with
      | cons h1 t1 =>
      cases r2 with
      | nil => exact ⟨[], .nil, by simp, fun i k v _ e => nomatch e⟩
      | cons h2 t2 =>
        obtain ⟨rs, e1, e2, e3⟩ := ih _ _ _ t1 t2
        refine ⟨(k, _) :: rs, .cons ⟨rfl, h2⟩ e1, by simp only [List.length_cons, e2]; omega, fun i q v e f => ?_⟩
        cases i with
        | zero => cases e; cases f; exact ⟨k, rfl, kV_is h1⟩
        | succ i => exact e3 i q v e f
  obtain ⟨rs, e1, e2, e3⟩ := all ks xs its its2 rv rv2
  have PH : PairsHave (mixKind X.prog X.w) (min its.toArray.size its2.toArray.size) (fun i k v => its.toArray[i]? = some k ∧ its2.toArray[i]? = some v) rs :=
    ⟨by simpa using e2, fun i k v q => e3 i k v (by simpa using q.1) (by simpa using q.2)⟩
  refine _root_.PySem.call_dict_pairs (s := { st1 with heap := h' }) P (J1.ok.hd hcalm) ⟨c1, ⟨_, _, c3⟩, c2, ⟨⟨_, c4, rfl, rfl⟩, B1.keeps _ _ p1.isList kp⟩, ⟨⟨_, c5, rfl, rfl⟩, B2.keeps _ _ p2 kp⟩⟩ PH (by have := n1; have := n2; simp only [List.size_toArray]; omega) fun h2 tk isd kp2 => ?_
  replace isd : h2.DictOf (mixKind X.prog X.w) h'.objs.size (merged [] rs) := isd
  have low : st1.heap.objs.size ≤ h'.objs.size := by rw [size]; exact Nat.le_add_right _ _
  have big : sysModules < h'.objs.size := Nat.lt_of_lt_of_le J1.big low
  have ne : (h'.objs.size == sysModules) = false := beq_eq_false_iff_ne.mpr (Nat.ne_of_gt big)
  have few : (mergeK [] (ks.zip xs)).length ≤ sizeLine := by
    refine Nat.le_trans (length_mergeK _ []) ?_
    rw [List.length_nil, Nat.zero_add, List.length_zip]
    omega
  refine ⟨.ref h'.objs.size, upd H1 h'.objs.size (.dK (mergeK [] (ks.zip xs))), J1.laid (t' := tk) (fun c o q => kp2 c o (fun hm => ?_) (kp c o q)) low (show ObjOk X.prog X.w _ _ _ (.dK (mergeK [] (ks.zip xs))) from ⟨few, ne, merged [] rs, KV.merge e1 .nil, isd⟩), rfl, now _ (J1.hok.fresh low)⟩
  have cl := Heap.lt_size q
  have either : c = st1.heap.objs.size + 4 ∨ c = st1.heap.objs.size + 3 ∨ c = st1.heap.objs.size ∨ c = st1.heap.objs.size + 1 := by simpa using hm
  rcases either with y | y | y | y <;> rw [y] at cl
  · exact absurd cl (Nat.not_lt.mpr (Nat.le_add_right _ _))
  · exact absurd cl (Nat.not_lt.mpr (Nat.le_add_right _ _))
  · exact absurd cl (Nat.lt_irrefl _)
  · exact absurd cl (Nat.not_lt.mpr (Nat.le_add_right _ _))
/-! ### dict(zip(xs, ys)), xs and ys tuples -/
section
open Sem (wp)
variable {prog : Program} {w : World}
/-- the zip of the list l and the tuple t, begun (tuples) -/
def ZipTT (h : Heap) (z TI TO i1 i2 l t : Addr) (xs ys : Array Value) (n : Nat) : Prop := IsTupOf2 h TI (.ref i1) (.ref i2) ∧ (h.IsTupleIter i1 l n ∧ h.IsTuple l xs) ∧ (h.IsTupleIter i2 t n ∧ h.IsTuple t ys)
theorem ZipTT.keep {h h' : Heap} {z TI TO i1 i2 l t : Addr} {xs ys : Array Value} {n : Nat} (q : ZipTT h z TI TO i1 i2 l t xs ys n) (k : ∀ b, b = TI ∨ b = i1 ∨ b = i2 ∨ b = l ∨ b = t → ∀ o, h.get? b = some o → h'.get? b = some o) : ZipTT h' z TI TO i1 i2 l t xs ys n :=
  ⟨k _ (.inl rfl) _ q.1, ⟨q.2.1.1.at fun o e => k _ (.inr (.inl rfl)) o e, q.2.1.2.at fun o e => k _ (.inr (.inr (.inr (.inl rfl)))) o e⟩, ⟨q.2.2.1.at fun o e => k _ (.inr (.inr (.inl rfl))) o e, q.2.2.2.at fun o e => k _ (.inr (.inr (.inr (.inr rfl)))) o e⟩⟩
theorem pairs_TT (z TI TO i1 i2 l t : Addr) (S : ZipSep2 z TI TO i1 i2 [i1, l] [i2, t]) (hl : l ≠ i1) (ht : t ≠ i2) (xs ys : Array Value) :
    PairArg prog w "zip" z [z, TI, TO, i1, i2, l, t] [z, TO, i1, i2] (min xs.size ys.size) (fun i k v => xs[i]? = some k ∧ ys[i]? = some v)
      (fun h => IsZip h z TI TO .none ∧ (∃ a b, IsTupOf2 h TO a b) ∧ ZipTT h z TI TO i1 i2 l t xs ys 0) where
  type := fun s ok => ⟨_, ok.1, rfl⟩
  notDict := by decide
  keep := fun h h' ok k => by
    obtain ⟨a1, ⟨a, b, a2⟩, a3⟩ := ok
    exact ⟨k _ _ a1, ⟨a, b, k _ _ a2⟩, a3.keep fun b _ o e => k b o e⟩
  there := fun h ok b hb => by
    obtain ⟨a1, ⟨a, c, a2⟩, a3, ⟨⟨o1, e1, _⟩, ⟨o2, e2, _⟩⟩, ⟨⟨o3, e3, _⟩, ⟨o4, e4, _⟩⟩⟩ := ok
    have either : b = z ∨ b = TI ∨ b = TO ∨ b = i1 ∨ b = i2 ∨ b = l ∨ b = t := by simpa using hb
    rcases either with q | q | q | q | q | q | q <;> subst q
    · exact ⟨_, a1⟩
    · exact ⟨_, a3⟩
    · exact ⟨_, a2⟩
    · exact ⟨_, e1⟩
    · exact ⟨_, e3⟩
    · exact ⟨_, e2⟩
    · exact ⟨_, e4⟩
  sub := fun b hb => by
    have either : b = z ∨ b = TO ∨ b = i1 ∨ b = i2 := by simpa using hb
    rcases either with q | q | q | q <;> subst q <;> simp
  noKeys := fun A s Q E hA ok now => getAttrOr_miss_zip ok.1 rfl rfl rfl zip_no_keys (by decide +kernel) hA now
  iter := fun A s d Q E hA ok dlt dfar now => by
    obtain ⟨a1, ⟨a, b, a2⟩, a3⟩ := ok
    have far : d ≠ z ∧ d ≠ TI ∧ d ≠ TO ∧ d ≠ i1 ∧ d ≠ i2 ∧ d ≠ l ∧ d ≠ t := by simpa using dfar
    obtain ⟨d1, d2, d3, d4, d5, d6, d7⟩ := far
    have D1 := Draws.tuple (prog := prog) (w := w) (A := A.in1) hA i1 l hl xs
    have D2 := Draws.tuple (prog := prog) (w := w) (A := A.in1) hA i2 t ht ys
    refine wpAny_pyIter_zip a1 (now z [z, TO, i1, i2] (fun n h => ZipTT h z TI TO i1 i2 l t xs ys n ∧ ((IsZip h z TI TO .none ∧ ∃ a b, IsTupOf2 h TO a b) ∨ ∃ T f oT, IsZipHeld h z TI TO T f ∧ h.get? T = some oT ∧ T ≠ z ∧ T ≠ i1 ∧ T ≠ i2 ∧ T ≠ d)) s.heap s.toks ?_ ⟨a3, .inl ⟨a1, a, b, a2⟩⟩ (fun _ _ e => e) fun b hb => .inl hb)
    refine ⟨fun hm => ?_, fun n h h' q k => ?_, fun n s1 Q1 E1 hn q dl now1 => ?_, fun s1 Q1 E1 q now1 => ?_⟩
    · have either : d = z ∨ d = TO ∨ d = i1 ∨ d = i2 := by simpa using hm
      rcases either with q | q | q | q
      · exact d1 q
      · exact d3 q
      · exact d4 q
      · exact d5 q
    · refine ⟨q.1.keep fun b hb o e => k b o (fun y => ?_) e, ?_⟩
      · rcases hb with q | q | q | q | q <;> rw [q] at y
        · exact d2 y.symm
        · exact d4 y.symm
        · exact d5 y.symm
        · exact d6 y.symm
        · exact d7 y.symm
      · rcases q.2 with ⟨q1, a, b, q2⟩ | ⟨T, f, oT, q1, q2, r1, r2, r3, r4⟩
        · exact .inl ⟨k _ _ (Ne.symm d1) q1, a, b, k _ _ (Ne.symm d3) q2⟩
        · exact .inr ⟨T, f, oT, k _ _ (Ne.symm d1) q1, k _ _ r4 q2, r1, r2, r3, r4⟩
    · obtain ⟨⟨both, at1, at2⟩, q⟩ := q
      have m1 : n < xs.size := Nat.lt_of_lt_of_le hn (Nat.min_le_left ..)
      have m2 : n < ys.size := Nat.lt_of_lt_of_le hn (Nat.min_le_right ..)
      have lt : ∀ {c o}, s1.heap.get? c = some o → s1.heap.objs.size ≠ c := fun e => Nat.ne_of_gt (Heap.lt_size e)
      have j1 : s1.heap.objs.size ≠ i1 := let ⟨_, e⟩ := D1.live _ _ at1; lt e
      have j2 : s1.heap.objs.size ≠ i2 := let ⟨_, e⟩ := D2.live _ _ at2; lt e
      rcases q with ⟨q1, a, b, q2⟩ | ⟨T, f, oT, q1, q2, r1, r2, r3, r4⟩
      · refine wpAny_pyNext_zipD2_item S D1 D2 q1 both q2 at1 at2 m1 m2 fun x y h' tk px py b1 b2 b3 b4 b5 b6 k => ?_
        exact now1 s1.heap.objs.size x y h' tk ⟨px, py⟩ (.inl ⟨_, b5, rfl, _, rfl⟩) ⟨⟨k _ _ S.TIz S.TITO S.TIi1 S.TIi2 both, b3, b4⟩, .inr ⟨_, false, _, b1, b5, lt q1, j1, j2, Nat.ne_of_gt dl⟩⟩
          fun c o hc e => k c o (fun y => hc (by simp [y])) (fun y => hc (by simp [y])) (fun y => hc (by simp [y])) (fun y => hc (by simp [y])) e
      · refine out_pyNext S D1 D2 q1 q2 both at1 at2 m1 m2 fun x y h' tk px py b1 b3 b4 b5 k => ?_
        exact now1 s1.heap.objs.size x y h' tk ⟨px, py⟩ (.inl ⟨_, b5, rfl, _, rfl⟩) ⟨⟨k _ _ S.TIz S.TIi1 S.TIi2 both, b3, b4⟩, .inr ⟨T, true, oT, b1, k _ _ r1 r2 r3 q2, r1, r2, r3, r4⟩⟩
          fun c o hc e => k c o (fun y => hc (by simp [y])) (fun y => hc (by simp [y])) (fun y => hc (by simp [y])) e
    · obtain ⟨⟨both, at1, at2⟩, q⟩ := q
      rcases q with ⟨q1, a, b, q2⟩ | ⟨T, f, oT, q1, q2, r1, r2, r3, r4⟩
      · exact wpAny_pyNext_zipD2_end S D1 D2 q1 both q2 at1 at2 (Nat.min_le_left ..) (Nat.min_le_right ..) (by omega) fun h' tk k => now1 h' tk fun c o hc e => k c o (fun y => hc (by simp [y])) (fun y => hc (by simp [y])) (fun y => hc (by simp [y])) (fun y => hc (by simp [y])) e
      · exact out_pyNext_end S D1 D2 q1 q2 both at1 at2 (Nat.min_le_left ..) (Nat.min_le_right ..) (by omega) fun h' tk k => now1 h' tk fun c o hc e => k c o (fun y => hc (by simp [y])) (fun y => hc (by simp [y])) (fun y => hc (by simp [y])) e
end
/-- dict(zip(e1, e2)): from tuples -/
def eDictZipTT (K : PySem.W.Frag) (ta : TA) : TE := fun σ H Q => ta σ H fun vs H1 => ∃ (a b : Addr) (ks : List Key) (xs : List V), vs = [.ref a, .ref b] ∧ SqT K H1 a (ks.map kV) ∧ SqT K H1 b xs ∧ ∀ p, H1 p = none → Q (.ref p) (upd H1 p (.dK (mergeK [] (ks.zip xs))))
theorem pe_dictZipTT (K : PySem.W.Frag) {X : Cx} (hk : X.K = K) (hcalm : X.calm = true) {e e2 : Expr} {ta : TA} {p p2 pos pos2 : Pos} (hd : Gl X "dict") (md : X.mg "dict" = none) (hg : Gl X "zip") (hm : X.mg "zip" = none) (ha : PA X [e, e2] ta)
    (hs : starEach [e, e2] X.env = (false, eval e X.env) :: starEach [e2] X.env := by rfl) (hpl : (backTo pos2 (starEach [e2] X.env)).any (·.1) = false := by rfl)
    (hs1 : starEach [.Call (.Name "zip" p2) [e, e2] [] pos2] X.env = [(false, eval (.Call (.Name "zip" p2) [e, e2] [] pos2) X.env)] := by rfl) :
    PE X (.Call (.Name "dict" p) [.Call (.Name "zip" p2) [e, e2] [] pos2] [] pos) (eDictZipTT K ta) := by
  subst hk
  refine ⟨fun pins st σ H Q J asked => ?_⟩
  refine Call_ (ld_blt J hd md boot_dict (PyProof.Rows.callWith_type1 (args_cons (Call_ (ld_blt J hg hm boot_zip (PyProof.Rows.callWith_type1 (thn (ha.run pos2 pins st σ H _ J asked) fun us st1 ⟨vs, H1, J1, rel, now⟩ => ?_) hs hpl))) hs1) hs1 rfl))
  obtain ⟨a, b, ks, xs, ex, hq1, hq2, now⟩ := now
  subst ex
  cases rel with
  | cons r1 rel =>
  cases rel with
  | cons r2 rel =>
  cases rel
  cases r1
  cases r2
  obtain ⟨its, rv, p1, z1⟩ := J1.tuple hq1
  obtain ⟨its2, rv2, p2, z2⟩ := J1.tuple hq2
  have al : a < st1.heap.objs.size := by obtain ⟨o, ho, _⟩ := p1; exact Heap.lt_size ho
  have bl : b < st1.heap.objs.size := by obtain ⟨o, ho, _⟩ := p2; exact Heap.lt_size ho
  have B1 := begins_tuple a its.toArray
  have B2 := begins_tuple b its2.toArray
  refine zip_begins2 B1 B2 p1 p2 fun h' c1 c2 c3 c4 c5 size kp => args_nil ?_
  have S := zip_sep2 (N := st1.heap.objs.size) (fp1 := [a]) (fp2 := [b]) (by simpa using al) (by simpa using bl)
  have P := pairs_TT (prog := X.prog) (w := X.w) _ _ _ _ _ a b S (Nat.ne_of_lt al) (Nat.ne_of_lt (Nat.lt_succ_of_lt bl)) its.toArray its2.toArray
  have n1 := rv.length
  have n2 := rv2.length
  rw [List.length_map] at n1 z1
  have all : ∀ (ks : List Key) (xs : List V) (us vs : List Value), Vals (ks.map kV) us → Vals xs vs → ∃ rs : List (Key × Value), KV (ks.zip xs) rs ∧ rs.length = min us.length vs.length ∧ ∀ (i : Nat) (k v : Value), us[i]? = some k → vs[i]? = some v → ∃ q, rs[i]? = some (q, v) ∧ (mixKind X.prog X.w).is q k = true := by
    intro ks
    induction ks with
    | nil => intro xs us vs r1 r2; cases r1; exact ⟨[], .nil, by simp, fun i k v e => nomatch e⟩
    | cons k ks ih =>
      intro xs us vs r1 r2
      cases r1 with
      | cons h1 t1 =>
      cases r2 with
      | nil => exact ⟨[], .nil, by simp, fun i k v _ e => nomatch e⟩
      | cons h2 t2 =>
        obtain ⟨rs, e1, e2, e3⟩ := ih _ _ _ t1 t2
        refine ⟨(k, _) :: rs, .cons ⟨rfl, h2⟩ e1, by simp only [List.length_cons, e2]; omega, fun i q v e f => ?_⟩
        cases i with
        | zero => cases e; cases f; exact ⟨k, rfl, kV_is h1⟩
        | succ i => exact e3 i q v e f
  obtain ⟨rs, e1, e2, e3⟩ := all ks xs its its2 rv rv2
  have PH : PairsHave (mixKind X.prog X.w) (min its.toArray.size its2.toArray.size) (fun i k v => its.toArray[i]? = some k ∧ its2.toArray[i]? = some v) rs :=
    ⟨by simpa using e2, fun i k v q => e3 i k v (by simpa using q.1) (by simpa using q.2)⟩
  refine _root_.PySem.call_dict_pairs (s := { st1 with heap := h' }) P (J1.ok.hd hcalm) ⟨c1, ⟨_, _, c3⟩, c2, ⟨⟨_, c4, rfl, rfl⟩, B1.keeps _ _ p1 kp⟩, ⟨⟨_, c5, rfl, rfl⟩, B2.keeps _ _ p2 kp⟩⟩ PH (by have := n1; have := n2; simp only [List.size_toArray]; omega) fun h2 tk isd kp2 => ?_
  replace isd : h2.DictOf (mixKind X.prog X.w) h'.objs.size (merged [] rs) := isd
  have low : st1.heap.objs.size ≤ h'.objs.size := by rw [size]; exact Nat.le_add_right _ _
  have big : sysModules < h'.objs.size := Nat.lt_of_lt_of_le J1.big low
  have ne : (h'.objs.size == sysModules) = false := beq_eq_false_iff_ne.mpr (Nat.ne_of_gt big)
  have few : (mergeK [] (ks.zip xs)).length ≤ sizeLine := by
    refine Nat.le_trans (length_mergeK _ []) ?_
    rw [List.length_nil, Nat.zero_add, List.length_zip]
    omega
  refine ⟨.ref h'.objs.size, upd H1 h'.objs.size (.dK (mergeK [] (ks.zip xs))), J1.laid (t' := tk) (fun c o q => kp2 c o (fun hm => ?_) (kp c o q)) low (show ObjOk X.prog X.w _ _ _ (.dK (mergeK [] (ks.zip xs))) from ⟨few, ne, merged [] rs, KV.merge e1 .nil, isd⟩), rfl, now _ (J1.hok.fresh low)⟩
  have cl := Heap.lt_size q
  have either : c = st1.heap.objs.size + 4 ∨ c = st1.heap.objs.size + 3 ∨ c = st1.heap.objs.size ∨ c = st1.heap.objs.size + 1 := by simpa using hm
  rcases either with y | y | y | y <;> rw [y] at cl
  · exact absurd cl (Nat.not_lt.mpr (Nat.le_add_right _ _))
  · exact absurd cl (Nat.not_lt.mpr (Nat.le_add_right _ _))
  · exact absurd cl (Nat.lt_irrefl _)
  · exact absurd cl (Nat.not_lt.mpr (Nat.le_add_right _ _))
theorem one_at {K : PySem.W.Frag} {a : Addr} {od : Option Addr} {z : Str} {t1 : Tok} {n : Nat} {sl : Array (Option Value)} (l : K.lookup a = some ⟨.type "tuple", od, .seq #[.str z t1] n, sl⟩) (H : Hp) : SqT K H a [.str z] :=
  .inr ⟨_, _, _, l, rfl, rfl, (show 1 ≤ sizeLine by decide), .cons ⟨_, rfl⟩ .nil⟩
/-! ### dicts whose keys are tuples of tuples -/
mutual
/-- a value that is such a key -/
inductive NkV (H : Hp) : NestedKey → V → Prop
  | num (i : Int) : NkV H (.num i) (.int i)
  | text (x : Str) : NkV H (.text x) (.str x)
  | tup {a : Addr} {xs : List V} {ks : List NestedKey} : H a = some (.tup xs) → NkL H ks xs → NkV H (.tup ks) (.ref a)
inductive NkL (H : Hp) : List NestedKey → List V → Prop
  | nil : NkL H [] []
  | cons {k : NestedKey} {x : V} {ks : List NestedKey} {xs : List V} : NkV H k x → NkL H ks xs → NkL H (k :: ks) (x :: xs)
end
section
variable {P : Program} {w : World} {H H' : Hp} {h : Heap}
mutual
theorem NkV.keep (kp : TK H H') : ∀ {k : NestedKey} {x : V}, NkV H k x → NkV H' k x
  | _, _, .num i => .num i
  | _, _, .text x => .text x
  | _, _, .tup e l => .tup (kp _ _ e) (NkL.keep kp l)
theorem NkL.keep (kp : TK H H') : ∀ {ks : List NestedKey} {xs : List V}, NkL H ks xs → NkL H' ks xs
  | _, _, .nil => .nil
  | _, _, .cons a b => .cons (NkV.keep kp a) (NkL.keep kp b)
end
mutual
theorem NkV.is (ok : HOk P w H h) : ∀ {k : NestedKey} {x : V} {u : Value}, NkV H k x → RelV x u → NestedIs h k u
  | _, _, u, .num i, r => by
    obtain ⟨t, rfl⟩ := (show ∃ t, u = Value.int i t from r)
    exact .int i t
  | _, _, u, .text x, r => by
    obtain ⟨t, rfl⟩ := (show ∃ t, u = Value.str x t from r)
    exact .text x t
  | _, _, u, @NkV.tup _ a xs ks e l, r => by
    obtain rfl : u = Value.ref a := r
    obtain ⟨_, its, rv, o, e1, e2, n, e3⟩ := (show ObjOk P w H h a (.tup xs) from ok a _ e)
    exact .tup e1 e2 e3 (by simpa using NkL.is ok l rv)
theorem NkL.is (ok : HOk P w H h) : ∀ {ks : List NestedKey} {xs : List V} {us : List Value}, NkL H ks xs → Vals xs us → NestedAll h ks us
  | _, _, _, .nil, .nil => .nil
  | _, _, _, .cons a b, .cons r t => .cons (NkV.is ok a r) (NkL.is ok b t)
end
/-- what stands in the heap for a dict with the entries kas: key, the key's address, number -/
def nkRow (k : NestedKey × Addr × Int) (x : NestedKey × Addr × Value) : Prop := x.1 = k.1 ∧ x.2.1 = k.2.1 ∧ ∃ t, x.2.2 = .int k.2.2 t
def nkObj (P : Program) (w : World) (d : Addr) (kas : List (NestedKey × Addr × Int)) (h : Heap) : Prop :=
  (d == sysModules) = false ∧ kas.length ≤ sizeLine ∧ ∃ xs : List (NestedKey × Addr × Value), All2 nkRow kas xs ∧ ∃ o es ep, h.get? d = some o ∧ o.ExactDict ∧ o.data = .dict es ep ∧ es.toList = xs.map (entryOfKey (nestedKind P w)) ∧ (xs.map (·.1)).Nodup
def nkO (P : Program) (w : World) (d : Addr) (kas : List (NestedKey × Addr × Int)) : HO := .ext (nkObj P w d kas)
structure NkD (P : Program) (w : World) (H : Hp) (d : Addr) (kas : List (NestedKey × Addr × Int)) : Prop where
  at_ : H d = some (nkO P w d kas)
  key : ∀ q ∈ kas, NkV H q.1 (.ref q.2.1) ∧ q.1.depth ≤ 8
theorem nkO_tup {d : Addr} {kas : List (NestedKey × Addr × Int)} {xs : List V} : nkO P w d kas ≠ .tup xs := fun z => by
  have z' : HO.ext _ = HO.tup xs := z
  cases z'
theorem nkObj_ok {d : Addr} {kas : List (NestedKey × Addr × Int)} (q : nkObj P w d kas h) : ObjOk P w H h d (nkO P w d kas) := by
  have q0 := q
  obtain ⟨_, _, xs, _, o, es, ep, e, _⟩ := q0
  refine ⟨q, ⟨o, e⟩, fun h1 h2 q1 k => ?_⟩
  obtain ⟨a1, a2, xs, al, o, es, ep, e, r⟩ := q1
  exact ⟨a1, a2, xs, al, o, es, ep, k _ e, r⟩
theorem nk_names : ∀ {kas : List (NestedKey × Addr × Int)} {xs : List (NestedKey × Addr × Value)}, All2 nkRow kas xs → xs.map (·.1) = kas.map (·.1)
  | _, _, .nil => rfl
  | _, _, .cons r t => by rw [List.map_cons, List.map_cons, r.1, nk_names t]
/-- the number at a key -/
def nkAt (kas : List (NestedKey × Addr × Int)) (k : NestedKey) : Option Int := (kas.find? fun q => decide (q.1 = k)).map fun q => q.2.2
theorem nk_at {k : NestedKey} : ∀ {kas : List (NestedKey × Addr × Int)} {xs : List (NestedKey × Addr × Value)}, All2 nkRow kas xs → (nkAt kas k = none ∧ atKey xs k = none) ∨ ∃ n a t, nkAt kas k = some n ∧ atKey xs k = some (a, .int n t)
  | _, _, .nil => .inl ⟨rfl, rfl⟩
  | _, _, @All2.cons _ _ _ c x cs xs r t => by
    unfold nkAt atKey
    rw [List.find?_cons, List.find?_cons, r.1]
    by_cases e : c.1 = k
    · rw [decide_eq_true e]
      obtain ⟨tt, ht⟩ := r.2.2
      refine .inr ⟨c.2.2, x.2.1, tt, rfl, ?_⟩
      show some x.2 = _
      rw [← ht]
    · rw [decide_eq_false e]
      exact nk_at t
theorem NkD.get {d : Addr} {kas : List (NestedKey × Addr × Int)} (D : NkD P w H d kas) (ok : HOk P w H h) : (d == sysModules) = false ∧ kas.length ≤ sizeLine ∧ ∃ xs, All2 nkRow kas xs ∧ h.DictOfH (nestedKind P w) d xs := by
  obtain ⟨⟨a1, a2, xs, al, o, es, ep, e1, e2, e3, e4, e5⟩, _⟩ := (show ObjOk P w H h d (nkO P w d kas) from ok d _ D.at_)
  refine ⟨a1, a2, xs, al, o, es, ep, e1, e2, e3, e4, fun x hx => ?_, e5⟩
  have : ∀ {kas : List (NestedKey × Addr × Int)} {xs : List (NestedKey × Addr × Value)}, All2 nkRow kas xs → ∀ x ∈ xs, ∃ q ∈ kas, x.1 = q.1 ∧ x.2.1 = q.2.1 := by
    intro kas xs al
    induction al with
    | nil => intro x hx; cases hx
    | cons r t ih =>
      intro x hx
      rcases List.mem_cons.mp hx with rfl | hx
      · exact ⟨_, List.mem_cons_self .., r.1, r.2.1⟩
      · obtain ⟨q, hq, z⟩ := ih x hx
        exact ⟨q, List.mem_cons_of_mem _ hq, z⟩
  obtain ⟨q, hq, z1, z2⟩ := this al x hx
  obtain ⟨k1, k2⟩ := D.key q hq
  rw [z1, z2]
  exact ⟨NkV.is ok k1 rfl, k2⟩
theorem NkD.go {d : Addr} {kas : List (NestedKey × Addr × Int)} (D : NkD P w H d kas) (e : H' d = H d) (kp : TK H H') : NkD P w H' d kas := ⟨e.trans D.at_, fun q hq => ⟨(D.key q hq).1.keep kp, (D.key q hq).2⟩⟩
theorem NkD.same {d : Addr} {kas : List (NestedKey × Addr × Int)} (D : NkD P w H d kas) (s : Same H H') : NkD P w H' d kas := D.go ((s _ _ D.at_).trans D.at_.symm) (TK.same s)
end
section
variable {X : Cx} {o i e : Expr} {pos pos' : Pos} {td ty tv : TE}
theorem nk_room {X : Cx} (hu : X.A.units + 65 < cLine) : (nestedKind X.prog X.w).room X.A.in1 := by
  show X.A.in1.units + 8 < cLine
  show X.A.units + 1 + 8 < cLine
  omega
/-- {}, for such keys -/
def tNkNew (P : Program) (w : World) : TE := fun _ H Q => ∀ p, H p = none → NkD P w (upd H p (nkO P w p [])) p [] → Q (.ref p) (upd H p (nkO P w p []))
theorem pe_nknew (P : Program) (w : World) (h1 : X.prog = P) (h2 : X.w = w) : PE X (.Dict [] [] pos) (tNkNew P w) := by
  subst h1 h2
  refine ⟨fun pins s σ H Q I h => ?_⟩
  have hb := I.big
  have ob : nkObj X.prog X.w s.heap.objs.size [] (s.heap.push { cls := .type "dict", data := .dict #[] }) := ⟨beq_eq_false_iff_ne.mpr (Ne.symm (Nat.ne_of_lt hb)), Nat.zero_le _, [], .nil, _, #[], 0, Heap.get?_push_size _ rfl, ⟨rfl, rfl, rfl⟩, rfl, rfl, List.nodup_nil⟩
  exact wpAny_Dict_empty ⟨.ref s.heap.objs.size, _, I.laid (a := s.heap.objs.size) (o := nkO X.prog X.w s.heap.objs.size []) (t' := s.toks) (fun _ _ q => Heap.get?_push_of_some _ q) (Nat.le_refl _) (nkObj_ok ob), rfl, h _ (I.hok.fresh (Nat.le_refl _)) ⟨upd_same, fun q hq => by cases hq⟩⟩
/-- y not in d -/
def tNkOut (P : Program) (w : World) (ty td : TE) : TE := fun σ H Q => ty σ H fun y H1 => td σ H1 fun x H2 => ∃ (d b : Addr) (kas : List (NestedKey × Addr × Int)) (k : NestedKey), x = .ref d ∧ y = .ref b ∧ NkD P w H2 d kas ∧ NkV H2 k (.ref b) ∧ k.depth ≤ 8 ∧ Q (.bl (!(nkAt kas k).isSome)) H2
theorem pc_nkout (P : Program) (w : World) (h1 : X.prog = P) (h2 : X.w = w) (hu : X.A.units + 65 < cLine) (hi : PE X i ty) (ho : PE X o td) : PC X .NotIn i o (tNkOut P w ty td) := by
  subst h1 h2
  refine ⟨fun pins s σ H Q I h => ?_⟩
  refine thn (hi.run pins s σ H _ I h) fun iv s1 ⟨y, H1, I1, ry, q1⟩ => thn (ho.run pins s1 σ H1 _ I1 q1) fun u s2 ⟨x, H2, I2, rx, d, b, kas, k, ex, ey, D, kv, dp, q2⟩ => ?_
  subst ex ey
  obtain rfl : u = Value.ref d := rx
  obtain rfl : iv = Value.ref b := ry
  obtain ⟨a1, a2, xs, al, dd⟩ := D.get I2.hok
  refine wpAny_notIn_heap (nk_room hu) ⟨NkV.is I2.hok kv rfl, dp⟩ a1 dd ⟨.bl (!(nkAt kas k).isSome), H2, I2.tok _, ?_, q2⟩
  rcases nk_at (k := k) al with ⟨z1, z2⟩ | ⟨n, a, t, z1, z2⟩ <;> rw [z1, z2] <;> rfl
/-- d[y] -/
def tNkGet (P : Program) (w : World) (td ty : TE) : TE := fun σ H Q => td σ H fun x H1 => ty σ H1 fun y H2 => ∃ (d b : Addr) (kas : List (NestedKey × Addr × Int)) (k : NestedKey) (n : Int), x = .ref d ∧ y = .ref b ∧ NkD P w H2 d kas ∧ NkV H2 k (.ref b) ∧ k.depth ≤ 8 ∧ nkAt kas k = some n ∧ Q (.int n) H2
theorem pe_nkget (P : Program) (w : World) (h1 : X.prog = P) (h2 : X.w = w) (hu : X.A.units + 65 < cLine) (ho : PE X o td) (hi : PE X i ty) (hs : NoSl i) : PE X (.Subscript o i pos) (tNkGet P w td ty) := by
  subst h1 h2
  refine ⟨fun pins s σ H Q I h => ?_⟩
  refine subD_of PySem.F.slot_dict_getitem.lookup hs (thn (ho.run pins s σ H _ I h) fun u s1 ⟨x, H1, I1, rx, q1⟩ => thn (hi.run pins s1 σ H1 _ I1 q1) fun iv s2 ⟨y, H2, I2, ry, d, b, kas, k, n, ex, ey, D, kv, dp, hk, q2⟩ => ?_)
  subst ex ey
  obtain rfl : u = Value.ref d := rx
  obtain rfl : iv = Value.ref b := ry
  obtain ⟨a1, a2, xs, al, dd⟩ := D.get I2.hok
  refine ⟨dd.typeIs, ?_⟩
  rcases nk_at (k := k) al with ⟨z1, z2⟩ | ⟨m, a, t, z1, z2⟩
  · rw [z1] at hk; cases hk
  · rw [z1] at hk
    cases hk
    exact wpAny_getItem_heap (nk_room hu) ⟨NkV.is I2.hok kv rfl, dp⟩ dd z2 ⟨.int n, H2, I2.tok _, ⟨t, rfl⟩, q2⟩
/-- len(d) -/
theorem call_lenNk (P : Program) (w : World) (h1 : X.prog = P) (h2 : X.w = w) : CallR X (.builtin "len") (fun vs H Q => ∃ (d : Addr) (kas : List (NestedKey × Addr × Int)), vs = [.ref d] ∧ NkD P w H d kas ∧ Q (.int (kas.length : Nat)) H) := by
  subst h1 h2
  intro pins s σ H vs us Q I r asked
  obtain ⟨d, kas, rfl, D, q⟩ := asked
  obtain ⟨u, rfl, ru⟩ := vals1 r
  obtain rfl : u = Value.ref d := ru
  obtain ⟨a1, a2, xs, al, dd⟩ := D.get I.hok
  have l := al.length
  refine PySem.call_len_dictH a1 dd (by rw [← l]; rw [sizeLine_eq] at a2; omega) ?_
  exact ⟨.int (kas.length : Nat), H, I.tok _, ⟨_, by rw [l]⟩, q⟩
/-- d[y] = v, y not yet in d -/
def sNkPut (P : Program) (w : World) (td ty tv : TE) : TS := fun D σ H => tv σ H fun v H1 => td σ H1 fun x H2 => ty σ H2 fun y H3 => ∃ (d b : Addr) (kas : List (NestedKey × Addr × Int)) (k : NestedKey) (n : Int), x = .ref d ∧ y = .ref b ∧ v = .int n ∧ NkD P w H3 d kas ∧ NkV H3 k (.ref b) ∧ k.depth ≤ 8 ∧ nkAt kas k = none ∧ kas.length < sizeLine ∧
  (NkD P w (upd H3 d (nkO P w d (kas ++ [(k, b, n)]))) d (kas ++ [(k, b, n)]) → D.nx σ (upd H3 d (nkO P w d (kas ++ [(k, b, n)]))))
theorem ps_nkput {value : Expr} (P : Program) (w : World) (h1 : X.prog = P) (h2 : X.w = w) (hu : X.A.units + 65 < cLine) (ho : PE X o td) (hi : PE X i ty) (hv : PE X value tv) (hs : swapsWith value (some (.Subscript o i pos')) pos.line X.env = pure false) :
    PS X (.Assign [.Subscript o i pos'] value pos) (sNkPut P w td ty tv) := by
  subst h1 h2
  refine ⟨fun pins s σ H D I h => ?_⟩
  refine wpAny_Assign_Subscript (thn (hv.run pins s σ H _ I h) fun r s1 ⟨v, H1, I1, rv, q1⟩ => thn (ho.run pins s1 σ H1 _ I1 q1) fun u s2 ⟨x, H2, I2, rx, q2⟩ => thn (hi.run pins s2 σ H2 _ I2 q2) fun iv s3 ⟨y, H3, I3, ry, d, b, kas, k, n, ex, ey, ev, Dk, kv, dp, hk, hl, q3⟩ => ?_) hs
  subst ex ey ev
  obtain rfl : u = Value.ref d := rx
  obtain rfl : iv = Value.ref b := ry
  obtain ⟨t, rfl⟩ := (show ∃ t, r = Value.int n t from rv)
  obtain ⟨a1, a2, xs, al, dd⟩ := Dk.get I3.hok
  have l := al.length
  have z2 : atKey xs k = none := by
    rcases nk_at (k := k) al with ⟨z1, z2⟩ | ⟨m, a, t, z1, z2⟩
    · exact z2
    · rw [z1] at hk; cases hk
  refine wpAny_setItem_heap (hsz := by rw [← l]; exact a2) (nk_room hu) ⟨NkV.is I3.hok kv rfl, dp⟩ dd fun h' dd' hsb => ?_
  rw [storedH_new z2] at dd'
  obtain ⟨ob, es, ep, g1, g2, g3, g4, g5, g6⟩ := dd'
  have kp : TK H3 (upd H3 d (nkO X.prog X.w d (kas ++ [(k, b, n)]))) := fun a ys e => by
    rw [upd_ne (ne_of e Dk.at_ (fun z => nkO_tup z.symm))]
    exact e
  have new : nkObj X.prog X.w d (kas ++ [(k, b, n)]) h' := ⟨a1, by rw [List.length_append]; exact hl, _, al.snoc ⟨rfl, rfl, t, rfl⟩, ob, es, ep, g1, g2, g3, g4, g6⟩
  refine ⟨σ, _, d_write I3 (by rw [Dk.at_]; exact True.intro) hsb ⟨ob, g1⟩ (nkObj_ok new), q3 ⟨upd_same, fun q hq => ?_⟩⟩
  rcases List.mem_append.mp hq with hq | hq
  · exact ⟨(Dk.key q hq).1.keep kp, (Dk.key q hq).2⟩
  · rw [List.mem_singleton.mp hq]
    exact ⟨kv.keep kp, dp⟩
end
/-! ### numbers from 0 on, slices -/
abbrev nV (n : Nat) : V := .int ((n : Nat) : Int)
theorem cut_drop (xs : List V) (k : Nat) : cutV xs (some ((k : Nat) : Int)) none = xs.drop k := by
  unfold cutV
  rw [HT.sIx_nat, HT.sIx_none]
  rcases Nat.le_total k xs.length with h | h
  · rw [Nat.min_eq_left h, List.take_of_length_le]
    rw [List.length_drop]; exact Nat.le_refl _
  · rw [Nat.min_eq_right h, Nat.sub_self, List.take_zero, List.drop_eq_nil_of_le h]
/-! ### slices and sums of tuples, whatever they are -/
theorem slA_of {K : PySem.W.Frag} {H : Hp} {a : Addr} {xs : List V} {lo hi : Option Int} {Q : VK} (h : H a = some (.tup xs)) (k : ∀ (p : Addr) (H' : Hp), H' p = some (.tup (cutV xs lo hi)) → Same H H' → Q (.ref p) H') : rSlA K (.ref a) lo hi H Q := by
  refine ⟨a, xs, rfl, SqT.of h, fun z => k a H ?_ (Same.refl _), fun _ p np => k p _ upd_same (same_new np)⟩
  unfold cutV
  rw [z.1, z.2, List.drop_zero, Nat.sub_zero, List.take_length]
  exact h
theorem catA_of {K : PySem.W.Frag} {H : Hp} {a b : Addr} {xs ys : List V} {Q : VK} (h : H a = some (.tup xs)) (g : H b = some (.tup ys)) (l : xs.length + ys.length ≤ 1000) (k : ∀ (p : Addr) (H' : Hp), H' p = some (.tup (xs ++ ys)) → Same H H' → Q (.ref p) H') : rCatA K (.ref a) (.ref b) H Q := by
  refine ⟨a, b, xs, ys, rfl, rfl, SqT.of h, SqT.of g, little l, fun e => k b H ?_ (Same.refl _), fun _ e => k a H ?_ (Same.refl _), fun _ _ p np => k p _ upd_same (same_new np)⟩
  · rw [e]; exact g
  · rw [e, List.append_nil]; exact h
theorem cut_take (xs : List V) (k : Nat) : cutV xs none (some ((k : Nat) : Int)) = xs.take k := by
  unfold cutV
  rw [HT.sIx_nat, HT.sIx_none, List.drop_zero, Nat.sub_zero]
  by_cases h : k ≤ xs.length
  · rw [Nat.min_eq_left h]
  · rw [Nat.min_eq_right (by omega), List.take_length, List.take_of_length_le (by omega)]
theorem cut_part {xs : List V} {lo hi : Option Int} : ∀ x ∈ cutV xs lo hi, x ∈ xs := fun x hx => List.mem_of_mem_drop (List.mem_of_mem_take hx)
theorem cut_nats {ns : List Nat} {lo hi : Option Int} : ∃ ms : List Nat, cutV (ns.map nV) lo hi = ms.map nV ∧ ms.length ≤ ns.length ∧ ∀ x ∈ ms, x ∈ ns := by
  refine ⟨(ns.drop (HT.sIx (ns.map nV).length 0 lo)).take (HT.sIx (ns.map nV).length (ns.map nV).length hi - HT.sIx (ns.map nV).length 0 lo), ?_, ?_, fun x hx => List.mem_of_mem_drop (List.mem_of_mem_take hx)⟩
  · unfold cutV
    rw [List.map_take, List.map_drop]
  · rw [List.length_take, List.length_drop]
    omega
section
variable {P : Program} {w : World} {K : PySem.W.Frag} {mg : Str → Option Value} {base : Heap}
def sp_law_flow (K : PySem.W.Frag) : Sp := fun vs H Q _ => ∃ (a : Addr) (ns : List Int), vs = [.ref a] ∧ SqL K H a (ns.map V.int) ∧ ∀ (f c : Addr) (H' : Hp), H f = none → H c = none → Flow H' f c → Same H H' → Q (.ref f) H'
theorem ok_law_flow {f : Addr} {fd : FuncData} (F : Fun K "_law_flow" "_law_flow" s_law_flow f fd) (T : Top w K mg) : FnOk P w K mg base CX0 1 f fd ["_law_script"] (sp_law_flow K) := by
  refine F.ok sc_law_flow (fun vs H Q E h => ?_) (fun cdv A outer s H vs Q E hr h => ?_)
  · obtain ⟨a, ns, rfl, _⟩ := h
    rfl
  obtain ⟨a, ns, rfl, hS, q⟩ := h
  refine ⟨_, (pss_one (ps_ret (pe_lst (pa_cons (pe_callTy (call_list_ofK K rfl) (by rfl) T.m_list (by decide +kernel) (pa_cons (pv 0) pa_nil)) (pa_cons pe_int (pa_cons pe_int (pa_cons pe_int (pa_cons pe_int pa_nil)))))))), ?_⟩
  refine ⟨_, rfl, a, _, rfl, .inl hS, fun c hc => ?_⟩
  refine ⟨(by show 5 ≤ sizeLine; decide), fun f hf => ?_⟩
  have nf : H f = none := by
    cases e : H f with
    | none => rfl
    | some o => rw [same_new hc _ _ e] at hf; cases hf
  have s1 := same_new (o := .lst (ns.map V.int)) hc
  refine q f c _ nf hc ⟨ns, 0, 0, 1, 0, upd_same, same_new hf _ _ upd_same, by decide, by decide, by decide, by decide⟩ fun b o e => same_new hf _ _ (s1 _ _ e)
def sp_law_pick (K : PySem.W.Frag) : Sp := fun vs H Q _ => ∃ (f c : Addr) (m : Int), vs = [.ref f, .int m] ∧ 0 < m ∧ m.natAbs.log2 < 9000 ∧ Flow H f c ∧
  ∀ (v : Int) (H' : Hp), 0 ≤ v → v < m → Flow H' f c → But f H H' → Q (.int v) H'
theorem ok_law_pick {f : Addr} {fd : FuncData} (F : Fun K "_law_pick" "_law_pick" s_law_pick f fd) (T : Top w K mg) : FnOk P w K mg base CX0 1 f fd ["_law_flow_here", "_law_many"] (sp_law_pick K) := by
  refine F.ok sc_law_pick (fun vs H Q E h => ?_) (fun cdv A outer s H vs Q E hr h => ?_)
  · obtain ⟨f, c, m, rfl, _⟩ := h
    rfl
  obtain ⟨f, c, m, rfl, m0, m9, hF, q⟩ := h
  obtain ⟨ns, i, p, z, r, hf, hc, hi, hp, hz, hz2⟩ := hF
  have ncf : c ≠ f := ne_of hc hf (by intro e; injection e with e; cases ns with | nil => cases e | cons x l => cases e)
  let R1 : TS := fun D' σ' H' => D'.rt = Q ∧ ∃ x2 : Option V, σ' = [some (.ref f), some (.int m), x2, none] ∧ (∃ (i p z r : Int), H' f = some (.lst [.ref c, .int i, .int p, .int z, .int r]) ∧ H' c = some (.lst (ns.map V.int)) ∧ 0 ≤ i ∧ 0 ≤ p ∧ 0 ≤ z ∧ z < 2147483647) ∧ But f H H'
  refine ⟨_, (pss_cons (ps_if (PW.pt (pw_and (pt_cmpR op_eq (pe_ix (ix_listK K rfl) (pv 0) pe_int (fun _ _ => rfl)) pe_int (nomark _)) (pw_and1 (pt_cmpR op_lt (pe_ix (ix_listK K rfl) (pv 0) pe_int (fun _ _ => rfl)) (pe_callB (call_len_seqK K rfl) (by rfl) T.m_len (by decide +kernel) (pa_cons (pe_ix (ix_listK K rfl) (pv 0) pe_int (fun _ _ => rfl)) pa_nil)) (nomark _))))) (pss_cons (ps_set (i := 2) sc_law_pick.nd rfl (Or.inl rfl) (pe_ix (ix_listK K rfl) (pe_ix (ix_listK K rfl) (pv 0) pe_int (fun _ _ => rfl)) (pe_ix (ix_listK K rfl) (pv 0) pe_int (fun _ _ => rfl)) (fun _ _ => rfl)))
      (pss_cons (ps_asg (pe_op op_add (pe_ix (ix_listK K rfl) (pv 0) pe_int (fun _ _ => rfl)) pe_int) (pg_sub (pv 0) pe_int set_list))
      (pss_one (ps_if (pt_cmpR op_ge (pv 2) (pe_op op_pow pe_int pe_int) (nomark _)) (pss_one (ps_asg (pv 2) (pg_sub (pv 0) pe_int set_list))) (pss_one (ps_asg (pe_op op_mod (pe_op op_add (pe_op op_add (pe_op op_mul (pe_ix (ix_listK K rfl) (pv 0) pe_int (fun _ _ => rfl)) pe_int) (pe_op op_mod (pv 2) pe_int)) pe_int) pe_int) (pg_sub (pv 0) pe_int set_list))))))) pss_nil)
      (PSs.to (pss_cons (ps_if (pt_cmpR op_gt (pe_ix (ix_listK K rfl) (pv 0) pe_int (fun _ _ => rfl)) pe_int (nomark _)) (pss_cons (ps_set (i := 3) sc_law_pick.nd rfl (Or.inl rfl) (pe_op op_mod (pe_ix (ix_listK K rfl) (pv 0) pe_int (fun _ _ => rfl)) (pv 1)))
      (pss_cons (ps_asg (pe_op op_fdivW (pe_ix (ix_listK K rfl) (pv 0) pe_int (fun _ _ => rfl)) (pv 1)) (pg_sub (pv 0) pe_int set_list))
      (pss_one (ps_ret (pv 3))))) pss_nil)
      (pss_cons (ps_asg (pe_op op_add (pe_ix (ix_listK K rfl) (pv 0) pe_int (fun _ _ => rfl)) pe_int) (pg_sub (pv 0) pe_int set_list))
      (pss_cons (ps_asg (pe_op op_mod (pe_op op_add (pe_op op_add (pe_op op_mul (pe_ix (ix_listK K rfl) (pv 0) pe_int (fun _ _ => rfl)) pe_int) pe_int) (pe_ix (ix_listK K rfl) (pv 0) pe_int (fun _ _ => rfl))) pe_int) (pg_sub (pv 0) pe_int set_list))
      (pss_one (ps_ret (pe_op op_mod (pe_op op_fdiv (pe_op op_mod (pe_op op_mul (pe_op op_add (pe_op op_mod (pe_ix (ix_listK K rfl) (pv 0) pe_int (fun _ _ => rfl)) pe_int) pe_int) (pe_op op_add (pe_op op_fdiv (pe_ix (ix_listK K rfl) (pv 0) pe_int (fun _ _ => rfl)) pe_int) pe_int)) pe_int) pe_int) (pv 1))))))) R1 ?tail1)), ?_⟩
  case tail1 =>
    rintro D' σ' H1 ⟨eD, x2, rfl, ⟨i, p, z, r, hf, hc, hi, hp, hz, hz2⟩, bt⟩
    refine ⟨_, rfl, f, _, _, _, rfl, rfl, SqL.of hf, atI_nat (j := 2) rfl, _, _, rfl, rfl, _, rfl, if_bl (fun c1 => ?_) (fun c1 => ?_)⟩
    · refine ⟨_, rfl, f, _, _, _, rfl, rfl, SqL.of hf, atI_nat (j := 2) rfl, _, rfl, _, _, rfl, rfl, m0, ?_⟩
      refine ⟨_, rfl, f, _, _, _, rfl, rfl, SqL.of hf, atI_nat (j := 2) rfl, _, rfl, _, _, rfl, rfl, ⟨m0, m9⟩, _, rfl, f, _, _, 2, rfl, rfl, hf, rfl, ?_⟩
      refine ⟨_, rfl, ?_⟩
      rw [eD]
      exact q _ _ (Int.emod_nonneg _ (by omega)) (Int.emod_lt_of_pos _ m0) ⟨ns, i, p / m, z, r, upd_same, (by rw [upd_ne ncf]; exact hc), hi, Int.ediv_nonneg hp (by omega), hz, hz2⟩ bt.upd
    · refine ⟨_, rfl, f, _, _, _, rfl, rfl, SqL.of hf, atI_nat (j := 4) rfl, _, _, rfl, rfl, _, rfl, f, _, _, 4, rfl, rfl, hf, rfl, ?_⟩
      have hf2 : upd H1 f (.lst ([V.ref c, V.int i, V.int p, V.int z, V.int r].set 4 (V.int (r + 1)))) f = some (.lst [.ref c, .int i, .int p, .int z, .int (r + 1)]) := upd_same
      refine ⟨_, rfl, f, _, _, _, rfl, rfl, SqL.of hf2, atI_nat (j := 3) rfl, _, _, rfl, rfl, .inl ⟨by omega, by omega⟩, _, _, rfl, rfl, _, rfl, f, _, _, _, rfl, rfl, SqL.of hf2, atI_nat (j := 4) rfl, _, _, rfl, rfl, _, _, rfl, rfl, (by show (0 : Int) < 2147483647; decide), _, rfl, f, _, _, 3, rfl, rfl, hf2, rfl, ?_⟩
      have z0 : 0 ≤ (z * 48271 + 12820163 + (r + 1)) % 2147483647 := Int.emod_nonneg _ (by decide)
      have z1 : (z * 48271 + 12820163 + (r + 1)) % 2147483647 < 2147483647 := Int.emod_lt_of_pos _ (by decide)
      have hf3 : upd (upd H1 f (.lst ([V.ref c, V.int i, V.int p, V.int z, V.int r].set 4 (V.int (r + 1))))) f (.lst ([V.ref c, V.int i, V.int p, V.int z, V.int (r + 1)].set 3 (V.int ((z * 48271 + 12820163 + (r + 1)) % 2147483647)))) f =
        some (.lst [.ref c, .int i, .int p, .int ((z * 48271 + 12820163 + (r + 1)) % 2147483647), .int (r + 1)]) := upd_same
      have hc3 : upd (upd H1 f (.lst ([V.ref c, V.int i, V.int p, V.int z, V.int r].set 4 (V.int (r + 1))))) f (.lst ([V.ref c, V.int i, V.int p, V.int z, V.int (r + 1)].set 3 (V.int ((z * 48271 + 12820163 + (r + 1)) % 2147483647)))) c = some (.lst (ns.map V.int)) := by
        rw [upd_ne ncf, upd_ne ncf]
        exact hc
      refine ⟨_, rfl, f, _, _, _, rfl, rfl, SqL.of hf3, atI_nat (j := 3) rfl, _, _, rfl, rfl, (by show (0 : Int) < 65521; decide), _, _, rfl, rfl, _, rfl, f, _, _, _, rfl, rfl, SqL.of hf3, atI_nat (j := 3) rfl, _, _, rfl, rfl, ⟨by decide, by decide⟩, _, _, rfl, rfl, _, _, rfl, rfl, .inl ⟨?_, ?_⟩, _, _, rfl, rfl, (by show (0 : Int) < 1000003; decide), _, _, rfl, rfl, ⟨by decide, by decide⟩, _, rfl, _, _, rfl, rfl, m0, ?_⟩
      · omega
      · omega
      · rw [eD]
        exact q _ _ (Int.emod_nonneg _ (by omega)) (Int.emod_lt_of_pos _ m0) ⟨ns, i, p, _, r + 1, hf3, hc3, hi, hp, z0, z1⟩ bt.upd.upd
  refine ⟨_, rfl, f, _, _, _, rfl, rfl, SqL.of hf, atI_nat (j := 2) rfl, rfl, _, rfl, if_bl (fun c1 => ?_) (fun c1 => ?_)⟩
  · refine ⟨_, rfl, f, _, _, _, rfl, rfl, SqL.of hf, atI_nat (j := 1) rfl, _, rfl, f, _, _, _, rfl, rfl, SqL.of hf, atI_nat (j := 0) rfl, c, _, rfl, .inl (SqL.of hc), _, _, rfl, rfl, _, rfl, if_bl (fun c2 => ?_) (fun c2 => ?_)⟩
    · have c3 : i < ((ns.map V.int).length : Int) := of_decide_eq_true c2
      rw [List.length_map] at c3
      obtain ⟨v, hv⟩ := at_ints hi c3
      refine ⟨_, rfl, f, _, _, _, rfl, rfl, SqL.of hf, atI_nat (j := 0) rfl, _, rfl, f, _, _, _, rfl, rfl, SqL.of hf, atI_nat (j := 1) rfl, c, _, i, _, rfl, rfl, SqL.of hc, hv, ?_⟩
      refine ⟨_, rfl, f, _, _, _, rfl, rfl, SqL.of hf, atI_nat (j := 1) rfl, _, _, rfl, rfl, _, rfl, f, _, _, 1, rfl, rfl, hf, rfl, ?_⟩
      have hf2 : upd H f (.lst ([V.ref c, V.int i, V.int p, V.int z, V.int r].set 1 (V.int (i + 1)))) f = some (.lst [.ref c, .int (i + 1), .int p, .int z, .int r]) := upd_same
      refine ⟨_, rfl, _, _, rfl, rfl, ⟨by decide, by decide, by decide⟩, _, _, rfl, rfl, _, rfl, if_bl (fun c4 => ?_) (fun c4 => ?_)⟩
      · have c5 : (10 : Int) ^ (18 : Int).toNat ≤ v := of_decide_eq_true c4
        have c6 : (0 : Int) ≤ (10 : Int) ^ (18 : Int).toNat := by decide
        refine ⟨_, rfl, _, rfl, f, _, _, 2, rfl, rfl, hf2, rfl, rfl, _, rfl, ⟨i + 1, v, z, r, upd_same, ?_, by omega, by omega, hz, hz2⟩, But.refl.upd.upd⟩
        rw [upd_ne ncf, upd_ne ncf]
        exact hc
      · refine ⟨_, rfl, f, _, _, _, rfl, rfl, SqL.of hf2, atI_nat (j := 3) rfl, _, _, rfl, rfl, .inl ⟨by omega, by omega⟩, _, rfl, _, _, rfl, rfl, (by show (0 : Int) < 1000003; decide), _, _, rfl, rfl, _, _, rfl, rfl, _, _, rfl, rfl, (by show (0 : Int) < 2147483647; decide), _, rfl, f, _, _, 3, rfl, rfl, hf2, rfl, rfl, _, rfl, ⟨i + 1, p, _, r, upd_same, ?_, by omega, hp, Int.emod_nonneg _ (by decide), Int.emod_lt_of_pos _ (by decide)⟩, But.refl.upd.upd⟩
        rw [upd_ne ncf, upd_ne ncf]
        exact hc
    · exact ⟨rfl, _, rfl, ⟨i, p, z, r, hf, hc, hi, hp, hz, hz2⟩, But.refl⟩
  · exact ⟨rfl, _, rfl, ⟨i, p, z, r, hf, hc, hi, hp, hz, hz2⟩, But.refl⟩
end
theorem op_notB {X : Cx} : OpR X (compareOp .IsNot) (fun x y H Q => ∃ a b : Bool, x = .bl a ∧ y = .bl b ∧ Q (.bl (!decide (a = b))) H) := by
  intro pins s σ H x y v u Q I rx ry h
  obtain ⟨a, b, rfl, rfl, q⟩ := h
  obtain rfl : v = Value.bool a := rx
  obtain rfl : u = Value.bool b := ry
  exact wpAny_isNot_plain rfl (fin_bl I q (by cases a <;> cases b <;> rfl))
theorem op_isB {X : Cx} : OpR X (compareOp .Is) (fun x y H Q => ∃ a b : Bool, x = .bl a ∧ y = .bl b ∧ Q (.bl (decide (a = b))) H) := by
  intro pins s σ H x y v u Q I rx ry h
  obtain ⟨a, b, rfl, rfl, q⟩ := h
  obtain rfl : v = Value.bool a := rx
  obtain rfl : u = Value.bool b := ry
  exact wpAny_is_plain rfl (fin_bl I q (by cases a <;> cases b <;> rfl))
/-! ### a name told a dict written out -/
section
variable {X : Cx}
theorem ps_setDc {i : Nat} {y : Str} {py : Pos} {kx vx tg iter : Expr} {ifs : List Expr} {scope : Scope} {own : List (Str × Nat)} {pos spos : Pos} {wi : TI} {g : TG} {tt : TT} {tk tv : TE} (hc : X.calm = true) (hN : X.N.Nodup) (hy : X.N[i]? = some y) (hyl : X.env.scope.names.lookup y = some .local)
    (hsw : swapsWith (.DictComp kx vx [⟨tg, iter, ifs, 0⟩] scope pos) (some (.Name y py)) spos.line X.env = pure true) (hi : L2.PI X tg iter wi) (ok : BlkOk X.N X.env.scope scope own)
    (hg : ∀ (s : Shared) (H : Hp) (C : Addr) (cl : List (Str × Addr)) (fp : List Addr), L2.PG (X.blk s H scope (compEnvC scope cl C X.env) fp) tg g) (ht : ∀ (s : Shared) (H : Hp) (C : Addr) (cl : List (Str × Addr)) (fp : List Addr), PTs (X.blk s H scope (compEnvC scope cl C X.env) fp) ifs tt)
    (hk : ∀ (s : Shared) (H : Hp) (C : Addr) (cl : List (Str × Addr)) (fp : List Addr), L2.PE (X.blk s H scope (compEnvC scope cl C X.env) fp) kx tk)
    (he : ∀ (s : Shared) (H : Hp) (C : Addr) (cl : List (Str × Addr)) (fp : List Addr), L2.PE (X.blk s H scope (compEnvC scope cl C X.env) fp) vx tv) (hs : ∀ x, foldedSetIterable iter X.env x = pure x := by intro _; rfl) :
    PS X (.Assign [.Name y py] (.DictComp kx vx [⟨tg, iter, ifs, 0⟩] scope pos) spos) (tAsg (tDc wi g tt tk tv (own.map (·.2))) (gName i)) := by
  refine ⟨fun pins s σ H D I h => ?_⟩
  rw [exec_Assign_Name_used _ _ _ _ hsw]
  refine wpAny_bind (wpAny_standAt (wpAny_bind ?_))
  show wpAny _ X.A (do let _ ← comprehension (.DictComp kx vx [⟨tg, iter, ifs, 0⟩] scope pos) scope X.env (firstIterPos [⟨tg, iter, ifs, 0⟩] pos) newDict false (eval iter X.env) (some (assign (.Name y py) X.env))) _ _ s
  have h : tDc wi g tt tk tv (own.map (·.2)) σ H (fun x H1 => gName i x σ H1 D.nx) := h
  refine wpAny_bind (thn (dc_core (Qf := fun _ s' => SP X pins D .next s') hc hN I hi ok hg ht hk he hs h fun L C s' m H' I' q hn f => ?_) fun _ s' hq => wpAny_pure (wpAny_pure hq))
  refine wpAny_assign_Name (store_ok2 (v := V.ref L) I' hN hy (.inl hyl) rfl (fun s2 I2 ⟨a, sb, ha⟩ => ?_) (.inr hyl))
  obtain ⟨f0, f1, f2, f3, f4, f5⟩ := f
  have haC : C ≠ a := ha.elim (fun z => by rw [z]; exact f1) fun z e => f4 y a z e.symm
  exact ⟨m, hn.sameBut sb haC, fun h3 sb3 => ⟨_, H', I2.turned (t' := s2.toks) (fun b o hb e => (sb3.2 b hb).trans e) f0 f1 f3 f4 f5, q⟩⟩
theorem sw_dc {kx vx : Expr} {gs : List Comprehension} {scope : Scope} {pos py : Pos} {y : Str} {l : Nat} {env : Env} (hk : env.scope.kind = .function) (hy : env.scope.names.lookup y = some .local) (hl : (py.line == pos.line) = true)
    (ha : (scope.names.any fun (n, k) => n == y && (k == .local || k == .cell)) = false) : swapsWith (.DictComp kx vx gs scope pos) (some (.Name y py)) l env = pure true := by
  have ky : env.kindOf y = some .local := hy
  have hb : env.blockKind = .function := by unfold Env.blockKind; rw [hk]; rfl
  unfold swapsWith
  simp only [hb, ky, ha, Expr.pos, hl]
  rfl
end
/-- a tuple known to its object, which has no names of its own -/
theorem SqT.fz {K : PySem.W.Frag} {H : Hp} {a : Addr} {o : Obj} {xs : List V} (h : H a = some (.frz o (.tup xs))) : SqT K H a xs := .inl (.inr ⟨o, h⟩)
def rTupOfF (K : PySem.W.Frag) : List V → Hp → VK → Prop := fun xs H Q => ∃ p ys, xs = [.ref p] ∧ SqL K H p ys ∧ ∀ l ob, ob.dict = none → H l = none → Q (.ref l) (upd H l (.frz ob (.tup ys)))
theorem call_tuple_ofF {X : Cx} (K : PySem.W.Frag) (same : X.K = K) : CallR X (.type "tuple") (rTupOfF K) := by
  subst same
  intro pins s σ H xs us Q I r h
  obtain ⟨p, ys, ex, sq, q⟩ := h
  subst ex
  obtain ⟨_, rfl, rx⟩ := vals1 r
  cases rx
  obtain ⟨its, rv, pl, few⟩ := I.list sq
  have len := rv.length
  refine call_tuple_list pl.isList (fun h' kp => ?_) (by simp only [List.size_toArray] <;> omega)
  have J : Inv X pins σ H { s with heap := h' } := I.kept (t' := s.toks) kp
  have at_ : (h'.push { cls := .type "tuple", data := .seq its.toArray }).get? h'.objs.size = some { cls := .type "tuple", data := .seq its.toArray } := Heap.get?_push_size _ rfl
  refine ⟨.ref h'.objs.size, _, J.laid (o := .frz { cls := .type "tuple", data := .seq its.toArray } (.tup ys)) (t' := s.toks) (fun b o e => Heap.get?_push_of_some _ e) (Nat.le_refl _) ⟨at_, few, its, rv, IsTup.new _ _⟩, rfl, q _ _ rfl (J.hok.fresh (Nat.le_refl _))⟩
/-! ### dict(t) of a tuple of pairs -/
section
open PySem
theorem pairs_ofT {X : Cx} {pins : List (Addr × Obj)} {σ : L2.St} {H : Hp} {s : Shared} (I : Inv X pins σ H s) : ∀ {ps : List Addr} {kvs : List (Key × V)}, Paired (fun p kv => SqT X.K H p [kV kv.1, kv.2]) ps kvs →
    ∃ (prs : List (Key × Value)) (us : List (Value × Value)), KV kvs prs ∧ prs.length = ps.length ∧ us.length = ps.length ∧ ∀ (j : Nat) (k v : Value), us[j]? = some (k, v) → ∃ (b : Addr) (q : Key), ps[j]? = some b ∧ prs[j]? = some (q, v) ∧ IsTup s.heap b #[k, v] ∧ keyIs q k = true
  | _, _, .nil => ⟨[], [], .nil, rfl, rfl, fun j k v e => by simp at e⟩
  | _, _, .cons (a := p) (b := kv) h t => by
    obtain ⟨prs, us, r, hl, hu, hp⟩ := pairs_ofT I t
    obtain ⟨its, rv, ht, _⟩ := I.tuple h
    obtain ⟨u, y, ei, ru, ry⟩ := vals2 rv
    subst ei
    refine ⟨(kv.1, y) :: prs, (u, y) :: us, .cons ⟨rfl, ry⟩ r, by rw [List.length_cons, List.length_cons, hl], by rw [List.length_cons, List.length_cons, hu], fun j k v e => ?_⟩
    cases j with
    | zero =>
      obtain ⟨rfl, rfl⟩ := Prod.mk.inj (Option.some.inj e)
      exact ⟨p, kv.1, rfl, rfl, ht, kV_is (P := X.prog) (w := X.w) ru⟩
    | succ j =>
      obtain ⟨b, q, e1, e2, e3, e4⟩ := hp j k v (by simpa using e)
      exact ⟨b, q, by simpa using e1, by simpa using e2, e3, e4⟩
theorem call_dictPT {X : Cx} (K : PySem.W.Frag) (same : X.K = K) (hcalm : X.calm = true) : CallR X (.type "dict") (fun xs H Q => ∃ (a : Addr) (ob : Obj) (ps : List Addr) (kvs : List (Key × V)), xs = [.ref a] ∧ ob.dict = none ∧ H a = some (.frz ob (.tup (ps.map V.ref))) ∧ Paired (fun p kv => SqT K H p [kV kv.1, kv.2]) ps kvs ∧
    ∀ p, H p = none → Q (.ref p) (upd H p (.dK (mergeK [] kvs)))) := by
  subst same
  intro pins s σ H xs us Q I r q
  obtain ⟨a, ob, ps, kvs, ex, hd, ha, hp, q⟩ := q
  subst ex
  obtain ⟨u, eu, rx⟩ := vals1 r
  subst eu
  cases rx
  obtain ⟨its, rv, pt, hz⟩ := I.tuple (SqT.fz ha)
  have ei := refs_at rv
  subst ei
  rw [List.length_map] at hz
  obtain ⟨prs, us, rel, hl, hu, hpr⟩ := pairs_ofT I hp
  have got : s.heap.get? a = some ob := (I.hok a _ ha).1
  obtain ⟨o, ho, hc, n, hdat⟩ := pt
  obtain rfl : ob = o := Option.some.inj (got.symm.trans ho)
  have P := PairArg.tuple (prog := X.prog) (w := X.w) a (ps.map Value.ref).toArray (fun j => ps.getD j 0) us
  refine _root_.PySem.call_dict_pairs (knd := mixKind X.prog X.w) (kvs := prs) P (I.ok.hd hcalm) ⟨⟨ob, n, ho, hc, hd, hdat⟩, by simp [hu], fun j k v e => ?_⟩ ⟨by rw [hl, hu], fun i k v e => ?_⟩ (by rw [hu]; exact hz) fun h' tk hd' kp => ?_
  · obtain ⟨b, q, e1, e2, e3, e4⟩ := hpr j k v e
    refine ⟨by simp [e1], .inl ?_⟩
    have : ps.getD j 0 = b := by rw [List.getD_eq_getElem?_getD, e1]; rfl
    show _
    simp only [this]
    exact e3
  · obtain ⟨b, q, e1, e2, e3, e4⟩ := hpr i k v e
    exact ⟨q, e2, e4⟩
  · have notS : (s.heap.objs.size == sysModules) = false := beq_eq_false_iff_ne.mpr fun z => Nat.lt_irrefl _ (z ▸ I.big)
    have few : (mergeK [] kvs).length ≤ sizeLine := Nat.le_trans (length_mergeK kvs []) (by rw [rel.length, hl, List.length_nil, Nat.zero_add]; exact hz)
    exact ⟨.ref s.heap.objs.size, upd H s.heap.objs.size (.dK (mergeK [] kvs)), I.laid (t' := tk) (fun b o e => kp b o (fun z => nomatch z) e) (Nat.le_refl _) (show ObjOk X.prog X.w _ _ _ (.dK (mergeK [] kvs)) from ⟨few, notS, merged [] prs, KV.merge rel .nil, hd'⟩), rfl, q _ (I.hok.fresh (Nat.le_refl _))⟩
end
/-! ### xs[a:] = ys as a target -/
section
open PySem.Spec
variable {prog : Program} {w : World} {A : Around} {E : Value → Shared → Prop} {s : Shared}
theorem tail_run {a n : Nat} (h : a ≤ n) : sliceBounds (some ((a : Nat) : Int)) none none n = (((a : Nat) : Int), ((n : Nat) : Int), 1) := by
  have low : ¬ ((a : Nat) : Int) < 0 := fun z => by omega
  unfold sliceBounds
  simp only [Option.getD_none, low, if_false, Int.one_pos, gt_iff_lt, if_true, Prod.mk.injEq, and_true]
  omega
set_option maxRecDepth 100000 in
theorem tail_slice {l b sl : Addr} {items new : Array Value} {n n2 a : Nat} {vl vu : Value} {Q : Unit → Shared → Prop} (e : s.heap.get? l = some { cls := .type "list", data := .seq items n }) (e2 : s.heap.get? b = some { cls := .type "list", data := .seq new n2 }) (hne : l ≠ b)
    (hs : s.heap.IsSliceOf sl vl vu .none) (pl : IsPart vl (some ((a : Nat) : Int))) (pu : IsPart vu none) (ha : a ≤ items.size) (hsz : items.size + new.size ≤ sizeLine) (h : Q () { s with heap := s.heap.update l (Obj.mapSeq fun xs => xs.extract 0 a ++ new ++ xs.extract items.size xs.size) }) : wpAny (model prog w) A (setItem (.ref l) (.ref sl) (.ref b)) Q E s := by
  have L := PySem.IsL.isList e; have B := PySem.IsL.isList e2
  obtain ⟨os, f1, f2, f3⟩ := id hs; have T : s.TypeIs (.ref sl) "slice" := ⟨os, f1, f2⟩
  have other : Builtin.List.listSameRef (.ref l) (.ref b) = false := beq_eq_false_iff_ne.mpr hne
  have z0 : items.size + new.size ≤ sizeLine := hsz
  have z1 : ((fun xs : Array Value => xs.extract 0 a ++ new ++ xs.extract items.size xs.size) items).size ≤ sizeLine + 1 := by simp only [Array.size_append, Array.size_extract]; omega
  have hmax : (max ((a : Nat) : Int) ((items.size : Nat) : Int)).toNat = items.size := by omega
  unfold setItem; try with_reducible refine wpAny_holding ?_
  (try refine wpAny_bind (wpAny_pure ?_)); refine wpAny_bind (wpAny_sequenceKey L.typeIs (by decide) ?_)
  refine wpAny_bind (wpAny_callSpecial?_slot (name := Str.ofString "__setitem__") L.typeIs slot_list_setitem (wpAny_call_entry slot_list_setitem L.typeIs entry_list_setitem ?_ (args_list_setitem _ _ _)))
  show wpAny _ _ (Builtin.List.listSubscript? (.ref sl) >>= _) _ _ s; refine wpAny_bind ?_
  unfold Builtin.List.listSubscript?; refine wpAny_bind (wpAny_specialOf T slice_no_index ?_)
  simp only [Option.isNone_none, if_true]; refine wpAny_pure ?_
  show wpAny _ _ (typeOf (.ref sl) >>= _) _ _ s; refine wpAny_bind (wpAny_typeOf T ?_)
  (first | rw [if_neg (by decide)] | refine PySem.W.KFB.if_not (by decide) ?_); rw [listSliceParts_eq]
  refine wpAny_bind (wpAny_bind (wpAny_field f1 f3 (x := .none) rfl (wpAny_bind (wpAny_listPart .none ?_)))); rw [if_neg (show ¬ ((rawPart none == rawInt 0) = true) from Bool.false_ne_true)]
  refine wpAny_bind (wpAny_field f1 f3 (x := vl) rfl (wpAny_bind (wpAny_listPart pl ?_))); refine wpAny_bind (wpAny_field f1 f3 (x := vu) rfl (wpAny_bind (wpAny_listPart pu (wpAny_pure ?_))))
  (first | simp only [other, Bool.false_eq_true, if_false] | refine PySem.W.KFB.if_not other ?_ | (dsimp only; rw [if_neg (by rw [other]; exact Bool.false_ne_true)]))
  refine wpAny_bind (m := Builtin.List.listAllItems (.ref b) "must assign iterable to extended slice") ?_; unfold Builtin.List.listAllItems
  refine wpAny_bind (wpAny_typeOf B.typeIs ?_); (first | refine PySem.W.KFB.if_so (by decide) ?_ | rw [if_pos (by decide)] | simp only [beq_self_eq_true, Bool.true_or, if_true])
  unfold Builtin.List.listItems; refine wpAny_bind (wpAny_seqItems e2 rfl (wpAny_pure ?_))
  refine wpAny_bind (wpAny_bind (wpAny_seqItems e rfl (wpAny_pure ?_))); refine wpAny_bind (wpAny_of_eq ((sliceIndices_raw (some ((a : Nat) : Int)) none none items.size (by simp)).trans (congrArg (pure : Int × Int × Int → Sem (Int × Int × Int)) (tail_run ha))) ?_)
  show wpAny _ _ (if ((1 : Int) == 1) = true then _ else _) _ _ s; rw [if_pos (by decide)]; refine wpAny_bind (wpAny_rule ?_)
  (first | simp only [notLongL z0, Bool.false_eq_true, if_false] | refine PySem.W.KFB.if_not (notLongL z0) ?_); (try refine wpAny_bind (wpAny_pure ?_))
  show wpAny _ _ (updateSeq l (fun xs => xs.extract 0 (((a : Nat) : Int)).toNat ++ new ++ xs.extract (max ((a : Nat) : Int) ((items.size : Nat) : Int)).toNat xs.size) >>= _) _ _ s
  rw [hmax, Int.toNat_natCast]
  refine wpAny_bind (wpAny_updateSeq (hz := Nat.le_trans (Nat.le_add_right _ _) hsz) (_hz' := z1) e rfl ?_); refine wpAny_bind (wpAny_letGo ?_)
  (first | exact wpAny_bind (wpAny_pure (wpAny_pure ⟨.none, rfl, wpAny_pure h⟩)) | exact wpAny_pure ⟨.none, rfl, wpAny_pure h⟩)
end
section
variable {X : Cx} {pos p2 : Pos}
theorem tail_at {pins : List (Addr × Obj)} {s : Shared} {σ : L2.St} {H : Hp} {l b sl : Addr} {xs ys : List V} {a : Int} {vl : Value} {Q : Unit → Shared → Prop} (I : Inv X pins σ H s) (hH : H l = some (.lst xs)) (hB : H b = some (.lst ys)) (hne : l ≠ b) (hs : s.heap.IsSliceOf sl vl .none .none) (ra : RelV (.int a) vl)
    (h0 : 0 ≤ a) (h1 : a ≤ xs.length) (hz : xs.length + ys.length ≤ sizeLine) (h : ∀ s', Inv X pins σ (upd H l (.lst (xs.take a.toNat ++ ys))) s' → Q () s') : wpAny (model X.prog X.w) X.A (setItem (.ref l) (.ref sl) (.ref b)) Q X.xe s := by
  obtain ⟨ta, rfl⟩ := ra
  obtain ⟨z, its, n, r, hl, e⟩ := I.lstM hH; obtain ⟨z2, its2, n2, r2, hl2, e2⟩ := I.lstM hB
  obtain ⟨b', rfl⟩ := Int.eq_ofNat_of_zero_le h0
  rw [show ((b' : Nat) : Int).toNat = b' from Int.toNat_natCast b'] at h
  refine tail_slice (a := b') e e2 hne hs (.int _ _) .none (by rw [List.size_toArray]; omega) (by rw [List.size_toArray, List.size_toArray]; omega) (h _ ?_)
  refine I.lset (its' := its.take b' ++ its2) (t' := s.toks) hH e ?_ (Vals.append (r.take _) r2) ?_
  · have := splice_eq its its2 b' its.toArray.size
    rw [show its.drop its.toArray.size = [] by rw [List.size_toArray, List.drop_length], List.append_nil] at this
    exact this
  · rw [List.length_append, List.length_take]
    omega
/-- o[lo:] = .. -/
def gSubT (to : TE) (tl : TO) : TG := fun v σ H Q => to σ H fun o H1 => tl σ H1 fun lo H2 => ∃ (p b : Addr) (xs ys : List V) (a : Int), o = .ref p ∧ v = .ref b ∧ lo = some a ∧ H2 p = some (.lst xs) ∧ H2 b = some (.lst ys) ∧ p ≠ b ∧
  0 ≤ a ∧ a ≤ xs.length ∧ xs.length + ys.length ≤ sizeLine ∧ Q σ (upd H2 p (.lst (xs.take a.toNat ++ ys)))
theorem pg_subT {o lo : Expr} {to : TE} {tl : TO} (ho : PE X o to) (hl : PO X (some lo) tl) (ha : ∀ v, assign (.Subscript o (.Slice (some lo) none none p2) pos) X.env v = (do
      let ov ← holding [v] (eval o X.env)
      let iv ← holding [v, ov] (eval (.Slice (some lo) none none p2) X.env)
      standAt pos
      holding [v, ov, iv] (setItem ov iv v)
      release [iv, v, ov] []) := by intro _; rfl) : PG X (.Subscript o (.Slice (some lo) none none p2) pos) (gSubT to tl) := by
  refine ⟨fun pins s σ H v u Q I r h => ?_⟩
  rw [ha]
  refine wpAny_bind (wpAny_holding (thn (ho.run pins s σ H _ I h) fun ov s1 ⟨x, H1, I1, r1, q1⟩ => ?_))
  refine wpAny_bind (wpAny_holding (wpAny_Slice (thn (hl.run pins s1 σ H1 _ I1 q1) fun vl s2 ⟨l, H2, I2, pl, q2⟩ => ?_)))
  rw [evalPart_none]
  refine wpAny_pure ?_
  refine wpAny_pure ?_
  have I4 : Inv X pins σ H2 { s2 with heap := s2.heap.push { cls := .type "slice", data := .fields #[vl, .none, .none] } } := I2.kept (t' := s2.toks) fun b ob q => Heap.get?_push_of_some _ q
  obtain ⟨p, b, xs, ys, a, rfl, rfl, rfl, g1, g2, g3, g4, g5, g6, g7⟩ := q2
  cases r1
  cases r
  refine wpAny_bind (wpAny_standAt (wpAny_bind (wpAny_holding ?_)))
  refine tail_at I4 g1 g2 g3 (Heap.IsSliceOf.new ..) ?_ g4 g5 g6 fun s' I5 => ?_
  · cases pl
    exact ⟨_, rfl⟩
  · exact wpAny_release ⟨σ, _, I5, g7⟩
end
/-! ### all(..), any(..) over anything that can be walked, whatever a def of ours does in the element -/
section
open PySem.Spec GxR GenW
/-- the table's growth, when the generator's code object was got -/
structure GotC (P : Addr) (ps : Array Value) (z z' : Shared) : Prop where
  same : z' = { z with heap := z'.heap, toks := z'.toks }
  ext : Heap.ExtBut P z.heap z'.heap
  tab : ∃ more, z'.heap.get? P = some { cls := .none, data := .fields (ps ++ more) } ∧ TriplesOk (ps ++ more).toList
theorem code_gotC {prog : Program} {w : World} {A : Around} {E : Value → Shared → Prop} {env : Env} {gpos : Pos} {nm : Str} {scope : Scope} {c P : Addr} {ps : Array Value} {z : Shared}
    (hcode : env.code = .ref c) (cd : PySem.W.CodeHd z.heap c P) (hP : z.heap.get? P = some { cls := .none, data := .fields ps }) (ht : TriplesOk ps.toList) :
    wpAny (model prog w) A (genexprCode env gpos nm scope) (fun _ z' => GotC P ps z z') E z := by
  cases among : codeAmong gpos ps.toList with
  | some cv => exact wpAny_genexprCode_hit hcode (cd.code hP ht) among ⟨rfl, .refl _ _, #[], by simpa using hP, by simpa using ht⟩
  | none =>
    refine wpAny_genexprCodeX hcode (cd.code hP ht) (cd.tab hP) among fun c' h' tk ext ge lt co _ tab _ => ?_
    obtain ⟨_, _, _, _, _, _, _, _, _, _, _, _, _, _, _, _, _, _, _, tr, _⟩ := co
    exact ⟨rfl, ext, _, tab.2, tr⟩
/-- the generator sleeps: others may have run generators, nothing else has changed -/
def Woke (s s' : Shared) : Prop := ∃ (g' : Array GenState) (tk : Nat), s' = { s with gens := g', toks := tk } ∧ AllBare g'
theorem Woke.trans {a b c : Shared} (h : Woke a b) (k : Woke b c) : Woke a c := by
  obtain ⟨g1, t1, rfl, _⟩ := h
  obtain ⟨g2, t2, rfl, b2⟩ := k
  exact ⟨g2, t2, rfl, b2⟩
theorem inv_woke {X : Cx} {pins : List (Addr × Obj)} {σ : L2.St} {H : Hp} {s s' : Shared} (I : Inv X pins σ H s) (k : Woke s s') : Inv X pins σ H s' := by
  obtain ⟨g', tk, rfl, b⟩ := k
  exact I.call (h' := s.heap) (d' := s.drawn) (ch := []) Un.refl I.hok b (fun _ z => nomatch z)
theorem bare_set {a : Array GenState} {g : Nat} {x : GenState} (h : AllBare a) (hx : x.bare = true) : AllBare (a.setIfInBounds g x) := fun y hy => by
  obtain ⟨i, hi, e⟩ := Array.mem_iff_getElem.mp hy
  rw [Array.getElem_setIfInBounds] at e
  · by_cases z : g = i
    · rw [if_pos z] at e
      rw [← e]; exact hx
    · rw [if_neg z] at e
      rw [← e]; exact h _ (Array.getElem_mem _)
  · rw [Array.size_setIfInBounds] at hi
    exact hi
/-- the context of a generator's frame: the objects at fp are its iterator's -/
abbrev gcx (X : Cx) (A' : Around) (N' : List Str) (s : Shared) (H : Hp) (cenv : Env) (fp : List Addr) (pn : List (Addr × Obj)) : Cx :=
  { X with A := A', N := N', s_0 := s, H_0 := H, env := cenv, outer := X.stack, stack := cenv :: X.stack, ex := fp, fn := fun _ => false, pn := pn, xe := fun _ _ => False }
/-- a generator's names: its own, and those that it takes from the def around it -/
structure GenN (X : Cx) (scope : Scope) (N' : List Str) (sg : L2.St → L2.St) : Prop where
  kind : scope.kind = .function
  co : scope.isCoroutine = false
  cell : ∀ y ∈ scope.names, y.2 ≠ .cell
  dot : scope.names.lookup (".0" : Str) = some NameKind.local
  free : ∀ y ∈ scope.names, y.2 = .free → X.env.scope.names.lookup y.1 = some .cell ∨ X.env.scope.names.lookup y.1 = some .free
  len : ∀ σ, (sg σ).length = N'.length
  took : ∀ σ (i : Nat) x v, N'[i]? = some x → (sg σ)[i]? = some (some v) → scope.names.lookup x = some .free ∧ ∃ j : Nat, X.N[j]? = some x ∧ σ[j]? = some (some v)
theorem gen_start {X : Cx} {pins : List (Addr × Obj)} {σ : L2.St} {H : Hp} {s : Shared} {scope : Scope} {N' : List Str} {sg : L2.St → L2.St} {A' : Around} {it : Value} {fp : List Addr} {code : Value} {h' : Heap} {go : Obj} {gens' : Array GenState} {tk : Nat}
    (I : Inv X pins σ H s) (S : GenN X scope N' sg) (hfp : ∀ b ∈ fp, FpOk X pins H b ∧ b < s.heap.objs.size)
    (hA : A'.frames = some (genEnv scope (cloFrom X.env.cells scope.names []) s.heap.objs.size code builtinsNs X.env :: X.stack)) (hh : A'.handled = none)
    (hn : h'.Ns s.heap.objs.size (fun y => if y = ".0" then some it else none)) (sb : Heap.SameBut s.heap.objs.size (s.heap.push { cls := .type "frame", data := .dict #[] }) h') (hd : ∀ v, go.data ≠ .cell v)
    (hpush : (h'.push go).get? h'.objs.size = some go) (bare : AllBare gens') :
    Inv (gcx X A' N' s H (genEnv scope (cloFrom X.env.cells scope.names []) s.heap.objs.size code builtinsNs X.env) fp [(h'.objs.size, go)]) [] (sg σ) H { s with gens := gens', toks := tk, heap := h'.push go } := by
  have sz : h'.objs.size = s.heap.objs.size + 1 := by rw [sb.1, Heap.size_push]
  have keep : ∀ b o, s.heap.get? b = some o → (h'.push go).get? b = some o := fun b o e => Heap.get?_push_of_some _ (sb.extBut b o (Nat.ne_of_lt (Heap.lt_size e)) (Heap.get?_push_of_some _ e))
  have has : ∀ y ∈ scope.names, y.2 = .free → ∃ c, X.env.cells.lookup y.1 = some c := fun y hy e => I.ok.has _ ((S.free y hy e).elim .inl .inr)
  have look : ∀ {x : Str} {c : Addr}, (cloFrom X.env.cells scope.names []).lookup x = some c → (x, NameKind.free) ∈ scope.names ∧ X.env.cells.lookup x = some c := fun {x c} e => by
    rcases cloFrom_mem (PySem.mem_of_lookup e) with z | ⟨z1, z2⟩
    · cases z
    · obtain ⟨c', e'⟩ := has _ z1 rfl
      rw [e'] at z2
      exact ⟨z1, by rw [e', z2]; rfl⟩
  have find : ∀ {x : Str}, scope.names.lookup x = some .free → ∃ c, (cloFrom X.env.cells scope.names []).lookup x = some c := fun {x} e => mem_lookup (cloFrom_has (PySem.mem_of_lookup e))
  have apart : ∀ b, s.heap.objs.size ≤ b → b ∉ frs X.stack := fun b hb m => by
    rcases List.mem_cons.mp (I.stkSub b m) with z | z
    · exact absurd (Nat.lt_of_lt_of_le I.lt (z ▸ hb)) (Nat.lt_irrefl _)
    · exact I.nofs hb z
  refine ⟨⟨I.ok.mod, S.kind, I.ok.glob, rfl, Nat.le_refl _, fun x y c h1 h2 => I.ok.inj x y c (look h1).2 (look h2).2, fun x hx => ?_, (fun x c h _ => nomatch h), fun _ => hh, hA, .inr ⟨rfl, rfl⟩, fun b hb => ⟨Nat.ne_of_lt (hfp b hb).2, fun x c e => (hfp b hb).1.2.2.2.2.1 x c (look e).2⟩, I.bs, Nat.le_trans I.ok.bsz I.sz, fun b o e hb => ?_, fun b hb m => ?_, I.stack, I.stkFree⟩,
    rfl, bare, Un.kept keep, ⟨_, hn.push _, fun i x v h1 h2 h3 => ?_⟩, fun x c e => ?_, I.hok.fresh (Nat.le_refl _), fun x c e => I.freeC x c (look e).2, fun p hp => ?_, I.hok.kept keep, S.len σ⟩
  · rcases hx with hx | hx
    · exact absurd rfl (S.cell _ (PySem.mem_of_lookup (show scope.names.lookup x = some .cell from hx)))
    · exact find hx
  · rcases (hfp b hb).1.2.2.2.1 with z | z
    · exact I.ok.noex b o e z
    · exact absurd (Nat.lt_of_lt_of_le (Heap.lt_size e) (Nat.le_trans I.ok.bsz z)) (Nat.lt_irrefl _)
  · rcases List.mem_cons.mp (I.stkSub b m) with z | z
    · exact (hfp b hb).1.2.1 z
    · exact (hfp b hb).1.2.2.1 z
  · obtain ⟨fr, j, e1, e2⟩ := S.took σ i x v h1 h2
    have kn := S.free _ (PySem.mem_of_lookup fr) rfl
    obtain ⟨m0, _, hl⟩ := I.loc
    obtain ⟨u, r, lk⟩ := hl j x v e1 e2 (kn.elim (fun z => .inr (.inl z)) (fun z => .inr (.inr z)))
    refine ⟨u, r, ?_⟩
    rcases lk with ⟨z, _⟩ | ⟨_, c, ec, ic⟩
    · have z : X.env.scope.names.lookup x = some .local := z
      rcases kn with k | k <;> rw [k] at z <;> cases z
    · obtain ⟨c', e'⟩ := find fr
      have e3 := (look e').2
      rw [ec] at e3
      obtain rfl := Option.some.inj e3
      obtain ⟨o, ho, hc⟩ := ic
      exact .inr ⟨.inr fr, _, e', o, keep _ _ ho, hc⟩
  · obtain ⟨v, o, ho, hc⟩ := I.cell x c (look e).2
    exact ⟨v, o, keep _ _ ho, hc⟩
  · have hp : p ∈ [(h'.objs.size, go)] ++ ([] : List (Addr × Obj)) := hp
    rw [List.append_nil, List.mem_singleton] at hp
    subst hp
    exact ⟨hpush, I.hok.fresh (by rw [sz]; exact Nat.le_succ _), by show h'.objs.size ≠ s.heap.objs.size; rw [sz]; exact Nat.succ_ne_self _, apart _ (by rw [sz]; exact Nat.le_succ _), hd⟩
end
section
open PySem.Spec GxR GenW
variable {X : Cx} {A2 : Around} {N' : List Str} {s0 : Shared} {H0 : Hp} {cenv : Env} {fp : List Addr} {pn : List (Addr × Obj)} {tg elt iter : Expr} {scope : Scope} {gpos : Pos} {it : Addr}
/-- the around of a generator's turn -/
abbrev genA (A2 : Around) (tg elt iter : Expr) (scope : Scope) (gpos : Pos) (it : Addr) (cenv : Env) : Around := A2.over (.compLoop (.GeneratorExp elt [⟨tg, iter, [], 0⟩] scope gpos) 0 (.ref it) .none cenv) []
/-- what a generator tells at its end -/
def genR (G : Cx) (sgσ : L2.St) (kp : Bool) (Q : Bool → Hp → Prop) : GenEnd := fun _ _ r s1 => r = .ok .next ∧ ∃ H, Inv G [] sgσ H s1 ∧ Q kp H
/-- what it hands out: a truth; the truth kp, and it may be woken again -/
def genY (G : Cx) (sgσ : L2.St) (kp : Bool) (Q : Bool → Hp → Prop) : Protocol := fun _ _ v s1 kap => ∃ b H, v = .bool b ∧ Inv G [] sgσ H s1 ∧ (b ≠ kp → Q b H) ∧ (b = kp → ∀ s2, Woke s1 s2 → kap (.send .none) s2)
theorem gen_loop {J : It} {tn : Nat → Heap → Prop} {g : TG} {te : TE} {sgσ : L2.St} {vs : List Nat} {kp : Bool} {Q : Bool → Hp → Prop} {W : Nat → Nat → Hp → Prop}
    (T : Turn X.prog X.w X.K tg J fp it tn) (hc : X.calm = true) (hco : cenv.scope.isCoroutine = false) (hpn : ∀ p ∈ pn, ∀ b ∈ fp, p.1 ≠ b)
    (pg : L2.PG (gcx X (genA A2 tg elt iter scope gpos it cenv) N' s0 H0 cenv fp pn) tg g) (pe : L2.PE (gcx X (genA A2 tg elt iter scope gpos it cenv) N' s0 H0 cenv fp pn) elt te)
    (turn : ∀ i m H, W i m H → (J.stop i H ∧ Q kp H) ∨ (J.go i H ∧ ∃ Nx : Hp → Prop, (∀ H', Nx H' → ∃ m', m' < m ∧ W (i + 1) m' H') ∧ ∀ x H', J.yld i H x H' → g x sgσ H' fun σ2 H2 => wipe σ2 vs = sgσ ∧ te σ2 H2 fun y H3 => ∃ b, y = .bl b ∧ (b ≠ kp → Q b H3) ∧ (b = kp → Nx H3))) :
    ∀ (n i m : Nat) (s₀ s : Shared) (H : Hp), m < n → Inv (gcx X (genA A2 tg elt iter scope gpos it cenv) N' s0 H0 cenv fp pn) [] sgσ H s → tn i s.heap → (∀ b ∈ fp, H b = none) → W i m H →
      Seg (model X.prog X.w) A2 (genR (gcx X (genA A2 tg elt iter scope gpos it cenv) N' s0 H0 cenv fp pn) sgσ kp Q) (genY (gcx X (genA A2 tg elt iter scope gpos it cenv) N' s0 H0 cenv fp pn) sgσ kp Q) n s₀
        (.compLoop (.GeneratorExp elt [⟨tg, iter, [], 0⟩] scope gpos) 0 (.ref it) .none cenv) ((model X.prog X.w).den (.compLoop (.GeneratorExp elt [⟨tg, iter, [], 0⟩] scope gpos) 0 (.ref it) .none cenv)) [] s := by
  have stat : ∀ {σ' : L2.St} {H' : Hp} {s' : Shared}, Inv (gcx X (genA A2 tg elt iter scope gpos it cenv) N' s0 H0 cenv fp pn) [] σ' H' s' → (∀ b ∈ fp, H' b = none) → ∀ b ∈ fp, FpOk (gcx X (genA A2 tg elt iter scope gpos it cenv) N' s0 H0 cenv fp pn) [] H' b := fun {σ' H' s'} I' hn b hb =>
    ⟨hn b hb, (I'.ok.exf b hb).1, I'.ok.exfs b hb, .inl hb, fun x c e => (I'.ok.exf b hb).2 x c e, fun p hp => hpn p (by simpa using hp) b hb⟩
  intro n
  induction n with
  | zero => intro i m s₀ s H h; exact absurd h (Nat.not_lt_zero _)
  | succ n ih =>
    intro i m s₀ s H hm I st nf w
    show Seg _ A2 _ _ _ s₀ _ ((compTurn (.GeneratorExp elt [⟨tg, iter, [], 0⟩] scope gpos) 0 (.ref it) .none cenv).onRaise (leaving cenv)) [] s
    rw [compTurn_gen, Sem.onRaise_eq_wrap]
    refine seg_bind_wrap (wpAny_standAt ?_)
    rcases turn i m H w with ⟨stop, q⟩ | ⟨go, Nx, hNx, step⟩
    · refine seg_bind_wrap (wpAny_mono (T.done (gcx X (genA A2 tg elt iter scope gpos it cenv) N' s0 H0 cenv fp pn) rfl rfl rfl hc i [] s _ H (fun _ _ => False) I (stat I nf) st stop) (fun r s6 ⟨hr, I6⟩ => ?_) fun _ _ z => z.elim)
      subst hr
      exact seg_end (.ok .next) ⟨rfl, H, I6, q⟩
    · refine seg_bind_wrap (wpAny_mono (T.item (gcx X (genA A2 tg elt iter scope gpos it cenv) N' s0 H0 cenv fp pn) rfl rfl rfl hc i [] s _ H (fun _ _ => False) I (stat I nf) st go) (fun r s6 ⟨u, hr, h6⟩ => ?_) fun _ _ z => z.elim)
      subst hr
      refine seg_bind_wrap (wpAny_mono h6 (fun _ s7 ⟨x, H7, I7, r7, y7, st7, n7⟩ => ?_) fun _ _ z => z.elim)
      have I7' := I7.pinned (stat I7 n7) (T.obj _ _ st7)
      refine seg_bind_wrap (wpAny_mono (pg.run _ s7 _ H7 x u _ I7' r7 (step x H7 y7)) (fun _ s8 ⟨σ8, H8, I8, hw8, q8⟩ => ?_) fun _ _ z => z.elim)
      refine seg_bind_wrap ?_
      rw [List.forIn_nil]
      refine wpAny_pure ?_
      simp only [if_true]
      have hy : ∀ v, yieldOut cenv v = yieldValue v := fun v => by simp only [yieldOut, hco, Bool.false_eq_true, if_false]
      simp only [hy]
      rw [Sem.bind_eq_wrap', Sem.bind_eq_wrap', Sem.wrap_wrap, Sem.wrap_wrap]
      refine seg_wrap (wpAny_mono (pe.run _ s8 σ8 H8 _ I8 q8) (fun z s9 ⟨yv, H9, I9, r9, b, ey, no, yes⟩ => ?_) fun _ _ z => z.elim)
      subst ey
      obtain rfl : z = .bool b := r9
      have pin' : ∀ b ∈ fp, ∀ o, s7.heap.get? b = some o → s9.heap.get? b = some o ∧ H9 b = none := fun b hb o e =>
        let z := I9.pin (b, o) (List.mem_append_right _ (List.mem_append_right _ (mem_pinsAt hb e)))
        ⟨z.1, z.2.1⟩
      have hl : sgσ.length = σ8.length := by rw [← hw8, wipe_length]
      have I10 : Inv (gcx X (genA A2 tg elt iter scope gpos it cenv) N' s0 H0 cenv fp pn) [] sgσ H9 s9 := (I9.unpinned (pins := [])).weak hl fun j v e => by
        rw [← hw8] at e
        exact (wipe_some e).1
      have st9 := T.keep _ _ _ st7 fun b hb o e => (pin' b hb o e).1
      have n9 : ∀ b ∈ fp, H9 b = none := fun b hb => by
        obtain ⟨o, e, _⟩ := T.obj _ _ st7 b hb
        exact (pin' b hb o e).2
      refine seg_at (seg_yield rfl rfl rfl ⟨b, H9, rfl, I10, no, fun eb s2 wk => ?_⟩)
      obtain ⟨m', lt, w'⟩ := hNx H9 (yes eb)
      have I2 := inv_woke I10 wk
      obtain ⟨g', tk, rfl, _⟩ := wk
      exact seg_again rfl (ih (i + 1) m' _ _ H9 (by omega) I2 st9 n9 w')
end
section
open PySem.Spec GxR GenW
variable {X : Cx} {A2 : Around} {N' : List Str} {s0 : Shared} {H0 : Hp} {cenv : Env} {fp : List Addr} {pn : List (Addr × Obj)} {tg elt iter : Expr} {scope : Scope} {gpos : Pos} {it : Addr}
theorem gen_begin {J : It} {tn : Nat → Heap → Prop} {R : GenEnd} {Y : Protocol} {n : Nat} {s₀ s : Shared} (T : Turn X.prog X.w X.K tg J fp it tn) (st : tn 0 s.heap)
    (loop : Seg (model X.prog X.w) A2 R Y n s₀ (.compLoop (.GeneratorExp elt [⟨tg, iter, [], 0⟩] scope gpos) 0 (.ref it) .none cenv) ((model X.prog X.w).den (.compLoop (.GeneratorExp elt [⟨tg, iter, [], 0⟩] scope gpos) 0 (.ref it) .none cenv)) [] s) :
    Seg (model X.prog X.w) A2 R Y n s₀ (.compStart (.GeneratorExp elt [⟨tg, iter, [], 0⟩] scope gpos) 0 (.ref it) .none cenv) ((model X.prog X.w).den (.compStart (.GeneratorExp elt [⟨tg, iter, [], 0⟩] scope gpos) 0 (.ref it) .none cenv)) [] s := by
  show Seg _ A2 _ _ _ s₀ _ ((compStart (.GeneratorExp elt [⟨tg, iter, [], 0⟩] scope gpos) 0 (.ref it) .none cenv).onRaise (leaving cenv)) [] s
  unfold compStart
  rw [Sem.onRaise_eq_wrap]
  show Seg _ A2 _ _ _ s₀ _ ((ask >>= _).wrap _ _ _ _) [] s
  refine seg_bind_wrap (wpAny_askSetting ?_)
  split
  · exact seg_again rfl loop
  · refine seg_bind_wrap (wpAny_rule (seg_bind_wrap (wpAny_standAt (seg_bind_wrap (T.self _ 0 s _ _ st (seg_again rfl loop))))))
/-- a generator asleep, that may be woken n times more -/
structure Asleep (X : Cx) (A2 : Around) (G : Cx) (sgσ : L2.St) (kp : Bool) (Q : Bool → Hp → Prop) (a : Addr) (k : Nat) (n : Nat) (s : Shared) : Prop where
  inv : ∃ H, Inv G [] sgσ H s
  is : ∀ {s' : Shared} {H' : Hp}, Inv G [] sgσ H' s' → s'.heap.IsGen a k
  at_ : ∃ gs, s.gens[k]? = some gs ∧ ∀ s2, Woke s s2 → gs.Goes (model X.prog X.w) A2 (genR G sgσ kp Q) (genY G sgσ kp Q) n (.send .none) s2
theorem setGen_woke {s : Shared} {k : Nat} {x : GenState} (h : AllBare s.gens) (hx : x.bare = true) : Woke s (s.setGen k x) := ⟨_, s.toks, rfl, bare_set h hx⟩
theorem setGen_at {s : Shared} {k : Nat} {x : GenState} (h : k < s.gens.size) : (s.setGen k x).gens[k]? = some x := by
  show (s.gens.setIfInBounds k x)[k]? = some x
  rw [Array.getElem?_setIfInBounds_self, if_pos h]
theorem gen_next {A : Around} {G : Cx} {sgσ : L2.St} {kp : Bool} {Q : Bool → Hp → Prop} {a : Addr} {k n : Nat} {s : Shared} {R : Option Value → Shared → Prop} {E : Value → Shared → Prop} (hh : A.handled = none) (hd : A.depth < recursionLimit) (z : Asleep X A.in1 G sgσ kp Q a k n s)
    (yes : ∀ n' s', n = n' + 1 → Asleep X A.in1 G sgσ kp Q a k n' s' → R (some (.bool kp)) s')
    (no : ∀ b H s', b ≠ kp → Inv G [] sgσ H s' → Q b H → R (some (.bool b)) s') (done : ∀ H s', Inv G [] sgσ H s' → Q kp H → R none s') : wpAny (model X.prog X.w) A (pyNext (.ref a)) R E s := by
  obtain ⟨H0, I0⟩ := z.inv
  obtain ⟨gs, hgs, hgo⟩ := z.at_
  have ks : k < s.gens.size := by
    rcases Nat.lt_or_ge k s.gens.size with h | h
    · exact h
    · rw [Array.getElem?_eq_none h] at hgs; cases hgs
  refine wpAny_gsz (n := k + 1) ks ?_
  refine wpAny_pyNext_genexpQ (P := fun _ _ s1 => ∃ H, Inv G [] sgσ H s1 ∧ Q kp H) (Y := genY G sgσ kp Q) hh I0.nolimit hd (z.is I0) hgs (hgo _ (setGen_woke I0.bare rfl)) (fun v s1 gs' hb hy => ?_) fun s1 ⟨H, I, q⟩ h' hk _ => ?_
  · obtain ⟨b, H, rfl, I, stop, on⟩ := hy
    have wk := setGen_woke (k := k) I.bare hb
    intro sz
    have sz : k < s1.gens.size := by
      have e : (s1.setGen k gs').gens.size = s1.gens.size := setGen_size ..
      rw [e] at sz
      exact sz
    by_cases eb : b = kp
    · subst eb
      have on := on rfl
      cases n with
      | zero => exact (on s1 ⟨s1.gens, s1.toks, rfl, I.bare⟩).elim
      | succ n' => exact yes n' _ rfl ⟨⟨H, inv_woke I wk⟩, z.is, gs', setGen_at sz, fun s2 w2 => on s2 (wk.trans w2)⟩
    · exact no b H _ eb (inv_woke I wk) (stop eb)
  · have J : Inv G [] sgσ H { s1.setGen k .finished with heap := h' } := by
      have J1 := inv_woke I (setGen_woke (k := k) (x := .finished) I.bare rfl)
      exact J1.kept (t' := s1.toks) hk
    exact done H _ J q
theorem all_loop {A : Around} {G : Cx} {sgσ : L2.St} {Q : Bool → Hp → Prop} {a : Addr} {k : Nat} (hh : A.handled = none) (hd : A.depth < recursionLimit) :
    ∀ (n : Nat) (s : Shared), Asleep X A.in1.in1 G sgσ true Q a k n s → codeAny (model X.prog X.w) A (.builtin "all.loop" ⟨[.ref a], []⟩) (fun r s' => ∃ b H, r = .ok (.ret (.bool b)) ∧ Inv G [] sgσ H s' ∧ Q b H) s := by
  intro n
  induction n with
  | zero =>
    intro s z
    refine codeAny_builtin F.entry_all_loop ?_
    rw [Around.under_plainId F.plain_all_loop _]
    show wpAny _ A.in1 (pyNext (.ref a) >>= _) _ _ s
    refine wpAny_bind (gen_next (A := A.in1) hh hd z (fun n' s' e => nomatch e) (fun b H s' eb I q => ?_) fun H s' I q => ?_)
    · obtain rfl : b = false := by cases b <;> first | rfl | exact absurd rfl eb
      refine wpAny_bind (wpAny_holding (wpAny_truthy_bool ?_))
      refine wpAny_bind (wpAny_letGo ?_)
      simp only [Bool.false_eq_true, if_false]
      exact wpAny_bind (wpAny_rule (wpAny_pure ⟨false, H, rfl, I, q⟩))
    · exact wpAny_bind (wpAny_rule (wpAny_pure ⟨true, H, rfl, I, q⟩))
  | succ n ih =>
    intro s z
    refine codeAny_builtin F.entry_all_loop ?_
    rw [Around.under_plainId F.plain_all_loop _]
    show wpAny _ A.in1 (pyNext (.ref a) >>= _) _ _ s
    refine wpAny_bind (gen_next (A := A.in1) hh hd z (fun n' s' e z' => ?_) (fun b H s' eb I q => ?_) fun H s' I q => ?_)
    · obtain rfl : n' = n := by omega
      refine wpAny_bind (wpAny_holding (wpAny_truthy_bool ?_))
      refine wpAny_bind (wpAny_letGo ?_)
      simp only [if_true]
      exact wpAny_pure ⟨plainId_quiet F.plain_all_loop _, ih _ z'⟩
    · obtain rfl : b = false := by cases b <;> first | rfl | exact absurd rfl eb
      refine wpAny_bind (wpAny_holding (wpAny_truthy_bool ?_))
      refine wpAny_bind (wpAny_letGo ?_)
      simp only [Bool.false_eq_true, if_false]
      exact wpAny_bind (wpAny_rule (wpAny_pure ⟨false, H, rfl, I, q⟩))
    · exact wpAny_bind (wpAny_rule (wpAny_pure ⟨true, H, rfl, I, q⟩))
theorem any_loop {A : Around} {G : Cx} {sgσ : L2.St} {Q : Bool → Hp → Prop} {a : Addr} {k : Nat} (hh : A.handled = none) (hd : A.depth < recursionLimit) :
    ∀ (n : Nat) (s : Shared), Asleep X A.in1.in1 G sgσ false Q a k n s → codeAny (model X.prog X.w) A (.builtin "any.loop" ⟨[.ref a], []⟩) (fun r s' => ∃ b H, r = .ok (.ret (.bool b)) ∧ Inv G [] sgσ H s' ∧ Q b H) s := by
  intro n
  induction n with
  | zero =>
    intro s z
    refine codeAny_builtin F.entry_any_loop ?_
    rw [Around.under_plainId F.plain_any_loop _]
    show wpAny _ A.in1 (pyNext (.ref a) >>= _) _ _ s
    refine wpAny_bind (gen_next (A := A.in1) hh hd z (fun n' s' e => nomatch e) (fun b H s' eb I q => ?_) fun H s' I q => ?_)
    · obtain rfl : b = true := by cases b <;> first | rfl | exact absurd rfl eb
      refine wpAny_bind (wpAny_holding (wpAny_truthy_bool ?_))
      refine wpAny_bind (wpAny_letGo ?_)
      simp only [if_true]
      exact wpAny_bind (wpAny_rule (wpAny_pure ⟨true, H, rfl, I, q⟩))
    · exact wpAny_bind (wpAny_rule (wpAny_pure ⟨false, H, rfl, I, q⟩))
  | succ n ih =>
    intro s z
    refine codeAny_builtin F.entry_any_loop ?_
    rw [Around.under_plainId F.plain_any_loop _]
    show wpAny _ A.in1 (pyNext (.ref a) >>= _) _ _ s
    refine wpAny_bind (gen_next (A := A.in1) hh hd z (fun n' s' e z' => ?_) (fun b H s' eb I q => ?_) fun H s' I q => ?_)
    · obtain rfl : n' = n := by omega
      refine wpAny_bind (wpAny_holding (wpAny_truthy_bool ?_))
      refine wpAny_bind (wpAny_letGo ?_)
      simp only [Bool.false_eq_true, if_false]
      exact wpAny_pure ⟨plainId_quiet F.plain_any_loop _, ih _ z'⟩
    · obtain rfl : b = true := by cases b <;> first | rfl | exact absurd rfl eb
      refine wpAny_bind (wpAny_holding (wpAny_truthy_bool ?_))
      refine wpAny_bind (wpAny_letGo ?_)
      simp only [if_true]
      exact wpAny_bind (wpAny_rule (wpAny_pure ⟨true, H, rfl, I, q⟩))
    · exact wpAny_bind (wpAny_rule (wpAny_pure ⟨false, H, rfl, I, q⟩))
end
section
open PySem.Spec GxR GenW
/-- all (kp true), any (kp false): over what comes, g puts it under its names, te tells the element; the table at P may grow -/
def tQuant (kp : Bool) (P : Addr) (wi : TI) (sg : L2.St → L2.St) (g : TG) (te : TE) (vs : List Nat) : TE := fun σ H Q => wi σ H fun J H1 => TabG H1 P ∧ ∀ H2, Tabbed P H1 H2 → ∃ W : Nat → Nat → Hp → Prop, (∃ m, W 0 m H2) ∧ ∀ i m H, W i m H →
  (J.stop i H ∧ Q (.bl kp) H) ∨ (J.go i H ∧ ∃ Nx : Hp → Prop, (∀ H', Nx H' → ∃ m', m' < m ∧ W (i + 1) m' H') ∧ ∀ x H', J.yld i H x H' → g x (sg σ) H' fun σ2 H3 => wipe σ2 vs = sg σ ∧ te σ2 H3 fun y H4 => ∃ b, y = .bl b ∧ (b ≠ kp → Q (.bl b) H4) ∧ (b = kp → Nx H4))
theorem over_gen {A : Around} {elt tg iter : Expr} {scope : Scope} {gpos : Pos} {it acc : Value} {cenv : Env} : A.over (.compLoop (.GeneratorExp elt [⟨tg, iter, [], 0⟩] scope gpos) 0 it acc cenv) [] = A.deeper cenv := by
  first
    | rfl
    | (obtain ⟨hd, d, fr, gs, u⟩ := A; simp [Around.over, Around.deeper, marksOver, frameCount, unitsOf, envsOf, guardsOf, pushEnvs, pushGuards, Code.envs, Code.env?, Code.isFrame, Code.guards, Code.isGuard, Code.weight, Code.frames, Code.isCreation, Code.isCaller, Code.cUnits])
theorem gen_made {X : Cx} {c P : Addr} {elt iter tg : Expr} {scope : Scope} {gpos : Pos} {N' : List Str} {sg : L2.St → L2.St} {kp : Bool} {wi : TI} {g : TG} {te : TE} {vs : List Nat} {k : Nat} {pins : List (Addr × Obj)} {σ : L2.St} {H : Hp} {s : Shared} {Q : VK}
    (hr : Room (k + 1) X.A) (hc : X.calm = true) (TB : TabB X.base X.mg c P) (hcode : X.env.code = .ref c) (S : GenN X scope N' sg) (hi : L2.PI X tg iter wi) (hs : ∀ v, genFold iter X.env v = pure v)
    (pg : ∀ (A' : Around) (s : Shared) (H : Hp) (cl : List (Str × Addr)) (C bi : Addr) (code : Value) (fp : List Addr) (pn : List (Addr × Obj)), Room k A' → L2.PG (gcx X A' N' s H (genEnv scope cl C code bi X.env) fp pn) tg g)
    (pe : ∀ (A' : Around) (s : Shared) (H : Hp) (cl : List (Str × Addr)) (C bi : Addr) (code : Value) (fp : List Addr) (pn : List (Addr × Obj)), Room k A' → L2.PE (gcx X A' N' s H (genEnv scope cl C code bi X.env) fp pn) elt te)
    (I : Inv X pins σ H s) (h : tQuant kp P wi sg g te vs σ H Q) :
    wpAny (model X.prog X.w) X.A (eval (.GeneratorExp elt [⟨tg, iter, [], 0⟩] scope gpos) X.env) (fun gv z => ∃ (a : Addr) (kk n : Nat) (G : Cx), gv = .ref a ∧ Asleep X X.A.in1.in1 G (sg σ) kp (fun b H' => Q (.bl b) H') a kk n z ∧ ∀ s' b H', Inv G [] (sg σ) H' s' → Q (.bl b) H' → EP X pins σ Q (.bool b) s') X.xe s := by
  have has : ∀ y ∈ scope.names, y.2 = .free → ∃ c, X.env.cells.lookup y.1 = some c := fun y hy e => I.ok.has _ ((S.free y hy e).elim .inl .inr)
  refine wpAny_GeneratorExp_make S.co (closure_ok has) S.cell S.dot S.kind (by have := hr.dp; omega) ?_ hs
  refine thn (hi.run pins s σ H _ I h) fun xv s1 hx => thn hx fun itv s2 ⟨it, fp, tn, J, H2, ei, I2, T, st2, f2, ⟨ps, hP, tri⟩, q⟩ => ?_
  subst ei
  have tabP : s2.heap.get? P = some { cls := .none, data := .fields ps } := I2.hok P _ hP
  refine ⟨I2.nolimit, thn (code_gotC (ps := ps) hcode (TB.code.keeps fun b o e => I2.bk b o e) tabP tri) fun code s3 got => ?_⟩
  obtain ⟨eq3, ext, more, hP3, tri3⟩ := got
  obtain ⟨h3, g3, d3, t3, o3⟩ := s3
  obtain ⟨rfl, rfl, rfl⟩ : g3 = s2.gens ∧ d3 = s2.drawn ∧ o3 = s2.os := by
    have := eq3
    simp only [Shared.mk.injEq] at this
    exact ⟨this.2.1, this.2.2.1, this.2.2.2.2⟩
  replace ext : Heap.ExtBut P s2.heap h3 := ext
  replace hP3 : h3.get? P = some { cls := .none, data := .fields (ps ++ more) } := hP3
  have kept : ∀ b o, b ≠ P → s2.heap.get? b = some o → h3.get? b = some o := fun b o nb e => ext b o nb e
  have neP : ∀ b ∈ fp, b ≠ P := fun b hb e => by
    have := (f2 b hb).1
    rw [e, hP] at this
    cases this
  have I3 : Inv X pins σ (upd H2 P (.tbl (ps ++ more))) { s2 with heap := h3, toks := t3 } := inv_tab (more := more) (h' := h3) (g' := s2.gens) (d' := s2.drawn) (t' := t3) I2 hP kept hP3 I2.bare
  have tb : Tabbed P H2 (upd H2 P (.tbl (ps ++ more))) := ⟨⟨_, upd_same, tri3⟩, fun b nb => upd_ne nb⟩
  obtain ⟨W, ⟨m0, w0⟩, turn⟩ := q _ tb
  have st3 : tn 0 h3 := T.keep _ _ _ st2 fun b hb o e => kept b o (neP b hb) e
  have n3 : ∀ b ∈ fp, upd H2 P (.tbl (ps ++ more)) b = none := fun b hb => by rw [upd_ne (neP b hb)]; exact (f2 b hb).1
  have f3 : ∀ b ∈ fp, FpOk X pins (upd H2 P (.tbl (ps ++ more))) b ∧ b < h3.objs.size := fun b hb => by
    obtain ⟨o, e, _⟩ := T.obj _ _ st3 b hb
    exact ⟨⟨n3 b hb, (f2 b hb).2⟩, Heap.lt_size e⟩
  generalize upd H2 P (.tbl (ps ++ more)) = H3 at *
  obtain ⟨bm, ob, b1, b2, b3, b4, b5, b6, b7, b8⟩ := TB.bm
  refine wpAny_builtinsFor (m := X.mg) (by rw [I2.ok.glob]; exact (I2.mod.glob.keeps fun b o e => I2.bk b o e).extBut ext TB.gP) b1 b2 (kept _ _ b4 (I2.bk _ _ b5)) b6 b7 b8 ?_
  intro h' hn' sb'
  have sz : h'.objs.size = h3.objs.size + 1 := by
    have := sb'.1
    rw [this, Heap.size_push]
  generalize ego : ({ cls := .type "generator", data := .fields #[.int s2.gens.size 0, .str "<genexpr>" (t3 + 1), .str (X.env.qual ++ "<genexpr>") (t3 + 1 + 1)] } : Obj) = go
  have hpush : (h'.push go).get? h'.objs.size = some go := by
    rw [← ego]
    exact Heap.get?_push_size _ rfl
  have hgen : ∀ hh : Heap, hh.get? h'.objs.size = some go → hh.IsGen h'.objs.size s2.gens.size := fun hh e => by
    rw [← ego] at e
    exact ⟨_, _, _, e, rfl, rfl, rfl⟩
  have hd : ∀ v, go.data ≠ .cell v := fun v z => by rw [← ego] at z; cases z
  have hbare : AllBare (s2.gens.push (.fresh (.compStart (.GeneratorExp elt [⟨tg, iter, [], 0⟩] scope gpos) 0 (.ref it) .none (genEnv scope (cloFrom X.env.cells scope.names []) h3.objs.size code builtinsNs X.env)))) := AllBare.push I2.bare rfl
  have hA : (genA X.A.in1.in1 tg elt iter scope gpos it (genEnv scope (cloFrom X.env.cells scope.names []) h3.objs.size code builtinsNs X.env)).frames = some (genEnv scope (cloFrom X.env.cells scope.names []) h3.objs.size code builtinsNs X.env :: X.stack) := by
    rw [show genA X.A.in1.in1 tg elt iter scope gpos it _ = _ from over_gen]
    exact Around.frames_deeper I3.ok.frames
  have hroom : Room k (genA X.A.in1.in1 tg elt iter scope gpos it (genEnv scope (cloFrom X.env.cells scope.names []) h3.objs.size code builtinsNs X.env)) := by
    rw [show genA X.A.in1.in1 tg elt iter scope gpos it _ = _ from over_gen]
    refine ⟨hr.hd, ?_, ?_⟩
    · have := hr.dp
      show X.A.depth + 1 + 3 * k + 5 < _
      omega
    · have := hr.un
      show X.A.units + 1 + 1 + 3 + 16 * k + 200 < _
      omega
  have I4 := gen_start (tk := t3 + 1 + 1 + 1) (gens' := s2.gens.push (.fresh (.compStart (.GeneratorExp elt [⟨tg, iter, [], 0⟩] scope gpos) 0 (.ref it) .none (genEnv scope (cloFrom X.env.cells scope.names []) h3.objs.size code builtinsNs X.env)))) I3 S f3 hA hr.hd hn' sb' hd hpush hbare
  have hpn : ∀ p ∈ [(h'.objs.size, go)], ∀ b ∈ fp, p.1 ≠ b := fun p hp b hb e => by
    rw [List.mem_singleton.mp hp] at e
    have := (f3 b hb).2
    rw [← e] at this
    have this : h'.objs.size < h3.objs.size := this
    omega
  refine ⟨h'.objs.size, s2.gens.size, m0 + 1, _, rfl, ⟨⟨H3, I4⟩, fun {s' H'} I' => hgen _ (I'.pin (h'.objs.size, go) (List.mem_append_left _ (List.mem_singleton.mpr rfl))).1, _, Array.getElem?_push_size .., fun s5 wk => ⟨rfl, ?_⟩⟩, fun s' b H' I' qb => ?_⟩
  · have I5 := inv_woke I4 wk
    have st5 : tn 0 s5.heap := by
      obtain ⟨g', tk, rfl, _⟩ := wk
      exact T.keep _ _ _ st3 fun b hb o e => Heap.get?_push_of_some _ (sb'.extBut b o (Nat.ne_of_lt (Heap.lt_size e)) (Heap.get?_push_of_some _ e))
    exact gen_begin T st5 (gen_loop (kp := kp) (Q := fun b H' => Q (.bl b) H') (vs := vs) T hc S.co hpn (pg _ _ _ _ _ _ _ _ _ hroom) (pe _ _ _ _ _ _ _ _ _ hroom) turn _ 0 m0 _ _ H3 (Nat.lt_succ_self _) I5 st5 n3 w0)
  · exact ⟨.bl b, H', I3.call' (ch := fp) I'.os I'.base I'.hok I'.bare fun b hb => ⟨(f3 b hb).1.2.2.2.1, (f3 b hb).1.2.1, (f3 b hb).1.2.2.2.2.1, (f3 b hb).1.2.2.2.2.2⟩, rfl, qb⟩
end
section
open PySem.Spec GxR GenW
variable {X : Cx} {c P : Addr} {elt iter tg : Expr} {scope : Scope} {p pos gpos : Pos} {N' : List Str} {sg : L2.St → L2.St} {wi : TI} {g : TG} {te : TE} {vs : List Nat} {k : Nat}
theorem pe_allG (hr : Room (k + 1) X.A) (hc : X.calm = true) (hg : Gl X "all") (hm : X.mg "all" = none) (hb : bootBuiltins "all" = some (.builtin "all")) (TB : TabB X.base X.mg c P) (hcode : X.env.code = .ref c) (S : GenN X scope N' sg) (hi : L2.PI X tg iter wi) (hs : ∀ v, genFold iter X.env v = pure v)
    (pg : ∀ (A' : Around) (s : Shared) (H : Hp) (cl : List (Str × Addr)) (C bi : Addr) (code : Value) (fp : List Addr) (pn : List (Addr × Obj)), Room k A' → L2.PG (gcx X A' N' s H (genEnv scope cl C code bi X.env) fp pn) tg g)
    (pe : ∀ (A' : Around) (s : Shared) (H : Hp) (cl : List (Str × Addr)) (C bi : Addr) (code : Value) (fp : List Addr) (pn : List (Addr × Obj)), Room k A' → L2.PE (gcx X A' N' s H (genEnv scope cl C code bi X.env) fp pn) elt te) :
    L2.PE X (.Call (.Name "all" p) [.GeneratorExp elt [⟨tg, iter, [], 0⟩] scope gpos] [] pos) (tQuant true P wi sg g te vs) := by
  refine ⟨fun pins s σ H Q I h => ?_⟩
  refine wpAny_Call_Name_kw (ld_blt I hg hm hb (PyProof.Rows.callWith_builtin1 ?_ rfl rfl))
  show wpAny _ _ (spliced ((false, eval (.GeneratorExp elt [⟨tg, iter, [], 0⟩] scope gpos) X.env) :: backTo pos (starEach [] X.env))) _ _ s
  refine Calls.spliced_cons (thn (gen_made hr hc TB hcode S hi hs pg pe I h) fun gv z ⟨a, kk, n, G, ev, sl, fin⟩ => Calls.spliced_nil ?_)
  subst ev
  refine call_function_tree F.kind_all F.plain_all F.entry_all (F.args_all1 _) ?_
  unfold Builtin.«all»
  refine wpAny_bind (m := oneArg "all" _) (wpAny_pure ?_)
  obtain ⟨H0, I0⟩ := sl.inv
  refine wpAny_bind (wpAny_pyIter_gen (sl.is I0) ?_)
  refine wpAny_pure ⟨plainId_quiet F.plain_all_loop _, codeAny_mono (all_loop hr.hd (by have := hr.dp; omega) n z sl) fun r s' ⟨b, H', er, I', q⟩ => ?_⟩
  subst er
  exact fin s' b H' I' q
theorem pe_anyG (hr : Room (k + 1) X.A) (hc : X.calm = true) (hg : Gl X "any") (hm : X.mg "any" = none) (hb : bootBuiltins "any" = some (.builtin "any")) (TB : TabB X.base X.mg c P) (hcode : X.env.code = .ref c) (S : GenN X scope N' sg) (hi : L2.PI X tg iter wi) (hs : ∀ v, genFold iter X.env v = pure v)
    (pg : ∀ (A' : Around) (s : Shared) (H : Hp) (cl : List (Str × Addr)) (C bi : Addr) (code : Value) (fp : List Addr) (pn : List (Addr × Obj)), Room k A' → L2.PG (gcx X A' N' s H (genEnv scope cl C code bi X.env) fp pn) tg g)
    (pe : ∀ (A' : Around) (s : Shared) (H : Hp) (cl : List (Str × Addr)) (C bi : Addr) (code : Value) (fp : List Addr) (pn : List (Addr × Obj)), Room k A' → L2.PE (gcx X A' N' s H (genEnv scope cl C code bi X.env) fp pn) elt te) :
    L2.PE X (.Call (.Name "any" p) [.GeneratorExp elt [⟨tg, iter, [], 0⟩] scope gpos] [] pos) (tQuant false P wi sg g te vs) := by
  refine ⟨fun pins s σ H Q I h => ?_⟩
  refine wpAny_Call_Name_kw (ld_blt I hg hm hb (PyProof.Rows.callWith_builtin1 ?_ rfl rfl))
  show wpAny _ _ (spliced ((false, eval (.GeneratorExp elt [⟨tg, iter, [], 0⟩] scope gpos) X.env) :: backTo pos (starEach [] X.env))) _ _ s
  refine Calls.spliced_cons (thn (gen_made hr hc TB hcode S hi hs pg pe I h) fun gv z ⟨a, kk, n, G, ev, sl, fin⟩ => Calls.spliced_nil ?_)
  subst ev
  refine call_function_tree F.kind_any F.plain_any F.entry_any (F.args_any1 _) ?_
  unfold Builtin.«any»
  refine wpAny_bind (m := oneArg "any" _) (wpAny_pure ?_)
  obtain ⟨H0, I0⟩ := sl.inv
  refine wpAny_bind (wpAny_pyIter_gen (sl.is I0) ?_)
  refine wpAny_pure ⟨plainId_quiet F.plain_any_loop _, codeAny_mono (any_loop hr.hd (by have := hr.dp; omega) n z sl) fun r s' ⟨b, H', er, I', q⟩ => ?_⟩
  subst er
  exact fin s' b H' I' q
end
section
theorem genN_none {X : Cx} {scope : Scope} {N' : List Str} {n : Nat} (h1 : scope.kind = .function) (h2 : scope.isCoroutine = false) (h3 : ∀ y ∈ scope.names, y.2 ≠ .cell) (h4 : scope.names.lookup (".0" : Str) = some NameKind.local) (h5 : ∀ y ∈ scope.names, y.2 ≠ .free) (h6 : n = N'.length := by rfl) :
    GenN X scope N' (fun _ => List.replicate n none) :=
  ⟨h1, h2, h3, h4, fun y hy z => absurd z (h5 y hy), fun _ => by rw [List.length_replicate]; exact h6, fun σ i x v _ e => by
    rw [List.getElem?_replicate] at e
    split at e <;> cases e⟩
theorem genN_one {X : Cx} {scope : Scope} {ts : List Str} {f : Str} {j : Nat} (h1 : scope.kind = .function) (h2 : scope.isCoroutine = false) (h3 : ∀ y ∈ scope.names, y.2 ≠ .cell) (h4 : scope.names.lookup (".0" : Str) = some NameKind.local) (h5 : ∀ y ∈ scope.names, y.2 = .free → y.1 = f)
    (h6 : scope.names.lookup f = some .free) (h7 : X.N[j]? = some f) (h8 : X.env.scope.names.lookup f = some .cell ∨ X.env.scope.names.lookup f = some .free) :
    GenN X scope (ts ++ [f]) (fun σ => List.replicate ts.length none ++ [σ.getD j none]) :=
  ⟨h1, h2, h3, h4, fun y hy z => by rw [h5 y hy z]; exact h8, fun _ => by rw [List.length_append, List.length_append, List.length_replicate]; rfl, fun σ i x v e1 e2 => by
    by_cases h : i < ts.length
    · rw [List.getElem?_append_left (by rw [List.length_replicate]; exact h), List.getElem?_replicate] at e2
      split at e2 <;> cases e2
    · rw [List.getElem?_append_right (by omega)] at e1
      rw [List.getElem?_append_right (by rw [List.length_replicate]; omega), List.length_replicate] at e2
      cases hz : i - ts.length with
      | zero =>
        rw [hz] at e1 e2
        obtain rfl : f = x := Option.some.inj e1
        have e2 : σ.getD j none = some v := Option.some.inj e2
        refine ⟨h6, j, h7, ?_⟩
        rw [List.getD_eq_getElem?_getD] at e2
        cases hj : σ[j]? with
        | none => rw [hj] at e2; cases e2
        | some z => rw [hj] at e2; rw [show z = some v from e2]
      | succ z => rw [hz] at e1; cases e1⟩
end
/-! ### trees -/
inductive W2 where
  | sum | gap | below | most | least
def W2.s : W2 → Str
  | .sum => "sum"
  | .gap => "gap"
  | .below => "below"
  | .most => "most"
  | .least => "least"
inductive Tr where
  | nm (n : Str) (k : Nat)
  | no (i : Int)
  | tm (k : Int) (t : Tr)
  | o2 (w : W2) (a b : Tr)
  | o3 (a b c : Tr)
/-- what stands ahead of the branches -/
def Tr.hd : Tr → List V
  | .nm n k => [.str "name", .str n, nV k]
  | .no i => [.str "number", .int i]
  | .tm k _ => [.str "times", .int k]
  | .o2 w _ _ => [.str w.s]
  | .o3 _ _ _ => [.str "pick"]
def Tr.kids : Tr → List Tr
  | .nm _ _ => []
  | .no _ => []
  | .tm _ t => [t]
  | .o2 _ a b => [a, b]
  | .o3 a b c => [a, b, c]
/-- all parts, each behind its branches -/
def Tr.parts : Tr → List Tr
  | .nm n k => [.nm n k]
  | .no i => [.no i]
  | .tm k t => t.parts ++ [.tm k t]
  | .o2 w a b => a.parts ++ b.parts ++ [.o2 w a b]
  | .o3 a b c => a.parts ++ b.parts ++ c.parts ++ [.o3 a b c]
theorem Tr.parts_eq (t : Tr) : t.parts = t.kids.flatMap Tr.parts ++ [t] := by
  cases t <;> simp [Tr.parts, Tr.kids]
/-- the names that a tree leans on -/
def Tr.leans : Tr → List (Str × Nat)
  | .nm n k => [(n, k)]
  | .no _ => []
  | .tm _ t => t.leans
  | .o2 _ a b => a.leans ++ b.leans
  | .o3 a b c => a.leans ++ b.leans ++ c.leans
def Tr.isNm : Tr → Bool
  | .nm _ _ => true
  | _ => false
def Tr.ofNm : Tr → Str × Nat
  | .nm n k => (n, k)
  | _ => ("", 0)
theorem Tr.leans_eq (t : Tr) : (t.parts.filter Tr.isNm).map Tr.ofNm = t.leans := by
  induction t with
  | nm n k => rfl
  | no i => rfl
  | tm k t ih => simp [Tr.parts, Tr.leans, List.filter_append, ih, Tr.isNm, List.filter_cons]
  | o2 w a b iha ihb => simp [Tr.parts, Tr.leans, List.filter_append, iha, ihb, Tr.isNm, List.filter_cons]
  | o3 a b c iha ihb ihc => simp [Tr.parts, Tr.leans, List.filter_append, iha, ihb, ihc, Tr.isNm, List.filter_cons]
def TrAt (H : Hp) : V → Tr → Prop
  | v, .nm n k => ∃ a, v = .ref a ∧ H a = some (.tup [.str "name", .str n, nV k])
  | v, .no i => ∃ a, v = .ref a ∧ H a = some (.tup [.str "number", .int i])
  | v, .tm k t => ∃ a x, v = .ref a ∧ H a = some (.tup [.str "times", .int k, x]) ∧ TrAt H x t
  | v, .o2 w s t => ∃ a x y, v = .ref a ∧ H a = some (.tup [.str w.s, x, y]) ∧ TrAt H x s ∧ TrAt H y t
  | v, .o3 s t u => ∃ a x y z, v = .ref a ∧ H a = some (.tup [.str "pick", x, y, z]) ∧ TrAt H x s ∧ TrAt H y t ∧ TrAt H z u
theorem TrAt.op {H : Hp} {v : V} {t : Tr} (h : TrAt H v t) : ∃ a ks, v = .ref a ∧ H a = some (.tup (t.hd ++ ks)) ∧ All2 (TrAt H) ks t.kids := by
  cases t with
  | nm n k => obtain ⟨a, rfl, e⟩ := h; exact ⟨a, [], rfl, e, .nil⟩
  | no i => obtain ⟨a, rfl, e⟩ := h; exact ⟨a, [], rfl, e, .nil⟩
  | tm k t => obtain ⟨a, x, rfl, e, h⟩ := h; exact ⟨a, [x], rfl, e, .cons h .nil⟩
  | o2 w s t => obtain ⟨a, x, y, rfl, e, h, g⟩ := h; exact ⟨a, [x, y], rfl, e, .cons h (.cons g .nil)⟩
  | o3 s t u => obtain ⟨a, x, y, z, rfl, e, h, g, i⟩ := h; exact ⟨a, [x, y, z], rfl, e, .cons h (.cons g (.cons i .nil))⟩
theorem TrAt.mk {H : Hp} {a : Addr} {ks : List V} {t : Tr} (e : H a = some (.tup (t.hd ++ ks))) (h : All2 (TrAt H) ks t.kids) : TrAt H (.ref a) t := by
  cases t with
  | nm n k => cases h; exact ⟨a, rfl, e⟩
  | no i => cases h; exact ⟨a, rfl, e⟩
  | tm k t => cases h with | cons x h => cases h; exact ⟨a, _, rfl, e, x⟩
  | o2 w s t => cases h with | cons x h => cases h with | cons y h => cases h; exact ⟨a, _, _, rfl, e, x, y⟩
  | o3 s t u => cases h with | cons x h => cases h with | cons y h => cases h with | cons z h => cases h; exact ⟨a, _, _, _, rfl, e, x, y, z⟩
theorem TrAt.keep {H H' : Hp} (k : TK H H') : ∀ {t : Tr} {v : V}, TrAt H v t → TrAt H' v t := by
  intro t
  induction t with
  | nm n i => intro v h; obtain ⟨a, rfl, e⟩ := h; exact ⟨a, rfl, k _ _ e⟩
  | no i => intro v h; obtain ⟨a, rfl, e⟩ := h; exact ⟨a, rfl, k _ _ e⟩
  | tm i t ih => intro v h; obtain ⟨a, x, rfl, e, h⟩ := h; exact ⟨a, x, rfl, k _ _ e, ih h⟩
  | o2 w s t i1 i2 => intro v h; obtain ⟨a, x, y, rfl, e, h, g⟩ := h; exact ⟨a, x, y, rfl, k _ _ e, i1 h, i2 g⟩
  | o3 s t u i1 i2 i3 => intro v h; obtain ⟨a, x, y, z, rfl, e, h, g, i⟩ := h; exact ⟨a, x, y, z, rfl, k _ _ e, i1 h, i2 g, i3 i⟩
/-- the word at a tree's head -/
def Tr.wd : Tr → Str
  | .nm _ _ => "name"
  | .no _ => "number"
  | .tm _ _ => "times"
  | .o2 w _ _ => w.s
  | .o3 _ _ _ => "pick"
theorem Tr.hd_wd (t : Tr) : ∃ r, t.hd = .str t.wd :: r ∧ (∀ x ∈ r, (∃ z, x = V.str z) ∨ ∃ i, x = V.int i) := by
  cases t with
  | nm n k => exact ⟨_, rfl, fun x hx => by
      rcases List.mem_cons.mp hx with rfl | hx
      · exact .inl ⟨_, rfl⟩
      · exact .inr ⟨_, List.mem_singleton.mp hx⟩⟩
  | no i => exact ⟨_, rfl, fun x hx => .inr ⟨_, List.mem_singleton.mp hx⟩⟩
  | tm k t => exact ⟨_, rfl, fun x hx => .inr ⟨_, List.mem_singleton.mp hx⟩⟩
  | o2 w a b => exact ⟨[], rfl, fun x hx => by cases hx⟩
  | o3 a b c => exact ⟨[], rfl, fun x hx => by cases hx⟩
theorem Tr.wd_nm (t : Tr) : t.isNm = decide (t.wd = "name") := by
  cases t with
  | o2 w a b => cases w <;> rfl
  | _ => rfl
theorem All2.app {α β : Type} {R : α → β → Prop} {as : List α} {bs : List β} (h : All2 R as bs) {cs : List α} {ds : List β} (g : All2 R cs ds) : All2 R (as ++ cs) (bs ++ ds) := by
  induction h with
  | nil => exact g
  | cons r _ ih => exact .cons r ih
theorem All2.rev {α β : Type} {R : α → β → Prop} {as : List α} {bs : List β} (h : All2 R as bs) : All2 R as.reverse bs.reverse := by
  induction h with
  | nil => exact .nil
  | cons r _ ih => rw [List.reverse_cons, List.reverse_cons]; exact ih.snoc r
theorem All2.unsnoc {α β : Type} {R : α → β → Prop} {b : β} : ∀ {bs : List β} {as : List α}, All2 R as (bs ++ [b]) → ∃ as' x, as = as' ++ [x] ∧ All2 R as' bs ∧ R x b
  | [], _, .cons r .nil => ⟨[], _, rfl, .nil, r⟩
  | _ :: _, _, .cons r h => by
    obtain ⟨as', x, rfl, h', r'⟩ := All2.unsnoc h
    exact ⟨_ :: as', x, rfl, .cons r h', r'⟩
/-- what is found from a stack of trees -/
def rpS (L : List Tr) : List Tr := L.reverse.flatMap fun t => t.parts.reverse
theorem rpS_snoc (L : List Tr) (t : Tr) : rpS (L ++ [t]) = t :: rpS (L ++ t.kids) := by
  unfold rpS
  rw [List.reverse_append, List.reverse_append, List.flatMap_append, List.flatMap_append]
  show [t].reverse.flatMap _ ++ _ = _
  rw [List.reverse_singleton, List.flatMap_singleton, Tr.parts_eq, List.reverse_append, List.reverse_singleton]
  have : ∀ l : List Tr, (l.flatMap Tr.parts).reverse = l.reverse.flatMap fun t => t.parts.reverse := by
    intro l
    induction l with
    | nil => rfl
    | cons x r ih => rw [List.flatMap_cons, List.reverse_append, ih, List.reverse_cons, List.flatMap_append, List.flatMap_singleton]
  rw [this]
  rfl
/-- the things that are no texts and no numbers -/
def refB : V → Bool
  | .ref _ => true
  | _ => false
theorem refB_kids {H : Hp} {ks : List V} {ts : List Tr} (h : All2 (TrAt H) ks ts) : ks.filter refB = ks := by
  induction h with
  | nil => rfl
  | cons r _ ih =>
    obtain ⟨a, _, rfl, _⟩ := r.op
    rw [List.filter_cons, if_pos (show refB (.ref a) = true from rfl), ih]
theorem refB_hd {r : List V} (sort : ∀ x ∈ r, (∃ z, x = V.str z) ∨ ∃ i, x = V.int i) : r.filter refB = [] := by
  rw [List.filter_eq_nil_iff]
  intro x hx
  rcases sort x hx with ⟨z, rfl⟩ | ⟨i, rfl⟩ <;> exact fun z => nomatch z
theorem Tr.kids_len (t : Tr) : t.kids.length ≤ 3 := by cases t <;> simp [Tr.kids]
section
variable {P : Program} {w : World} {K : PySem.W.Frag} {mg : Str → Option Value} {base : Heap}
theorem kit_tupS {K : PySem.W.Frag} : PySem.W.kitOne K (.type "str") (.type "tuple") = some false := kit_ty (by decide +kernel)
theorem kit_tupI {K : PySem.W.Frag} : PySem.W.kitOne K (.type "int") (.type "tuple") = some false := kit_ty (by decide +kernel)
theorem kit_tupT {K : PySem.W.Frag} : PySem.W.kitOne K (.type "tuple") (.type "tuple") = some true := kit_ty (by decide +kernel)
def sp_tree_parts (K : PySem.W.Frag) : Sp := fun vs H Q _ => ∃ (v : V) (t : Tr), vs = [v] ∧ TrAt H v t ∧ t.parts.length ≤ 400 ∧ ∀ (p : Addr) (l : List V) (H' : Hp), H p = none → H' p = some (.lst l) → All2 (TrAt H') l t.parts → Same H H' → Q (.ref p) H'
theorem ok_tree_parts {f : Addr} {fd : FuncData} (F : Fun K "tree_parts" "tree_parts" s_tree_parts f fd) (T : Top w K mg) : FnOk P w K mg base CX0 1 f fd ["tree"] (sp_tree_parts K) := by
  refine F.ok sc_tree_parts (fun vs H Q E h => ?_) (fun cdv A outer s H vs Q E hr h => ?_)
  · obtain ⟨v, t, rfl, _⟩ := h
    rfl
  obtain ⟨v, t, rfl, ht, hl, q⟩ := h
  refine ⟨_, (pss_cons (ps_set (i := 1) sc_tree_parts.nd rfl (Or.inl rfl) (pe_lst pa_nil))
      (pss_cons (ps_set (i := 2) sc_tree_parts.nd rfl (Or.inl rfl) (pe_lst (pa_cons (pv 0) pa_nil)))
      (pss_cons (ps_while PassesOwn.never (pt_truthK K rfl (pv 2) (by intro _; rfl))
        (pss_cons (ps_set (i := 3) sc_tree_parts.nd rfl (Or.inl rfl) (pe_bm0K K rfl PySem.F.plainAttrs_list PySem.F.slot_list_pop PySem.F.type_list_pop mt_pop (pv 2)))
      (pss_cons (ps_expr (pe_bmK K rfl PySem.F.plainAttrs_list PySem.F.slot_list_append PySem.F.type_list_append mt_append (pv 1) (pa_cons (pv 3) pa_nil)))
      (pss_one (ps_expr (pe_bmK K rfl PySem.F.plainAttrs_list PySem.F.slot_list_extend PySem.F.type_list_extend mt_extend (pv 2) (pa_cons (pe_lc (own := [("branch", 4)]) (g := gName 4) (by rfl) sc_tree_parts.nd (pi_tupK K rfl (pe_slice (sl_tupAK K rfl) (pv 3) (po_some pe_int) po_none)) (blkOk_by (own := [("branch", 4)]) (N := N_tree_parts) (sc := defScope s_tree_parts) (by decide +kernel)) (fun _ _ _ _ _ => (pg_name (i := 4) sc_tree_parts.nd rfl (Or.inl rfl))) (fun _ _ _ _ _ => pts_one (pt_val (pe_callB (call_isiKK K rfl) (by rfl) T.m_isinstance (by decide +kernel) (pa_cons (pv 4) (pa_cons (pe_bltn (v := .ty "tuple") (by rfl) T.m_tuple (by decide +kernel) rfl) pa_nil))))) (fun _ _ _ _ _ => (pv 4))) pa_nil)))))))
      (pss_one (ps_ret (pe_revLK K rfl (pv 1))))))), ?_⟩
  refine ⟨(by show 0 ≤ sizeLine; decide), fun fl nfl => ?_⟩
  have s1 : Same H (upd H fl (.lst [])) := same_new nfl
  refine ⟨_, rfl, (by show 1 ≤ sizeLine; decide), fun ll nll => ?_⟩
  have s2 := s1.trans (same_new (o := .lst [v]) nll)
  have nel : fl ≠ ll := fun z => by rw [← z, upd_same] at nll; cases nll
  have nll0 : H ll = none := same_none s1 nll
  let W : Nat → L2.St → Hp → Prop := fun m σ H5 => ∃ (fv lv : List V) (F L : List Tr) (v3 : Option V), σ = [some v, some (.ref fl), some (.ref ll), v3, none] ∧ H5 fl = some (.lst fv) ∧ H5 ll = some (.lst lv) ∧ Same H H5 ∧ All2 (TrAt H5) fv F ∧ All2 (TrAt H5) lv L ∧ F ++ rpS L = t.parts.reverse ∧ m = (rpS L).length
  refine ⟨W, ⟨_, [], [v], [], [t], none, rfl, by rw [upd_ne nel]; exact upd_same, upd_same, s2, .nil, .cons (ht.keep (TK.same s2)) .nil, ?_, rfl⟩, ?_⟩
  · unfold rpS
    rw [List.reverse_singleton, List.flatMap_singleton]
    rfl
  rintro m σ H5 ⟨fv, lv, F, L, v3, rfl, hfl, hll, s5, aF, aL, eq, em⟩
  have lenE := congrArg List.length eq
  rw [List.length_append, List.length_reverse] at lenE
  refine ⟨_, rfl, !lv.isEmpty, .inl ⟨_, SqL.of hll, rfl⟩, ?_⟩
  rcases List.eq_nil_or_concat L with rfl | ⟨L', x, rfl⟩
  · cases aL
    show (if (false : Bool) = true then _ else _)
    rw [if_neg Bool.false_ne_true]
    refine ⟨_, rfl, fl, fv, rfl, SqL.of hfl, fun p np => ?_⟩
    have s6 : Same H5 (upd H5 p (.lst fv.reverse)) := same_new np
    have eF : F = t.parts.reverse := by
      have : rpS [] = [] := rfl
      rwa [this, List.append_nil] at eq
    have := aF.rev
    rw [eF, List.reverse_reverse] at this
    exact q p _ _ (same_none s5 np) upd_same (this.imp fun _ _ z => z.keep (TK.same s6)) (s5.trans s6)
  rw [List.concat_eq_append] at *
  obtain ⟨lv', y, rfl, aL', hy⟩ := aL.unsnoc
  have tr : (!(lv' ++ [y]).isEmpty) = true := by cases lv' <;> rfl
  rw [tr]
  refine if_bl (fun _ => ?_) (fun z => nomatch z)
  refine ⟨fun σ' H' => ∃ m', m' < m ∧ W m' σ' H', fun _ _ z => z, ?_⟩
  refine ⟨_, rfl, .inl ⟨rfl, _, SqL.of hll⟩, ll, _, y, rfl, rfl, hll, by simp, ?_⟩
  rw [List.dropLast_concat]
  have s6 : Same H (upd H5 ll (.lst lv')) := Same.own s5 nll0
  have k6 : TK H5 (upd H5 ll (.lst lv')) := TK.lst hll
  have hfl6 : upd H5 ll (.lst lv') fl = some (.lst fv) := by rw [upd_ne nel]; exact hfl
  have hll6 : upd H5 ll (.lst lv') ll = some (.lst lv') := upd_same
  replace aF := aF.imp fun _ _ z => z.keep k6
  replace aL' := aL'.imp fun _ _ z => z.keep k6
  replace hy := hy.keep k6
  generalize upd H5 ll (.lst lv') = H6 at *
  have lF := aF.length
  rw [rpS_snoc] at eq em lenE
  rw [List.length_cons] at em lenE
  refine ⟨_, rfl, .inl ⟨rfl, _, SqL.of hfl6⟩, _, rfl, fl, _, _, rfl, rfl, hfl6, small1000 (by omega), ?_⟩
  have s7 : Same H (upd H6 fl (.lst (fv ++ [y]))) := Same.own s6 nfl
  have k7 : TK H6 (upd H6 fl (.lst (fv ++ [y]))) := TK.lst hfl6
  have hfl7 : upd H6 fl (.lst (fv ++ [y])) fl = some (.lst (fv ++ [y])) := upd_same
  have hll7 : upd H6 fl (.lst (fv ++ [y])) ll = some (.lst lv') := by rw [upd_ne nel.symm]; exact hll6
  replace aF := (aF.snoc hy).imp fun _ _ z => z.keep k7
  replace aL' := aL'.imp fun _ _ z => z.keep k7
  replace hy := hy.keep k7
  generalize upd H6 fl (.lst (fv ++ [y])) = H7 at *
  obtain ⟨a, ks, rfl, ha, ak⟩ := hy.op
  obtain ⟨r, er, sort⟩ := x.hd_wd
  refine ⟨_, rfl, .inl ⟨rfl, _, SqL.of hll7⟩, _, rfl, _, rfl, ?_⟩
  dsimp only [tNoPart]
  refine slA_of ha fun p8 H8 h8 s8 => ?_
  rw [show (1 : Int) = ((1 : Nat) : Int) from rfl, cut_drop, er, List.cons_append, List.drop_succ_cons, List.drop_zero] at h8
  refine ⟨p8, rfl, ⟨_, SqT.of h8⟩, fun D nD => ?_⟩
  have mD : D ≠ ll := fun z => by rw [z, s8 _ _ hll7] at nD; cases nD
  refine lc_tup (K := K) (a := p8) (xs := r ++ ks) (fun i H9 => H9 D = some (.lst (((r ++ ks).take i).filter refB)) ∧ Same H8 H9) ⟨upd_same, same_new nD⟩ (fun i H9 _ ⟨_, s9⟩ => SqT.of (s9 _ _ h8)) ?_ ?_
  · rintro i z H9 hz ⟨hD, s9⟩
    refine ⟨rfl, ?_⟩
    have zm : (∃ y, z = V.str y) ∨ (∃ y, z = V.int y) ∨ ∃ b u, z = V.ref b ∧ TrAt H9 (.ref b) u := by
      rcases List.mem_append.mp (List.mem_of_getElem? hz) with m | m
      · rcases sort z m with y | y
        · exact .inl y
        · exact .inr (.inl y)
      · obtain ⟨j, hj⟩ := List.getElem?_of_mem m
        obtain ⟨u, _, hu⟩ := ak.getL hj
        obtain ⟨b, _, rfl, _⟩ := hu.op
        exact .inr (.inr ⟨b, u, rfl, hu.keep (TK.same (s8.trans s9))⟩)
    have tk : (r ++ ks).take (i + 1) = (r ++ ks).take i ++ [z] := by rw [List.take_add_one, hz]; rfl
    rcases zm with ⟨y, rfl⟩ | ⟨y, rfl⟩ | ⟨b, u, rfl, hu⟩
    · refine ⟨_, rfl, _, _, _, _, _, rfl, .ty "tuple", .base (.str _), kit_tupS, _, rfl, ?_⟩
      refine ⟨?_, s9⟩
      rw [hD, tk, List.filter_append]
      rw [show [V.str y].filter refB = [] from rfl, List.append_nil]
    · refine ⟨_, rfl, _, _, _, _, _, rfl, .ty "tuple", .base (.int _), kit_tupI, _, rfl, ?_⟩
      refine ⟨?_, s9⟩
      rw [hD, tk, List.filter_append]
      rw [show [V.int y].filter refB = [] from rfl, List.append_nil]
    · obtain ⟨_, k2, e2, hb, _⟩ := hu.op
      cases e2
      refine ⟨_, rfl, _, _, _, _, _, rfl, .ty "tuple", .base (.tup hb), kit_tupT, _, rfl, ?_⟩
      refine ⟨_, rfl, _, hD, ?_, ?_⟩
      · have : ((((r ++ ks).take i).filter refB)).length ≤ (r ++ ks).length := Nat.le_trans (List.length_filter_le ..) (by rw [List.length_take]; omega)
        rw [List.length_append] at this
        have l1 : r.length ≤ 3 := by
          have := congrArg List.length er
          have h3 : x.hd.length ≤ 3 := by cases x <;> simp [Tr.hd]
          rw [this, List.length_cons] at h3
          omega
        have l2 := ak.length
        have l3 := x.kids_len
        exact Nat.lt_of_le_of_lt this (small1000 (by omega))
      · refine ⟨?_, Same.own s9 nD⟩
        rw [upd_same, tk, List.filter_append]
        rfl
  rintro H9 ⟨hD, s9⟩
  rw [List.take_length, List.filter_append, refB_hd sort, List.nil_append, refB_kids ak] at hD
  have s79 := s8.trans s9
  have hll9 := s79 _ _ hll7
  refine ⟨ll, D, _, _, rfl, rfl, hll9, hD, ?_, ?_⟩
  · have l1 := aL'.length
    have l2 := ak.length
    have l3 := x.kids_len
    have l4 : L'.length ≤ (rpS (L' ++ x.kids)).length := by
      have : ∀ l : List Tr, l.length ≤ (rpS l).length := by
        intro l
        unfold rpS
        have key : ∀ m : List Tr, m.length ≤ (m.flatMap fun t => t.parts.reverse).length := by
          intro m
          induction m with
          | nil => exact Nat.le_refl _
          | cons y m ih =>
            rw [List.flatMap_cons, List.length_append, List.length_cons, List.length_reverse, Tr.parts_eq, List.length_append]
            have : [y].length = 1 := rfl
            omega
        have := key l.reverse
        rwa [List.length_reverse] at this
      have := this (L' ++ x.kids)
      rw [List.length_append] at this
      omega
    rw [sizeLine_eq]
    omega
  have k9 : TK H7 (upd H9 ll (.lst (lv' ++ ks))) := (TK.same s79).trans (TK.lst hll9)
  refine ⟨(rpS (L' ++ x.kids)).length, by omega, fv ++ [.ref a], lv' ++ ks, F ++ [x], L' ++ x.kids, _, rfl, by rw [upd_ne nel]; exact s79 _ _ hfl7, upd_same, Same.own (s7.trans s79) nll0, aF.imp fun _ _ z => z.keep k9, (aL'.app ak).imp fun _ _ z => z.keep k9, ?_, rfl⟩
  rw [← eq, List.append_assoc]; rfl
/-- a list of what is leant on -/
def LnAt (H : Hp) (v : V) (p : Str × Nat) : Prop := ∃ a, v = .ref a ∧ H a = some (.tup [.str p.1, nV p.2])
theorem LnAt.keep {H H' : Hp} {v : V} {p : Str × Nat} (h : LnAt H v p) (k : TK H H') : LnAt H' v p := by
  obtain ⟨a, rfl, e⟩ := h
  exact ⟨a, rfl, k _ _ e⟩
def sp_leanings (K : PySem.W.Frag) : Sp := fun vs H Q _ => ∃ (v : V) (t : Tr), vs = [v] ∧ TrAt H v t ∧ t.parts.length ≤ 400 ∧ ∀ (p : Addr) (l : List V) (H' : Hp), H p = none → H' p = some (.lst l) → All2 (LnAt H') l t.leans → Same H H' → Q (.ref p) H'
theorem ok_leanings {f : Addr} {fd : FuncData} (F : Fun K "leanings" "leanings" s_leanings f fd) (T : Top w K mg) : FnOk P w K mg base CX0 2 f fd ["tree"] (sp_leanings K) := by
  obtain ⟨f_tree_parts, fd_tree_parts, F_tree_parts, b_tree_parts, m_tree_parts⟩ := T.d_tree_parts
  have G_tree_parts := ok_tree_parts (P := P) (w := w) (base := base) F_tree_parts T
  refine F.ok sc_leanings (fun vs H Q E h => ?_) (fun cdv A outer s H vs Q E hr h => ?_)
  · obtain ⟨v, t, rfl, _⟩ := h
    rfl
  obtain ⟨v, t, rfl, ht, hl, q⟩ := h
  refine ⟨_, (pss_one (ps_ret (pe_lc (own := [("part", 1)]) (g := gName 1) (by rfl) sc_leanings.nd (pi_listK K rfl (pe_call G_tree_parts (hr.mono (by decide)) (by rfl) m_tree_parts F_tree_parts.kp b_tree_parts .nil pass0 (pa_cons (pv 0) pa_nil))) (blkOk_by (own := [("part", 1)]) (N := N_leanings) (sc := defScope s_leanings) (by decide +kernel)) (fun _ _ _ _ _ => (pg_name (i := 1) sc_leanings.nd rfl (Or.inl rfl))) (fun _ _ _ _ _ => pts_one (pt_cmpR op_eq (pe_ix (ix_tupK K rfl) (pv 1) pe_int (fun _ _ => rfl)) pe_str (nomark _))) (fun _ _ _ _ _ => (pe_tup (pa_cons (pe_ix (ix_tupK K rfl) (pv 1) pe_int (fun _ _ => rfl)) (pa_cons (pe_ix (ix_tupK K rfl) (pv 1) pe_int (fun _ _ => rfl)) pa_nil))))))), ?_⟩
  refine ⟨_, rfl, v, t, rfl, ht, hl, fun p1 pv1 H1 n1 h1 al s1 => ?_⟩
  refine ⟨_, rfl, ⟨_, SqL.of h1⟩, fun D nD => ?_⟩
  refine lc_list (K := K) (a := p1) (xs := pv1) (fun i H9 => ∃ lv, H9 D = some (.lst lv) ∧ All2 (LnAt H9) lv (((t.parts.take i).filter Tr.isNm).map Tr.ofNm) ∧ Same H1 H9) ⟨[], upd_same, .nil, same_new nD⟩ (fun i H9 _ ⟨_, _, _, s9⟩ => SqL.of (s9 _ _ h1)) ?_ ?_
  · rintro i z H9 hz ⟨lv, hD, al9, s9⟩
    refine ⟨rfl, ?_⟩
    obtain ⟨u, hu, tu⟩ := al.getL hz
    have tk : t.parts.take (i + 1) = t.parts.take i ++ [u] := by rw [List.take_add_one, hu]; rfl
    replace tu := tu.keep (TK.same s9)
    obtain ⟨a, ks, rfl, ha, ak⟩ := tu.op
    obtain ⟨r, er, sort⟩ := u.hd_wd
    have ha0 := ha
    rw [er, List.cons_append] at ha
    refine ⟨_, rfl, a, _, _, _, rfl, rfl, SqT.of ha, atI_nat (j := 0) rfl, rfl, _, rfl, ?_⟩
    by_cases hw : u.wd = "name"
    · have un : u.isNm = true := by rw [u.wd_nm, decide_eq_true hw]
      cases u with
      | nm n k =>
        rw [decide_eq_true (show V.str (Tr.nm n k).wd = V.str "name" from rfl)]
        refine if_bl (fun _ => ?_) (fun z => nomatch z)
        have ha : H9 a = some (.tup ([.str "name", .str n, nV k] ++ ks)) := ha0
        refine ⟨_, rfl, a, _, _, _, rfl, rfl, SqT.of ha, atI_nat (j := 1) rfl, _, rfl, a, _, _, _, rfl, rfl, SqT.of ha, atI_nat (j := 2) rfl, (by show 2 ≤ sizeLine; decide), fun p2 np2 => ?_⟩
        have s10 : Same H9 (upd H9 p2 (.tup [.str n, nV k])) := same_new np2
        have nDp : D ≠ p2 := fun z => by rw [← z, hD] at np2; cases np2
        have ll := al9.length
        have ll2 : (((t.parts.take i).filter Tr.isNm).map Tr.ofNm).length ≤ 400 := by
          rw [List.length_map]
          exact Nat.le_trans (List.length_filter_le ..) (by rw [List.length_take]; omega)
        refine ⟨lv, s10 _ _ hD, small1000 (by omega), lv ++ [.ref p2], upd_same, ?_, Same.own (s9.trans s10) nD⟩
        rw [tk, List.filter_append, List.map_append]
        have kk : TK H9 (upd (upd H9 p2 (.tup [.str n, nV k])) D (.lst (lv ++ [.ref p2]))) := (TK.same s10).trans (TK.lst (s10 _ _ hD))
        exact (al9.imp fun _ _ z => z.keep kk).snoc ⟨p2, rfl, by rw [upd_ne nDp.symm]; exact upd_same⟩
      | _ => cases un
    · have un : u.isNm = false := by rw [u.wd_nm, decide_eq_false hw]
      rw [decide_eq_false (show ¬ V.str u.wd = V.str "name" from fun z => hw (V.str.inj z))]
      refine if_bl (fun z => nomatch z) (fun _ => ?_)
      refine ⟨lv, hD, ?_, s9⟩
      rw [tk, List.filter_append, List.filter_cons, un]
      simpa using al9
  rintro H9 ⟨lv, hD, al9, s9⟩
  rw [al.length, List.take_length, t.leans_eq] at al9
  exact q D lv H9 (same_none s1 nD) hD al9 (s1.trans s9)
end
/-! ### formulas -/
def firstN (n : Nat) (p : Nat → Bool) : Option Nat := (List.range n).find? p
theorem firstN_at {n i : Nat} {p : Nat → Bool} (hi : i < n) (hp : p i = true) (no : ∀ j, j < i → p j = false) : firstN n p = some i := by
  unfold firstN
  rw [List.find?_range_eq_some]
  exact ⟨hp, List.mem_range.mpr hi, fun j hj => by rw [no j hj]; rfl⟩
theorem firstN_none {n : Nat} {p : Nat → Bool} (no : ∀ j, j < n → p j = false) : firstN n p = none := by
  unfold firstN
  rw [List.find?_eq_none]
  intro j hj
  rw [no j (List.mem_range.mp hj)]
  exact Bool.false_ne_true
theorem firstN_no {n : Nat} {p : Nat → Bool} (h : firstN n p = none) : ∀ j, j < n → p j = false := fun j hj => by
  have := List.find?_eq_none.mp h j (List.mem_range.mpr hj)
  exact Bool.eq_false_iff.mpr this
structure Fm where
  ins : List Str
  was : List (Str × List Int)
  rules : List (Str × Tr)
  outs : List Str
def WaAt (H : Hp) (v : V) (p : Str × List Int) : Prop := ∃ a b, v = .ref a ∧ H a = some (.tup [.str p.1, .ref b]) ∧ H b = some (.tup (p.2.map V.int))
def RlAt (H : Hp) (v : V) (p : Str × Tr) : Prop := ∃ a x, v = .ref a ∧ H a = some (.tup [.str p.1, x]) ∧ TrAt H x p.2
theorem WaAt.keep {H H' : Hp} {v : V} {p : Str × List Int} (h : WaAt H v p) (k : TK H H') : WaAt H' v p := by
  obtain ⟨a, b, rfl, e1, e2⟩ := h
  exact ⟨a, b, rfl, k _ _ e1, k _ _ e2⟩
theorem RlAt.keep {H H' : Hp} {v : V} {p : Str × Tr} (h : RlAt H v p) (k : TK H H') : RlAt H' v p := by
  obtain ⟨a, x, rfl, e1, e2⟩ := h
  exact ⟨a, x, rfl, k _ _ e1, e2.keep k⟩
def FmAt (H : Hp) (r : Addr) (F : Fm) : Prop := ∃ (a1 a2 a3 a4 : Addr) (wv rv : List V), H r = some (.tup [.ref a1, .ref a2, .ref a3, .ref a4]) ∧ H a1 = some (.tup (F.ins.map V.str)) ∧ H a2 = some (.tup wv) ∧ All2 (WaAt H) wv F.was ∧ H a3 = some (.tup rv) ∧ All2 (RlAt H) rv F.rules ∧ H a4 = some (.tup (F.outs.map V.str))
theorem FmAt.keep {H H' : Hp} {r : Addr} {F : Fm} (h : FmAt H r F) (k : TK H H') : FmAt H' r F := by
  obtain ⟨a1, a2, a3, a4, wv, rv, e0, e1, e2, e3, e4, e5, e6⟩ := h
  exact ⟨a1, a2, a3, a4, wv, rv, k _ _ e0, k _ _ e1, k _ _ e2, e3.imp fun _ _ z => z.keep k, k _ _ e4, e5.imp fun _ _ z => z.keep k, k _ _ e6⟩
/-- formulas whose was is a tuple that has no names of its own -/
def FmAtF (H : Hp) (r : Addr) (F : Fm) : Prop := ∃ (a1 a2 a3 a4 : Addr) (ob : Obj) (wv rv : List V), ob.dict = none ∧ H r = some (.tup [.ref a1, .ref a2, .ref a3, .ref a4]) ∧ H a1 = some (.tup (F.ins.map V.str)) ∧ H a2 = some (.frz ob (.tup wv)) ∧ All2 (WaAt H) wv F.was ∧ H a3 = some (.tup rv) ∧ All2 (RlAt H) rv F.rules ∧ H a4 = some (.tup (F.outs.map V.str))
theorem FmAtF.same {H H' : Hp} {r : Addr} {F : Fm} (h : FmAtF H r F) (s : Same H H') : FmAtF H' r F := by
  obtain ⟨a1, a2, a3, a4, ob, wv, rv, d, e0, e1, e2, e3, e4, e5, e6⟩ := h
  exact ⟨a1, a2, a3, a4, ob, wv, rv, d, s _ _ e0, s _ _ e1, s _ _ e2, e3.imp fun _ _ z => z.keep (TK.same s), s _ _ e4, e5.imp fun _ _ z => z.keep (TK.same s), s _ _ e6⟩
structure FmOk (F : Fm) : Prop where
  li : F.ins.length ≤ 100
  lw : F.was.length ≤ 100
  lr : F.rules.length ≤ 100
  lo : F.outs.length ≤ 100
  tr : ∀ p ∈ F.rules, p.2.parts.length ≤ 100
def dupB (l : List Str) (i : Nat) : Bool := match l[i]? with
  | some x => decide (x ∈ l.take i)
  | none => false
def dupO (l : List Str) : Option Str := (firstN l.length (dupB l)).bind fun i => l[i]?
def onS : Option Str → V
  | some z => .str z
  | none => .non
def Fm.own (F : Fm) : List Str := F.ins ++ F.rules.map (·.1)
def Fm.kept (F : Fm) : List Str := F.was.map (·.1)
def Fm.used (F : Fm) : List Str := F.kept ++ F.rules.flatMap (fun p => p.2.leans.map (·.1)) ++ F.outs
def lostO (l own : List Str) : Option Str := l.find? fun z => decide (z ∉ own)
theorem find_at {α : Type} {p : α → Bool} : ∀ {l : List α} {i : Nat} {x : α}, l[i]? = some x → p x = true → (∀ (j : Nat) (y : α), j < i → l[j]? = some y → p y = false) → l.find? p = some x
  | [], _, _, e, _, _ => nomatch e
  | a :: r, 0, x, e, hp, _ => by
    obtain rfl := Option.some.inj e
    rw [List.find?_cons, hp]
  | a :: r, i + 1, x, e, hp, no => by
    rw [List.find?_cons, no 0 a (Nat.succ_pos _) rfl]
    exact find_at (l := r) e hp fun j y hj ey => no (j + 1) y (Nat.succ_lt_succ hj) ey
def leanN (ns : List Str) (l : List (Str × Nat)) : List Str := (l.filter fun q => decide (q.2 = 0) && decide (q.1 ∈ ns)).map (·.1)
theorem nodup_get {ns : List Str} (nd : ns.Nodup) {i j : Nat} {z : Str} (h1 : ns[i]? = some z) (h2 : ns[j]? = some z) : i = j := by
  obtain ⟨l1, e1⟩ := List.getElem?_eq_some_iff.mp h1
  obtain ⟨l2, e2⟩ := List.getElem?_eq_some_iff.mp h2
  rw [List.nodup_iff_pairwise_ne, List.pairwise_iff_getElem] at nd
  rcases Nat.lt_trichotomy i j with h | h | h
  · exact absurd (e1.trans e2.symm) (nd i j l1 l2 h)
  · exact h
  · exact absurd (e2.trans e1.symm) (nd j i l2 l1 h)
theorem few_in {α : Type} [BEq α] [LawfulBEq α] : ∀ {l m : List α}, l.Nodup → (∀ x ∈ l, x ∈ m) → l.length ≤ m.length := by
  intro l
  induction l with
  | nil => intro _ _ _; exact Nat.zero_le _
  | cons x l ih =>
    intro m nd h
    obtain ⟨n1, n2⟩ := List.nodup_cons.mp nd
    have i := ih (m := m.erase x) n2 fun y hy => (List.mem_erase_of_ne (fun e : y = x => n1 (e ▸ hy))).mpr (h y (List.mem_cons_of_mem _ hy))
    have := List.length_erase_of_mem (h x (List.mem_cons_self ..))
    have pos : 0 < m.length := List.length_pos_of_mem (h x (List.mem_cons_self ..))
    show l.length + 1 ≤ m.length
    omega
/-! ### data of known size -/
structure Neat (d : PyData) (dp wt : Nat) : Prop where
  lay : d.canLay0 = true
  dep : d.depth ≤ dp
  wei : d.weight ≤ wt
  sho : d.intsShort 13 = true
  say : d.showable = true
  nod : d.hasDict = false
structure NeatAll (ds : List PyData) (dp wt : Nat) : Prop where
  lay : PyData.canLayAll0 ds = true
  dep : PyData.depthAll ds ≤ dp
  wei : PyData.weightAll ds ≤ wt
  sho : PyData.intsShortAll 13 ds = true
  say : PyData.showableAll ds = true
  nod : PyData.hasDictAll ds = false
theorem Neat.non {dp : Nat} : Neat .none dp 0 := ⟨rfl, Nat.zero_le _, Nat.le_refl _, by simp [PyData.intsShort], by simp [PyData.showable], by simp [PyData.hasDict]⟩
theorem Neat.bool {b : Bool} {dp : Nat} : Neat (.bool b) dp 0 := ⟨rfl, Nat.zero_le _, Nat.le_refl _, by simp [PyData.intsShort], by simp [PyData.showable], by simp [PyData.hasDict]⟩
theorem Neat.int {i : Int} {dp : Nat} (h : i.natAbs < 10 ^ 12) : Neat (.int i) dp 41 := by
  have l : i.natAbs.log2 < 40 := by
    by_cases z : i.natAbs = 0
    · rw [z]; decide
    · exact (Nat.log2_lt z).mpr (Nat.lt_trans h (by decide))
  refine ⟨rfl, Nat.zero_le _, ?_, ?_, ?_, by simp [PyData.hasDict]⟩
  · simp only [PyData.weight]
    split <;> omega
  · simp only [PyData.intsShort, decide_eq_true_eq]
    exact PyData.shown_int_le h
  · simp only [PyData.showable, decide_eq_true_eq]
    omega
theorem Neat.str {x : Str} {n dp : Nat} (h : PyData.canLay0 (.str x) = true) (hn : x.cps.size ≤ n) : Neat (.str x) dp n := ⟨h, Nat.zero_le _, hn, by simp [PyData.intsShort], by simp [PyData.showable], by simp [PyData.hasDict]⟩
theorem NeatAll.nil {dp : Nat} : NeatAll [] dp 0 := ⟨rfl, Nat.zero_le _, Nat.le_refl _, by simp [PyData.intsShortAll], by simp [PyData.showableAll], by simp [PyData.hasDictAll]⟩
theorem NeatAll.cons {d : PyData} {ds : List PyData} {dp a b : Nat} (h : Neat d dp a) (t : NeatAll ds dp b) : NeatAll (d :: ds) dp (a + 1 + b) := by
  refine ⟨?_, ?_, ?_, ?_, ?_, ?_⟩
  · simp only [PyData.canLayAll0, h.lay, t.lay, Bool.and_self]
  · simp only [PyData.depthAll]
    exact Nat.max_le.mpr ⟨h.dep, t.dep⟩
  · simp only [PyData.weightAll]
    have := h.wei
    have := t.wei
    omega
  · simp only [PyData.intsShortAll, h.sho, t.sho, Bool.and_self]
  · simp only [PyData.showableAll, h.say, t.say, Bool.and_self]
  · simp only [PyData.hasDictAll, h.nod, t.nod, Bool.or_self]
theorem Neat.mono {d : PyData} {a b c e : Nat} (h : Neat d a b) (x : a ≤ c) (y : b ≤ e) : Neat d c e := ⟨h.lay, Nat.le_trans h.dep x, Nat.le_trans h.wei y, h.sho, h.say, h.nod⟩
theorem NeatAll.mono {d : List PyData} {a b c e : Nat} (h : NeatAll d a b) (x : a ≤ c) (y : b ≤ e) : NeatAll d c e := ⟨h.lay, Nat.le_trans h.dep x, Nat.le_trans h.wei y, h.sho, h.say, h.nod⟩
theorem Neat.tup {ds : List PyData} {dp n : Nat} (h : NeatAll ds dp n) : Neat (.tuple ds) (dp + 1) n := by
  refine ⟨?_, ?_, ?_, ?_, ?_, ?_⟩
  · simp only [PyData.canLay0, h.lay]
  · simp only [PyData.depth]
    have := h.dep
    omega
  · simp only [PyData.weight]
    exact h.wei
  · simp only [PyData.intsShort, h.sho]
  · simp only [PyData.showable, h.say]
  · simp only [PyData.hasDict, h.nod]
theorem Neat.lst {ds : List PyData} {dp n : Nat} (h : NeatAll ds dp n) : Neat (.list ds) (dp + 1) n := by
  refine ⟨?_, ?_, ?_, ?_, ?_, ?_⟩
  · simp only [PyData.canLay0, h.lay]
  · simp only [PyData.depth]
    have := h.dep
    omega
  · simp only [PyData.weight]
    exact h.wei
  · simp only [PyData.intsShort, h.sho]
  · simp only [PyData.showable, h.say]
  · simp only [PyData.hasDict, h.nod]
theorem NeatAll.map {α : Type} {f : α → PyData} {dp n : Nat} : ∀ {l : List α}, (∀ x ∈ l, Neat (f x) dp n) → NeatAll (l.map f) dp (l.length * (n + 1))
  | [], _ => by rw [List.length_nil, Nat.zero_mul]; exact .nil
  | x :: l, h => by
    have t : NeatAll (l.map f) dp (l.length * (n + 1)) := NeatAll.map fun y hy => h y (List.mem_cons_of_mem _ hy)
    have := NeatAll.cons (h x (List.mem_cons_self ..)) t
    refine NeatAll.mono this (Nat.le_refl _) ?_
    rw [List.length_cons, Nat.add_mul]
    omega
theorem Neat.shaped {d : PyData} {dp n : Nat} (h : Neat d dp n) (k : dp ≤ 60) : SeqAt.shaped d = true := by
  unfold SeqAt.shaped
  rw [h.lay, Bool.true_and]
  exact decide_eq_true (by have := h.dep; omega)
theorem Neat.fits {d : PyData} {dp n : Nat} (h : Neat d dp n) (k : dp ≤ 60) (m : n ≤ 1000000) : d.shown.length ≤ sizeLine := by
  refine PyData.shown_fits_of_layable0 (B := 13) (by decide) (by decide) ?_ h.sho
  have a : d.canLay0 = true := h.lay
  have b : decide (d.depth ≤ 64) = true := decide_eq_true (by have := h.dep; omega)
  have c : decide (d.weight ≤ 2 ^ 20) = true := decide_eq_true (by have := h.wei; omega)
  unfold PyData.layable0
  rw [a, b, c]
  rfl
theorem dp_ints {K : PySem.W.Frag} {H : Hp} : ∀ ns : List Int, DpAll K H (ns.map V.int) (ns.map PyData.int)
  | [] => .nil
  | n :: ns => .cons (.int n) (dp_ints ns)
theorem dp_nats {K : PySem.W.Frag} {H : Hp} : ∀ ns : List Nat, DpAll K H (ns.map nV) (ns.map fun n => PyData.int ((n : Nat) : Int))
  | [] => .nil
  | n :: ns => .cons (.int _) (dp_nats ns)
theorem eqv_nil {ds : List PyData} : PyData.eqvAll ds [] = ds.isEmpty := by cases ds <;> rfl
def Small (v : Int) : Prop := -1000000 ≤ v ∧ v ≤ 1000000
section
variable {P : Program} {w : World} {K : PySem.W.Frag} {mg : Str → Option Value} {base : Heap}
def sp_law_thing (K : PySem.W.Frag) : Sp := fun vs H Q _ => ∃ f c : Addr, vs = [.ref f] ∧ Flow H f c ∧ ∀ (v : Int) (H' : Hp), Small v → Flow H' f c → But f H H' → Q (.int v) H'
theorem ok_law_thing {f : Addr} {fd : FuncData} (F : Fun K "_law_thing" "_law_thing" s_law_thing f fd) (T : Top w K mg) : FnOk P w K mg base CX0 2 f fd ["_law_flow_here"] (sp_law_thing K) := by
  obtain ⟨f_law_pick, fd_law_pick, F_law_pick, b_law_pick, m_law_pick⟩ := T.d_law_pick
  have G_law_pick := ok_law_pick (P := P) (w := w) (base := base) F_law_pick T
  refine F.ok sc_law_thing (fun vs H Q E h => ?_) (fun cdv A outer s H vs Q E hr h => ?_)
  · obtain ⟨f, c, rfl, _⟩ := h
    rfl
  obtain ⟨f, c, rfl, hF, q⟩ := h
  refine ⟨_, (pss_cons (ps_if (pt_cmpR op_gt (pe_call G_law_pick (hr.mono (by decide)) (by rfl) m_law_pick F_law_pick.kp b_law_pick .nil pass0 (pa_cons (pv 0) (pa_cons pe_int pa_nil))) pe_int (nomark _)) (pss_one (ps_ret (pe_op op_sub (pe_call G_law_pick (hr.mono (by decide)) (by rfl) m_law_pick F_law_pick.kp b_law_pick .nil pass0 (pa_cons (pv 0) (pa_cons pe_int pa_nil))) pe_int))) pss_nil)
      (pss_one (ps_ret (pe_op op_sub (pe_call G_law_pick (hr.mono (by decide)) (by rfl) m_law_pick F_law_pick.kp b_law_pick .nil pass0 (pa_cons (pv 0) (pa_cons pe_int pa_nil))) pe_int)))), ?_⟩
  refine ⟨_, rfl, f, c, 3, rfl, by decide, by decide +kernel, hF, fun v1 H1 a1 b1 F1 B1 => ⟨_, _, rfl, rfl, _, rfl, if_bl (fun _ => ?_) (fun _ => ?_)⟩⟩
  · exact ⟨_, rfl, f, c, 7, rfl, by decide, by decide +kernel, F1, fun v2 H2 a2 b2 F2 B2 => ⟨_, _, rfl, rfl, q _ _ ⟨by omega, by omega⟩ F2 (B1.trans B2)⟩⟩
  · exact ⟨_, rfl, f, c, 2000001, rfl, by decide, by decide +kernel, F1, fun v2 H2 a2 b2 F2 B2 => ⟨_, _, rfl, rfl, q _ _ ⟨by omega, by omega⟩ F2 (B1.trans B2)⟩⟩
end
section
variable {P : Program} {w : World} {K : PySem.W.Frag} {mg : Str → Option Value} {base : Heap}
def sp_law_shuffled (K : PySem.W.Frag) : Sp := fun vs H Q _ => ∃ (f c l : Addr) (xs : List V), vs = [.ref f, .ref l] ∧ SqL K H l xs ∧ l ≠ f ∧ xs.length ≤ 500 ∧ Flow H f c ∧
  ∀ (p : Addr) (ys : List V) (H' : Hp), ys.Perm xs → H p = none → H' p = some (.lst ys) → Flow H' f c → But f H H' → Q (.ref p) H'
theorem But.seqL {K : PySem.W.Frag} {f a : Addr} {H H1 : Hp} {xs : List V} (b : But f H H1) (h : SqL K H a xs) (n : a ≠ f) : SqL K H1 a xs := by
  rcases h with h | h
  · left
    rcases h with h | ⟨o, h⟩
    · exact .inl (b _ _ h n)
    · exact .inr ⟨o, b _ _ h n⟩
  · exact .inr h
theorem same_seqL {K : PySem.W.Frag} {a : Addr} {H H1 : Hp} {xs : List V} (b : Same H H1) (h : SqL K H a xs) : SqL K H1 a xs := by
  rcases h with h | h
  · left
    rcases h with h | ⟨o, h⟩
    · exact .inl (b _ _ h)
    · exact .inr ⟨o, b _ _ h⟩
  · exact .inr h
theorem log_small {m : Nat} (h : m ≤ 500) : ((m : Int)).natAbs.log2 < 9000 := by
  rw [Int.natAbs_natCast]
  exact Nat.lt_of_le_of_lt (Nat.log2_le_self m) (by omega)
theorem perm_erase {α : Type} : ∀ {l : List α} {j : Nat} {y : α}, l[j]? = some y → (y :: l.eraseIdx j).Perm l
  | [], _, _, h => nomatch h
  | a :: l, 0, y, h => by
    cases h
    exact List.Perm.refl _
  | a :: l, j + 1, y, h => by
    have ih : (y :: l.eraseIdx j).Perm l := perm_erase h
    exact (List.Perm.swap a y _).trans (ih.cons a)
theorem ok_law_shuffled {f : Addr} {fd : FuncData} (F : Fun K "_law_shuffled" "_law_shuffled" s_law_shuffled f fd) (T : Top w K mg) : FnOk P w K mg base CX0 2 f fd ["_law_flow_here", "_law_some"] (sp_law_shuffled K) := by
  obtain ⟨f_law_pick, fd_law_pick, F_law_pick, b_law_pick, m_law_pick⟩ := T.d_law_pick
  have G_law_pick := ok_law_pick (P := P) (w := w) (base := base) F_law_pick T
  refine F.ok sc_law_shuffled (fun vs H Q E h => ?_) (fun cdv A outer s H vs Q E hr h => ?_)
  · obtain ⟨f, c, l, xs, rfl, _⟩ := h
    rfl
  obtain ⟨f, c, l, xs, rfl, hL, nl, hlen, hF, q⟩ := h
  refine ⟨_, (pss_cons (ps_set (i := 2) sc_law_shuffled.nd rfl (Or.inr rfl) (pe_callTy (call_list_ofK K rfl) (by rfl) T.m_list (by decide +kernel) (pa_cons (pv 1) pa_nil)))
      (pss_one (ps_ret (pe_lc (own := [("_law_k", 3)]) (g := gName 3) (tt := tYes) (by rfl) sc_law_shuffled.nd (pi_range1 (by rfl) T.m_range (pa_cons (pe_callB (call_len_seqK K rfl) (by rfl) T.m_len (by decide +kernel) (pa_cons (pv 1) pa_nil)) pa_nil)) (blkOk_by (own := [("_law_k", 3)]) (N := N_law_shuffled) (sc := defScope s_law_shuffled) (by decide +kernel)) (fun _ _ _ _ _ => (pg_name (i := 3) sc_law_shuffled.nd rfl (Or.inl rfl))) (fun _ _ _ _ _ => pts_nil) (fun _ _ _ _ _ => (pe_bmK K rfl PySem.F.plainAttrs_list PySem.F.slot_list_pop PySem.F.type_list_pop mt_popAt (pv 2) (pa_cons (pe_call G_law_pick (hr.mono (by decide)) (by rfl) m_law_pick F_law_pick.kp b_law_pick .nil pass0 (pa_cons (pv 0) (pa_cons (pe_callB (call_len_seqK K rfl) (by rfl) T.m_len (by decide +kernel) (pa_cons (pv 2) pa_nil)) pa_nil))) pa_nil))))))), ?_⟩
  refine ⟨_, rfl, l, _, rfl, .inl hL, fun lf nlf => ?_⟩
  refine ⟨_, rfl, l, _, rfl, .inl (same_seqL (same_new nlf) hL), _, rfl, by omega, (by omega), fun D nD => ?_⟩
  have F1 : Flow (upd H lf (.lst xs)) f c := hF.new nlf
  have dl : D ≠ lf := (ne_of_none upd_same nD).symm
  refine lc_range (lo := 0) (n := xs.length) (fun i H5 => ∃ acc rest : List V, H5 D = some (.lst acc) ∧ H5 lf = some (.lst rest) ∧ acc.length = i ∧ rest.length + i = xs.length ∧ (acc ++ rest).Perm xs ∧ Flow H5 f c ∧ But f H H5)
    ⟨[], xs, upd_same, by rw [upd_ne dl.symm]; exact upd_same, rfl, by omega, List.Perm.refl _, F1.new nD, (But.refl.new nlf).new nD⟩ ?_ ?_
  · rintro i H5 hi ⟨acc, rest, hD, hl, ha, hr2, hp, F5, B5⟩
    refine ⟨rfl, yes_in ?_⟩
    refine ⟨_, rfl, .inl ⟨rfl, _, SqL.of hl⟩, _, rfl, _, rfl, lf, _, rfl, .inl (SqL.of hl), f, c, ((rest.length : Nat) : Int), rfl, by omega, log_small (by omega), F5, fun v H6 v0 v1 F6 B6 => ?_⟩
    have hl6 := B6 _ _ hl (hF.ne nlf)
    have hv : v.toNat < rest.length := by omega
    have e1 : seqIndex? v rest.length = some v.toNat := by
      rw [seqIndex_of v0 (by omega)]
    refine ⟨lf, rest, v, v.toNat, rest[v.toNat], rfl, rfl, hl6, by omega, by omega, e1, List.getElem?_eq_getElem hv, ?_⟩
    have hD6 := B6 _ _ hD (fun e => by rw [e] at nD; rw [show upd H lf (.lst xs) f = H f from upd_ne (hF.ne nlf).symm] at nD; obtain ⟨_, _, _, _, _, e1, _⟩ := hF; rw [e1] at nD; cases nD)
    refine ⟨acc, by rw [upd_ne dl]; exact hD6, small1000 (by omega), acc ++ [rest[v.toNat]], rest.eraseIdx v.toNat, upd_same, by rw [upd_ne dl.symm]; exact upd_same, by rw [List.length_append, ha]; rfl, ?_, ?_, ?_, ?_⟩
    · rw [List.length_eraseIdx, if_pos hv]
      omega
    · refine List.Perm.trans ?_ hp
      rw [List.append_assoc]
      exact List.Perm.append_left acc (perm_erase (List.getElem?_eq_getElem hv))
    · have dc : D ≠ c := fun e => by
        rw [e] at nD
        obtain ⟨_, _, _, _, _, _, e1, _⟩ := F1
        rw [e1] at nD
        cases nD
      exact (F6.lst (hF.ne nlf) (hF.nec nlf)).lst (F1.ne nD) dc
    · exact ((B5.trans B6).own nlf).own (same_none (same_new nlf) nD)
  · rintro H5 ⟨acc, rest, hD, hl, ha, hr2, hp, F5, B5⟩
    have er : rest = [] := by
      cases rest with
      | nil => rfl
      | cons a l => simp at hr2
    subst er
    rw [List.append_nil] at hp
    exact q D acc H5 hp (same_none (same_new nlf) nD) hD F5 B5
end
/-! ### a text's signs as a list; a text several times -/
section
variable {X : Cx}
theorem call_list_strK (hc : X.calm = true) : CallR X (.type "list") (fun xs H Q => ∃ z : Str, xs = [.str z] ∧ z.cps.size ≤ sizeLine ∧ ∀ l, H l = none → Q (.ref l) (upd H l (.lst (z.cps.toList.map fun c => V.str ⟨#[c]⟩)))) := by
  intro pins st σ H xs us Q J rel asked
  obtain ⟨z, rfl, hz, now⟩ := asked
  obtain ⟨u, rfl, t, rfl⟩ := vals1 rel
  refine call_list_str (J.ok.hd hc) z t (fun h' tk acc c kp at_ items => ?_) hz
  have len : (z.cps.toList.map fun c => V.str ⟨#[c]⟩).length = acc.toList.length := by
    rw [List.length_map, Array.length_toList, Array.length_toList, items.1]
  refine ⟨.ref st.heap.objs.size, upd H st.heap.objs.size (.lst (z.cps.toList.map fun c => V.str ⟨#[c]⟩)), J.laid kp (Nat.le_refl _) (show ObjOk X.prog X.w _ _ _ (.lst (z.cps.toList.map fun c => V.str ⟨#[c]⟩)) from ⟨by rw [List.length_map, Array.length_toList]; exact hz, acc.toList, c, ?_, ?_⟩), rfl, now _ (J.hok.fresh (Nat.le_refl _))⟩
  · refine vals_of_at len fun j x v e1 e2 => ?_
    obtain ⟨cc, tt, e3, e4⟩ := items.2 j v (by rw [← Array.getElem?_toList]; exact e2)
    rw [List.getElem?_map, Array.getElem?_toList, e3] at e1
    have e1 : V.str ⟨#[cc]⟩ = x := Option.some.inj e1
    subst e1
    exact ⟨tt, e4⟩
  · rw [Array.toArray_toList]
    exact at_
theorem op_rep_str : OpR X (binaryOp .Mult) (fun x y H Q => ∃ (z : Str) (n : Int), x = .str z ∧ y = .int n ∧ MulOk z n ∧ Q (.str (Txt.mul z n)) H) := by
  intro pins st σ H x y v u Q J rx ry asked
  obtain ⟨z, n, rfl, rfl, hm, now⟩ := asked
  obtain ⟨t, rfl⟩ := rx
  obtain ⟨t2, rfl⟩ := ry
  exact PySem.SB.mul hm fun t3 k => ⟨.str (Txt.mul z n), H, J.tok _, ⟨_, rfl⟩, now⟩
end
/-! ### words and names drawn -/
abbrev cps (z : Str) : List Nat := z.cps.toList
theorem strlen (x : Str) : x.length = (cps x).length := by simp [Str.length, cps]
theorem join_cps : ∀ ys : List Str, cps (Txt.join "" ys) = ys.flatMap cps := by
  intro ys
  rw [TL.join_eq]
  induction ys with
  | nil => rfl
  | cons x r ih =>
    cases r with
    | nil => rw [List.flatMap_cons, List.flatMap_nil, List.append_nil]; rfl
    | cons y r =>
      have e : (Str.join "" (x :: y :: r)) = (x ++ ("" : Str)) ++ Str.join "" (y :: r) := rfl
      rw [e, List.flatMap_cons, ← ih]
      show ((x.cps ++ ("" : Str).cps) ++ (Str.join "" (y :: r)).cps).toList = _
      rw [Array.toList_append, Array.toList_append, show ("" : Str).cps.toList = [] from by decide +kernel, List.append_nil]
theorem join_len : ∀ ys : List Str, (Txt.join "" ys).length = (ys.map (·.length)).sum := by
  intro ys
  rw [strlen, join_cps, List.length_flatMap]
  congr 1
theorem ones_sum : ∀ {ys : List Str}, (∀ y ∈ ys, y.length = 1) → (ys.map (·.length)).sum = ys.length
  | [], _ => rfl
  | y :: r, h => by
    have a := h y (List.mem_cons_self ..)
    have b := ones_sum fun z hz => h z (List.mem_cons_of_mem _ hz)
    rw [List.map_cons, List.sum_cons, List.length_cons, a, b]
    omega
theorem ones_fit {ys : List Str} (h : ∀ y ∈ ys, y.length = 1) (l : ys.length ≤ 1000) : (ys.map (·.length)).sum + ys.length * Str.length "" ≤ 16777216 := by
  rw [ones_sum h, show Str.length ("" : Str) = 0 by decide +kernel]
  omega
theorem str_inj {a b : Str} (h : cps a = cps b) : a = b := by
  obtain ⟨⟨a⟩⟩ := a
  obtain ⟨⟨b⟩⟩ := b
  have h : a = b := h
  rw [h]
def Ltr (z : Str) : Prop := ∀ c ∈ cps z, 97 ≤ c ∧ c ≤ 122
/-- a word of one to m letters -/
structure Wd (m : Nat) (z : Str) : Prop where
  lo : 1 ≤ z.length
  hi : z.length ≤ m
  ltr : Ltr z
theorem letters_ok : ∀ c ∈ cps "abcdefghijklmnopqrstuvwxyz", 97 ≤ c ∧ c ≤ 122 := by decide +kernel
theorem sign_at {z : Str} {v : Int} (h0 : 0 ≤ v) (h1 : v < (z.length : Int)) : ∃ c, atI z.cps.toList v = some c ∧ c ∈ cps z := by
  have hl : z.cps.toList.length = z.length := Array.length_toList
  have hk : v.toNat < z.cps.toList.length := by omega
  have q : atI z.cps.toList ((v.toNat : Nat) : Int) = some z.cps.toList[v.toNat] := atI_nat (List.getElem?_eq_getElem hk)
  rw [show ((v.toNat : Nat) : Int) = v by omega] at q
  exact ⟨_, q, List.getElem_mem hk⟩
def takL : List Str := ["in", "out", "was", "if", "then", "else", "most", "least"]
section
variable {P : Program} {w : World} {K : PySem.W.Frag} {mg : Str → Option Value} {base : Heap}
def sp_law_word (K : PySem.W.Frag) : Sp := fun vs H Q _ => ∃ (f c : Addr) (m : Nat), vs = [.ref f, nV m] ∧ 1 ≤ m ∧ m ≤ 8 ∧ Flow H f c ∧ ∀ (a : Str) (H' : Hp), Wd m a → Flow H' f c → But f H H' → Q (.str a) H'
theorem ok_law_word {f : Addr} {fd : FuncData} (F : Fun K "_law_word" "_law_word" s_law_word f fd) (T : Top w K mg) : FnOk P w K mg base CX0 2 f fd ["_law_flow_here", "_law_most"] (sp_law_word K) := by
  obtain ⟨f_law_pick, fd_law_pick, F_law_pick, b_law_pick, m_law_pick⟩ := T.d_law_pick
  have G_law_pick := ok_law_pick (P := P) (w := w) (base := base) F_law_pick T
  refine F.ok sc_law_word (fun vs H Q E h => ?_) (fun cdv A outer s H vs Q E hr h => ?_)
  · obtain ⟨f, c, m, rfl, _⟩ := h
    rfl
  obtain ⟨f, c, m, rfl, m1, m8, hF, q⟩ := h
  refine ⟨_, (pss_cons (ps_set (i := 2) sc_law_word.nd rfl (Or.inr rfl) pe_str)
      (pss_one (ps_ret (pe_join pe_str (pe_lc (own := [("_law_k", 3)]) (g := gName 3) (tt := tYes) (by rfl) sc_law_word.nd (pi_range1 (by rfl) T.m_range (pa_cons (pe_op op_add pe_int (pe_call G_law_pick (hr.mono (by decide)) (by rfl) m_law_pick F_law_pick.kp b_law_pick .nil pass0 (pa_cons (pv 0) (pa_cons (pv 1) pa_nil)))) pa_nil)) (blkOk_by (own := [("_law_k", 3)]) (N := N_law_word) (sc := defScope s_law_word) (by decide +kernel)) (fun _ _ _ _ _ => (pg_name (i := 3) sc_law_word.nd rfl (Or.inl rfl))) (fun _ _ _ _ _ => pts_nil) (fun _ _ _ _ _ => (pe_ix ix_str (pv 2) (pe_call G_law_pick (hr.mono (by decide)) (by rfl) m_law_pick F_law_pick.kp b_law_pick .nil pass0 (pa_cons (pv 0) (pa_cons pe_int pa_nil))) (fun _ _ => rfl)))))))), ?_⟩
  refine ⟨⟨_, rfl⟩, ?_⟩
  refine ⟨_, rfl, _, rfl, f, c, ((m : Nat) : Int), rfl, by omega, log_small (by omega), hF, fun tv H1 t0 t1 F1 B1 => ?_⟩
  refine ⟨_, _, rfl, rfl, _, rfl, by omega, by omega, fun D nD => lc_range (lo := 0) (n := (1 + tv).toNat) (fun i H5 => ∃ ys : List Str, H5 D = some (.lst (ys.map V.str)) ∧ ys.length = i ∧ (∀ y ∈ ys, y.length = 1) ∧ (∀ y ∈ ys, Ltr y) ∧ Flow H5 f c ∧ But f H1 H5) ⟨[], upd_same, rfl, (fun _ z => nomatch z), (fun _ z => nomatch z), F1.new nD, But.refl.new nD⟩ ?_ ?_⟩
  · rintro i H5 hi ⟨ys, hD, ly, on, lt, F5, B5⟩
    have mf : D ≠ f := F1.ne nD
    have mc : D ≠ c := F1.nec nD
    refine ⟨rfl, yes_in ⟨_, rfl, _, rfl, f, c, 26, rfl, by decide, by decide +kernel, F5, fun v H6 v0 v1 F6 B6 => ?_⟩⟩
    obtain ⟨cc, ec, mc2⟩ := sign_at (z := "abcdefghijklmnopqrstuvwxyz") v0 (by rw [show Str.length "abcdefghijklmnopqrstuvwxyz" = 26 by decide +kernel]; exact v1)
    refine ⟨_, v, cc, rfl, rfl, by decide +kernel, ec, _, B6 _ _ hD mf, ?_, ys ++ [⟨#[cc]⟩], ?_, ?_, ?_, ?_, F6.lst mf mc, (B5.trans B6).own nD⟩
    · rw [List.length_map, ly]; exact small1000 (by omega)
    · rw [upd_same, List.map_append]; rfl
    · rw [List.length_append, ly]; rfl
    · intro z hz
      rcases List.mem_append.mp hz with hz | hz
      · exact on z hz
      · rw [List.mem_singleton.mp hz]; rfl
    · intro z hz
      rcases List.mem_append.mp hz with hz | hz
      · exact lt z hz
      · rw [List.mem_singleton.mp hz]
        intro d hd
        obtain rfl : d = cc := List.mem_singleton.mp hd
        exact letters_ok d mc2
  · rintro H5 ⟨ys, hD, ly, on, lt, F5, B5⟩
    refine ⟨_, D, ys, rfl, rfl, .inl (SqL.of hD), ones_fit on (by omega), ?_⟩
    refine q _ _ ⟨?_, ?_, ?_⟩ F5 (B1.trans B5)
    · rw [join_len, ones_sum on]; omega
    · rw [join_len, ones_sum on]; omega
    · intro d hd
      rw [join_cps] at hd
      obtain ⟨y, hy, hd⟩ := List.mem_flatMap.mp hd
      exact lt y hy d hd
def sp_law_taken (K : PySem.W.Frag) : Sp := fun vs H Q _ => vs = [] ∧ ∀ (p : Addr) (H' : Hp), H p = none → H' p = some (.lst (takL.map V.str)) → Same H H' → Q (.ref p) H'
theorem ok_law_taken {f : Addr} {fd : FuncData} (F : Fun K "_law_taken" "_law_taken" s_law_taken f fd) (T : Top w K mg) : FnOk P w K mg base CX0 1 f fd [] (sp_law_taken K) := by
  refine F.ok sc_law_taken (fun vs H Q E h => ?_) (fun cdv A outer s H vs Q E hr h => ?_)
  · obtain ⟨rfl, _⟩ := h
    rfl
  obtain ⟨rfl, q⟩ := h
  refine ⟨_, (pss_one (ps_ret (pe_lst (pa_cons pe_str (pa_cons pe_str (pa_cons pe_str (pa_cons pe_str (pa_cons pe_str (pa_cons pe_str (pa_cons pe_str (pa_cons pe_str pa_nil))))))))))), ?_⟩
  exact ⟨(by show 8 ≤ sizeLine; decide), fun p hp => q p _ hp upd_same (same_new hp)⟩
end
def ZA : Str := "zyxwvutsrqponmlkjihgfedcba"
def zaS (j : Nat) : Str := ⟨#[122 - j]⟩
theorem za_at : ∀ j < 26, (cps ZA)[j]? = some (122 - j) := by decide +kernel
theorem zaS_inj {i j : Nat} (hi : i < 26) (hj : j < 26) (h : zaS i = zaS j) : i = j := by
  have : cps (zaS i) = cps (zaS j) := by rw [h]
  have : [122 - i] = [122 - j] := this
  have := (List.cons.inj this).1
  omega
theorem zaS_wd {j : Nat} (h : j < 26) : Wd 6 (zaS j) := ⟨Nat.le_refl 1, (by show 1 ≤ 6; decide), fun c hc => by
  obtain rfl : c = 122 - j := List.mem_singleton.mp hc
  omega⟩
theorem za_few {s : Nat} {forb : List Str} (hs : s < 26) (h : ∀ j, j < s → zaS j ∈ forb) : s ≤ forb.length := by
  have := few_in (l := (List.range s).map zaS) (m := forb) ?_ ?_
  · rwa [List.length_map, List.length_range] at this
  · rw [List.nodup_iff_pairwise_ne, List.pairwise_map]
    exact List.Pairwise.imp_of_mem (fun {a b} ha hb n e => n (zaS_inj (by have := List.mem_range.mp ha; omega) (by have := List.mem_range.mp hb; omega) e)) (List.nodup_iff_pairwise_ne.mp List.nodup_range)
  · intro x hx
    obtain ⟨j, hj, rfl⟩ := List.mem_map.mp hx
    exact h j (List.mem_range.mp hj)
theorem cut6 {z : Str} (h : z.length ≤ 6) : cutS z none (some 6) = z := by
  refine str_inj ?_
  unfold cutS
  show (List.take _ (List.drop _ (cps z))) = cps z
  rw [show (6 : Int) = ((6 : Nat) : Int) from rfl, HT.sIx_nat, HT.sIx_none, List.drop_zero, Nat.sub_zero, Nat.min_eq_right h, List.take_of_length_le (by rw [← strlen]; exact Nat.le_refl _)]
theorem Wd.cat {a b : Nat} {x y : Str} (h : Wd a x) (g : Wd b y) : Wd (a + b) (x ++ y) := by
  have e : (x ++ y).length = x.length + y.length := Array.size_append ..
  refine ⟨by rw [e]; have := h.lo; omega, by rw [e]; exact Nat.add_le_add h.hi g.hi, fun c hc => ?_⟩
  have hc : c ∈ (x.cps ++ y.cps).toList := hc
  rw [Array.toList_append] at hc
  rcases List.mem_append.mp hc with z | z
  · exact h.ltr c z
  · exact g.ltr c z
theorem mul_one (z : Str) : Txt.mul z 1 = z := rfl
theorem mulOk_one (z : Str) : MulOk z 1 := ⟨by decide, fun _ h => by simp at h, fun _ h => by simp at h⟩
theorem flat_strs (l : List Str) : (l.map V.str).all flatV = true := List.all_eq_true.mpr fun x hx => by
  obtain ⟨y, _, rfl⟩ := List.mem_map.mp hx
  rfl
theorem or_in {K : PySem.W.Frag} {nm : Str} {ns : List Str} {p : Addr} {σ : L2.St} {H : Hp} {Q : Bool → Hp → Prop} (h5 : σ[5]? = some (some (.str nm))) (h2 : σ[2]? = some (some (.ref p))) (hp : H p = some (.lst (ns.map V.str))) (yes : ∀ Hx, Same H Hx → nm ∈ ns ++ takL → Q true Hx) (no : ∀ Hx, Same H Hx → nm ∉ ns ++ takL → Q false Hx) :
    tOr (tTest (tOp (rIn K false) (tVar 5) (tVar 2))) (tTest (tOp (rIn K false) (tVar 5) (tCall (sp_law_taken K) [] E0 tNil))) σ H Q := by
  refine ⟨_, h5, _, h2, p, _, rfl, .inl (SqL.of hp), rfl, flat_strs ns, _, rfl, if_in (zs := ns) (fun e => ?_) (fun e => ?_)⟩
  · exact yes H (Same.refl _) (List.mem_append.mpr (.inl e))
  · refine ⟨_, h5, rfl, fun p2 H1 np hp1 s1 => ⟨p2, _, rfl, .inl (SqL.of hp1), rfl, flat_strs takL, _, rfl, ?_⟩⟩
    cases c : inV (.str nm) (takL.map V.str) with
    | true => exact yes H1 s1 (List.mem_append.mpr (.inr (inV_strs.mp c)))
    | false => exact no H1 s1 fun z => (List.mem_append.mp z).elim e fun z => by rw [inV_strs.mpr z] at c; cases c
section
variable {P : Program} {w : World} {K : PySem.W.Frag} {mg : Str → Option Value} {base : Heap}
def sp_law_names (K : PySem.W.Frag) : Sp := fun vs H Q _ => ∃ (f c : Addr) (m : Nat), vs = [.ref f, nV m] ∧ 1 ≤ m ∧ m ≤ 9 ∧ Flow H f c ∧ ∀ (p : Addr) (ns : List Str) (H' : Hp), H p = none → H' p = some (.lst (ns.map V.str)) → ns.length = m → ns.Nodup → (∀ z ∈ ns, Wd 6 z ∧ z ∉ takL) → Flow H' f c → But f H H' → Q (.ref p) H'
theorem ok_law_names {f : Addr} {fd : FuncData} (F : Fun K "_law_names" "_law_names" s_law_names f fd) (T : Top w K mg) : FnOk P w K mg base CX0 3 f fd ["_law_flow_here", "_law_many"] (sp_law_names K) := by
  obtain ⟨f_law_word, fd_law_word, F_law_word, b_law_word, m_law_word⟩ := T.d_law_word
  have G_law_word := ok_law_word (P := P) (w := w) (base := base) F_law_word T
  obtain ⟨f_law_pick, fd_law_pick, F_law_pick, b_law_pick, m_law_pick⟩ := T.d_law_pick
  have G_law_pick := ok_law_pick (P := P) (w := w) (base := base) F_law_pick T
  obtain ⟨f_law_taken, fd_law_taken, F_law_taken, b_law_taken, m_law_taken⟩ := T.d_law_taken
  have G_law_taken := ok_law_taken (P := P) (w := w) (base := base) F_law_taken T
  refine F.ok sc_law_names (fun vs H Q E h => ?_) (fun cdv A outer s H vs Q E hr h => ?_)
  · obtain ⟨f, c, m, rfl, _⟩ := h
    rfl
  obtain ⟨f, c, mm, rfl, mm1, mm9, hF, q⟩ := h
  refine ⟨_, (pss_cons (ps_set (i := 2) sc_law_names.nd rfl (Or.inl rfl) (pe_lst pa_nil))
      (pss_cons (ps_set (i := 3) sc_law_names.nd rfl (Or.inl rfl) (pe_call G_law_word (hr.mono (by decide)) (by rfl) m_law_word F_law_word.kp b_law_word .nil pass0 (pa_cons (pv 0) (pa_cons pe_int pa_nil))))
      (pss_cons (ps_for PassesOwn.never rfl (pi_range1 (by rfl) T.m_range (pa_cons (pv 1) pa_nil)) (pg_name (i := 4) sc_law_names.nd rfl (Or.inl rfl))
        (pss_cons (ps_set (i := 5) sc_law_names.nd rfl (Or.inl rfl) (pe_ix (ix_listK K rfl) (pe_lst (pa_cons (pe_call G_law_word (hr.mono (by decide)) (by rfl) m_law_word F_law_word.kp b_law_word .nil pass0 (pa_cons (pv 0) (pa_cons pe_int pa_nil))) (pa_cons (pe_slice sl_str (pe_op op_add_str (pv 3) (pe_call G_law_word (hr.mono (by decide)) (by rfl) m_law_word F_law_word.kp b_law_word .nil pass0 (pa_cons (pv 0) (pa_cons pe_int pa_nil)))) po_none (po_some pe_int)) (pa_cons (pv 3) pa_nil)))) (pe_call G_law_pick (hr.mono (by decide)) (by rfl) m_law_pick F_law_pick.kp b_law_pick .nil pass0 (pa_cons (pv 0) (pa_cons pe_int pa_nil))) (fun _ _ => rfl)))
      (pss_cons (ps_set (i := 6) sc_law_names.nd rfl (Or.inl rfl) pe_int)
      (pss_cons (ps_while PassesOwn.never (PW.pt (pw_or (pt_cmpR (op_in_seqK K rfl) (pv 5) (pv 2) (by with_unfolding_all rfl)) (pw_or1 (pt_cmpR (op_in_seqK K rfl) (pv 5) (pe_call0 G_law_taken (hr.mono (by decide)) (by rfl) m_law_taken F_law_taken.kp b_law_taken .nil pass0) (by with_unfolding_all rfl)))))
        (pss_cons (ps_set (i := 5) sc_law_names.nd rfl (Or.inl rfl) (pe_op op_rep_str (pe_ix ix_str pe_str (pe_op op_mod (pv 6) pe_int) (fun _ _ => rfl)) (pe_op op_add pe_int (pe_op op_fdiv (pv 6) pe_int))))
      (pss_one (ps_set (i := 6) sc_law_names.nd rfl (Or.inl rfl) (pe_op op_add (pv 6) pe_int)))))
      (pss_one (ps_expr (pe_bmK K rfl PySem.F.plainAttrs_list PySem.F.slot_list_append PySem.F.type_list_append mt_append (pv 2) (pa_cons (pv 5) pa_nil))))))))
      (pss_one (ps_ret (pv 2)))))), ?_⟩
  refine ⟨(by show 0 ≤ sizeLine; decide), fun p np => ?_⟩
  have pf : p ≠ f := hF.ne np
  have pc : p ≠ c := hF.nec np
  have F0 := hF.new (o := .lst []) np
  have B0 : But f H (upd H p (.lst [])) := But.refl.new np
  have hp0 : (upd H p (.lst [])) p = some (.lst []) := upd_same
  generalize upd H p (.lst []) = H0 at F0 B0 hp0 ⊢
  refine ⟨_, rfl, f, c, 4, rfl, by decide, by decide, F0, fun stem H1 ws F1 B1 => ?_⟩
  have hp1 := B1 _ _ hp0 pf
  have nstem : Wd 6 stem := ⟨ws.lo, Nat.le_trans ws.hi (by decide), ws.ltr⟩
  refine ⟨_, rfl, _, rfl, by omega, by omega, for_range (lo := 0) (n := ((mm : Nat) : Int).toNat) (fun i σ H5 => ∃ (ns : List Str) (v4 v5 v6 : Option V), σ = [some (.ref f), some (nV mm), some (.ref p), some (.str stem), v4, v5, v6] ∧ H5 p = some (.lst (ns.map V.str)) ∧ ns.length = i ∧ ns.Nodup ∧ (∀ z ∈ ns, Wd 6 z ∧ z ∉ takL) ∧ Flow H5 f c ∧ But f H H5) ⟨[], none, none, none, rfl, hp1, rfl, List.nodup_nil, (fun _ z => nomatch z), F1, B0.trans B1⟩ ?_ ?_⟩
  · rintro i σ H5 hi ⟨ns, v4, v5, v6, rfl, hp5, ln, nd, gd, F5, B5⟩
    refine ⟨_, rfl, f, c, 6, rfl, by decide, by decide, F5, fun w1 H6 g1 F6 B6 => ?_⟩
    refine ⟨_, rfl, _, rfl, f, c, 2, rfl, by decide, by decide, F6, fun w2 H7 g2 F7 B7 => ?_⟩
    have ls : stem.length + w2.length ≤ 6 := by
      have := ws.hi
      have := g2.hi
      omega
    refine ⟨_, _, rfl, rfl, little (by omega), ?_⟩
    refine ⟨_, rfl, _, rfl, little (by rw [show (stem ++ w2).length = stem.length + w2.length from Array.size_append ..]; omega), ?_⟩
    refine ⟨_, rfl, (by show 3 ≤ sizeLine; decide), fun l nl => ?_⟩
    have mlf : l ≠ f := F7.ne nl
    have mlp : p ≠ l := fun z => by
      rw [← z] at nl
      rw [B7 _ _ (B6 _ _ hp5 pf) pf] at nl
      cases nl
    have F8 := F7.new (o := .lst [V.str w1, V.str (cutS (stem ++ w2) none (some 6)), V.str stem]) nl
    have B8 := ((B5.trans B6).trans B7).new (o := .lst [V.str w1, V.str (cutS (stem ++ w2) none (some 6)), V.str stem]) nl
    have hl8 : (upd H7 l (.lst [V.str w1, V.str (cutS (stem ++ w2) none (some 6)), V.str stem])) l = some (.lst [V.str w1, V.str (cutS (stem ++ w2) none (some 6)), V.str stem]) := upd_same
    have hp8 : (upd H7 l (.lst [V.str w1, V.str (cutS (stem ++ w2) none (some 6)), V.str stem])) p = some (.lst (ns.map V.str)) := by
      rw [upd_ne mlp]
      exact B7 _ _ (B6 _ _ hp5 pf) pf
    generalize upd H7 l (.lst [V.str w1, V.str (cutS (stem ++ w2) none (some 6)), V.str stem]) = H8 at F8 B8 hl8 hp8 ⊢
    refine ⟨_, rfl, f, c, 3, rfl, by decide, by decide +kernel, F8, fun v H9 v0 v1 F9 B9 => ?_⟩
    have hl9 := B9 _ _ hl8 mlf
    have hp9 := B9 _ _ hp8 pf
    have B9 := B8.trans B9
    obtain ⟨nm, en, gnm⟩ : ∃ nm, atI [V.str w1, V.str (cutS (stem ++ w2) none (some 6)), V.str stem] v = some (.str nm) ∧ Wd 6 nm := by
      have : v = 0 ∨ v = 1 ∨ v = 2 := by omega
      rcases this with rfl | rfl | rfl
      · exact ⟨w1, atI_nat (j := 0) rfl, g1⟩
      · exact ⟨_, atI_nat (j := 1) rfl, by
          rw [cut6 (by rw [show (stem ++ w2).length = stem.length + w2.length from Array.size_append ..]; exact ls)]
          exact ws.cat g2⟩
      · exact ⟨stem, atI_nat (j := 2) rfl, nstem⟩
    refine ⟨l, _, v, _, rfl, rfl, SqL.of hl9, en, ?_⟩
    let W : Nat → L2.St → Hp → Prop := fun m σ H10 => ∃ (nm : Str) (sp : Nat), σ = [some (.ref f), some (nV mm), some (.ref p), some (.str stem), some (.int (0 + (i : Int))), some (.str nm), some (nV sp)] ∧ Wd 6 nm ∧ (∀ j, j + 1 < sp → zaS j ∈ ns ++ takL) ∧ (∀ j, sp = j + 1 → nm = zaS j) ∧ sp ≤ 18 ∧ m = 20 - sp ∧ Same H9 H10
    refine ⟨W, ⟨_, nm, 0, rfl, gnm, (fun j z => absurd z (by omega)), (fun j z => absurd z (by omega)), by decide, rfl, Same.refl _⟩, ?_⟩
    rintro m σ H10 ⟨nm, sp, rfl, gn, f1, f2, l18, rfl, s10⟩
    have lnf : (ns ++ takL).length ≤ 16 := by
      rw [List.length_append, show takL.length = 8 from rfl]
      omega
    refine or_in rfl rfl (s10 _ _ hp9) (fun H11 s11 e => ?_) (fun H11 s11 e => ?_)
    · have sx := s10.trans s11
      have all : ∀ j, j < sp → zaS j ∈ ns ++ takL := fun j hj => by
        by_cases z : j + 1 = sp
        · rw [← f2 j z.symm]; exact e
        · exact f1 j (by omega)
      have l16 : sp ≤ 16 := Nat.le_trans (za_few (by omega) all) lnf
      refine if_bl (fun _ => ?_) (fun z => nomatch z)
      refine ⟨fun σ' H' => ∃ m', m' < 20 - sp ∧ W m' σ' H', fun _ _ z => z, ?_⟩
      have e1 : (nV sp, V.int 26) = (V.int (sp : Int), V.int 26) := rfl
      have m26 : ((sp : Int) % 26) = ((sp : Nat) : Int) := by omega
      have d26 : ((sp : Int) / 26) = 0 := by omega
      refine ⟨_, rfl, _, _, rfl, rfl, (by show (0 : Int) < 26; decide), _, _, 122 - sp, rfl, rfl, by decide, ?_, _, rfl, _, _, rfl, rfl, ⟨by decide, by decide⟩, _, _, rfl, rfl, _, _, rfl, rfl, ?_, ?_⟩
      · rw [m26]
        exact atI_nat (za_at sp (by omega))
      · rw [d26]
        exact mulOk_one _
      rw [d26]
      have nx : Txt.mul ⟨#[122 - sp]⟩ (1 + 0) = zaS sp := rfl
      rw [nx]
      refine ⟨_, rfl, _, _, rfl, rfl, 20 - (sp + 1), by omega, zaS sp, sp + 1, ?_, zaS_wd (by omega), fun j hj => all j (by omega), fun j hj => by rw [show j = sp by omega], by omega, rfl, sx⟩
      show [some (V.ref f), some (nV mm), some (V.ref p), some (V.str stem), some (V.int (0 + (i : Int))), some (V.str (zaS sp)), some (V.int ((sp : Int) + 1))] = _
      rw [show ((sp : Int) + 1) = (((sp + 1 : Nat)) : Int) by omega]
    · have sx := s10.trans s11
      refine if_bl (fun z => nomatch z) (fun _ => ?_)
      have hp11 := sx _ _ hp9
      refine ⟨_, rfl, .inl ⟨rfl, _, SqL.of hp11⟩, _, rfl, p, _, _, rfl, rfl, hp11, small1000 (by rw [List.length_map]; omega), ns ++ [nm], _, _, _, rfl, ?_, ?_, ?_, fun z hz => ?_, (F9.same sx).lst pf pc, (B9.same sx).own np⟩
      · rw [upd_same, List.map_append]; rfl
      · rw [List.length_append, ln]; rfl
      · rw [List.nodup_append]
        exact ⟨nd, by simp, fun a ha b hb z => e (List.mem_append.mpr (.inl (by rw [← List.mem_singleton.mp hb, ← z]; exact ha)))⟩
      · rcases List.mem_append.mp hz with z | z
        · exact gd _ z
        · rw [List.mem_singleton.mp z]
          exact ⟨gn, fun y => e (List.mem_append.mpr (.inr y))⟩
  · rintro σ H5 ⟨ns, v4, v5, v6, rfl, hp5, ln, nd, gd, F5, B5⟩
    exact ⟨_, rfl, q p ns H5 np hp5 (by omega) nd gd F5 B5⟩
end
theorem All2.perm {α β : Type} {R : α → β → Prop} : ∀ {as as' : List α} {bs : List β}, as'.Perm as → All2 R as bs → ∃ bs' : List β, bs'.Perm bs ∧ All2 R as' bs' := by
  intro as as' bs p
  induction p generalizing bs with
  | nil => intro a; exact ⟨bs, .refl _, a⟩
  | cons x _ ih =>
    intro a
    cases a with
    | cons h t => obtain ⟨b', p', a'⟩ := ih t; exact ⟨_ :: b', p'.cons _, .cons h a'⟩
  | swap x y l =>
    intro a
    cases a with
    | cons h t => cases t with
      | cons h2 t2 => exact ⟨_ :: _ :: _, .swap .., .cons h2 (.cons h t2)⟩
  | trans _ _ ih1 ih2 =>
    intro a
    obtain ⟨b1, p1, a1⟩ := ih2 a
    obtain ⟨b2, p2, a2⟩ := ih1 a1
    exact ⟨b2, p2.trans p1, a2⟩
/-! ### trees drawn -/
def Tr.small : Tr → Prop
  | .nm _ _ => True
  | .no i => Small i
  | .tm k t => (-9 ≤ k ∧ k ≤ 9) ∧ t.small
  | .o2 _ a b => a.small ∧ b.small
  | .o3 a b c => a.small ∧ b.small ∧ c.small
structure TOk (now names : List Str) (t : Tr) : Prop where
  ln : ∀ q ∈ t.leans, (q.2 = 0 ∧ q.1 ∈ now) ∨ (1 ≤ q.2 ∧ q.2 ≤ 6 ∧ q.1 ∈ names)
  sm : t.small
theorem Flow.neS {H : Hp} {f c p : Addr} {zs : List Str} (h : Flow H f c) (e : H p = some (.lst (zs.map V.str))) : p ≠ f := fun z => by
  obtain ⟨ns, i, a, q, r, e1, _⟩ := h
  rw [z, e1] at e
  cases zs with
  | nil => cases e
  | cons y zs => cases e
theorem at_strs {zs : List Str} {v : Int} (h0 : 0 ≤ v) (h1 : v < (zs.length : Int)) : ∃ z, atI (zs.map V.str) v = some (.str z) ∧ z ∈ zs := by
  have hk : v.toNat < zs.length := by omega
  have q : atI (zs.map V.str) ((v.toNat : Nat) : Int) = some (.str zs[v.toNat]) := atI_nat (by rw [List.getElem?_map, List.getElem?_eq_getElem hk]; rfl)
  rw [show ((v.toNat : Nat) : Int) = v by omega] at q
  exact ⟨_, q, List.getElem_mem hk⟩
theorem Wd.lay {m : Nat} {z : Str} (h : Wd m z) : PyData.canLay0 (.str z) = true := by
  show PyData.strOk z = true
  unfold PyData.strOk
  rw [Array.all_eq_true_iff_forall_mem]
  intro c hc
  have := (h.ltr c (Array.mem_def.mp hc)).2
  exact decide_eq_true (by omega)
theorem Wd.size {m : Nat} {z : Str} (h : Wd m z) : z.cps.size ≤ m := h.hi
theorem dp_strs {K : PySem.W.Frag} {H : Hp} : ∀ l : List Str, DpAll K H (l.map V.str) (l.map PyData.str)
  | [] => .nil
  | n :: ns => .cons (.str n) (dp_strs ns)
theorem strs_shaped {m : Nat} {l : List Str} (h : ∀ z ∈ l, Wd m z) : SeqAt.shaped (.list (l.map PyData.str)) = true :=
  (Neat.lst (NeatAll.map (f := PyData.str) (dp := 0) (n := m) fun z hz => Neat.str (h z hz).lay (h z hz).size)).shaped (by decide)
section
variable {P : Program} {w : World} {K : PySem.W.Frag} {mg : Str → Option Value} {base : Heap}
def sp_law_leaf (K : PySem.W.Frag) : Sp := fun vs H Q _ => ∃ (f c nw na : Addr) (now names : List Str), vs = [.ref f, .ref nw, .ref na] ∧ H nw = some (.lst (now.map V.str)) ∧ H na = some (.lst (names.map V.str)) ∧ now.length ≤ 100 ∧ names.length ≤ 100 ∧ (∀ z ∈ now, Wd 6 z) ∧ (∀ z ∈ names, Wd 6 z) ∧ Flow H f c ∧ ∀ (v : V) (t : Tr) (H' : Hp), TrAt H' v t → TOk now names t → t.parts.length = 1 → Flow H' f c → But f H H' → Q v H'
theorem ok_law_leaf {f : Addr} {fd : FuncData} (F : Fun K "_law_leaf" "_law_leaf" s_law_leaf f fd) (T : Top w K mg) : FnOk P w K mg base CX0 3 f fd ["_law_flow_here", "_law_now", "_law_names_here"] (sp_law_leaf K) := by
  obtain ⟨f_law_thing, fd_law_thing, F_law_thing, b_law_thing, m_law_thing⟩ := T.d_law_thing
  have G_law_thing := ok_law_thing (P := P) (w := w) (base := base) F_law_thing T
  obtain ⟨f_law_pick, fd_law_pick, F_law_pick, b_law_pick, m_law_pick⟩ := T.d_law_pick
  have G_law_pick := ok_law_pick (P := P) (w := w) (base := base) F_law_pick T
  refine F.ok sc_law_leaf (fun vs H Q E h => ?_) (fun cdv A outer s H vs Q E hr h => ?_)
  · obtain ⟨f, c, nw, na, now, names, rfl, _⟩ := h
    rfl
  obtain ⟨f, c, nw, na, now, names, rfl, hnw, hna, ln, la, gw, ga, hF, q⟩ := h
  have nwf := hF.neS hnw
  have naf := hF.neS hna
  let R1 : TS := fun D' σ' H' => D'.rt = Q ∧ σ' = [some (.ref f), some (.ref nw), some (.ref na)] ∧ Flow H' f c ∧ But f H H'
  refine ⟨_, (pss_cons (ps_if (PW.pt (pw_and (pt_cmpR (op_neDK K rfl hr.units) (pv 1) (pe_lst pa_nil) (nomark _)) (pw_and1 (pt_cmpR op_eq (pe_call G_law_pick (hr.mono (by decide)) (by rfl) m_law_pick F_law_pick.kp b_law_pick .nil pass0 (pa_cons (pv 0) (pa_cons pe_int pa_nil))) pe_int (nomark _))))) (pss_one (ps_ret (pe_tup (pa_cons pe_str (pa_cons (pe_ix (ix_listK K rfl) (pv 1) (pe_call G_law_pick (hr.mono (by decide)) (by rfl) m_law_pick F_law_pick.kp b_law_pick .nil pass0 (pa_cons (pv 0) (pa_cons (pe_callB (call_len_seqK K rfl) (by rfl) T.m_len (by decide +kernel) (pa_cons (pv 1) pa_nil)) pa_nil))) (fun _ _ => rfl)) (pa_cons pe_int pa_nil)))))) pss_nil)
      (PSs.to (pss_cons (ps_if (PW.pt (pw_and (pt_cmpR (op_neDK K rfl hr.units) (pv 2) (pe_lst pa_nil) (nomark _)) (pw_and1 (pt_cmpR op_gt (pe_call G_law_pick (hr.mono (by decide)) (by rfl) m_law_pick F_law_pick.kp b_law_pick .nil pass0 (pa_cons (pv 0) (pa_cons pe_int pa_nil))) pe_int (nomark _))))) (pss_one (ps_ret (pe_tup (pa_cons pe_str (pa_cons (pe_ix (ix_listK K rfl) (pv 2) (pe_call G_law_pick (hr.mono (by decide)) (by rfl) m_law_pick F_law_pick.kp b_law_pick .nil pass0 (pa_cons (pv 0) (pa_cons (pe_callB (call_len_seqK K rfl) (by rfl) T.m_len (by decide +kernel) (pa_cons (pv 2) pa_nil)) pa_nil))) (fun _ _ => rfl)) (pa_cons (pe_op op_add pe_int (pe_call G_law_pick (hr.mono (by decide)) (by rfl) m_law_pick F_law_pick.kp b_law_pick .nil pass0 (pa_cons (pv 0) (pa_cons pe_int pa_nil)))) pa_nil)))))) pss_nil)
      (pss_one (ps_ret (pe_tup (pa_cons pe_str (pa_cons (pe_call G_law_thing (hr.mono (by decide)) (by rfl) m_law_thing F_law_thing.kp b_law_thing .nil pass0 (pa_cons (pv 0) pa_nil)) pa_nil)))))) R1 ?tail1)), ?_⟩
  case tail1 =>
    rintro D' σ' H1 ⟨eD, rfl, F1, B1⟩
    have hna1 := B1 _ _ hna naf
    refine ⟨_, rfl, (by show 0 ≤ sizeLine; decide), fun p1 np1 => ?_⟩
    have s2 : Same H1 (upd H1 p1 (.lst [])) := same_new np1
    have hp1 : (upd H1 p1 (.lst [])) p1 = some (.lst []) := upd_same
    have F2 := F1.new (o := .lst []) np1
    generalize upd H1 p1 (.lst []) = H2 at s2 hp1 F2 ⊢
    have B2 : But f H H2 := B1.same s2
    refine ⟨_, _, .lst (SqL.of (s2 _ _ hna1)) (dp_strs _), .lst (SqL.of hp1) .nil, strs_shaped ga, rfl, _, rfl, ?_⟩
    have number : ∀ H3, Flow H3 f c → But f H H3 → tRet (tTup (tCons (tC (V.str "number")) (tCons (tCall (sp_law_thing K) [] E0 (tCons (tVar 0) tNil)) tNil))) D' [some (.ref f), some (.ref nw), some (.ref na)] H3 := fun H3 F3 B3 => by
      refine ⟨_, rfl, f, c, rfl, F3, fun v H4 sv F4 B4 => ⟨(by show 2 ≤ sizeLine; decide), fun p2 np2 => ?_⟩⟩
      rw [eD]
      exact q (.ref p2) (.no v) _ ⟨p2, rfl, upd_same⟩ ⟨(fun q hq => by cases hq), sv⟩ rfl (F4.new np2) ((B3.trans B4).new np2)
    have ee : PyData.eqv (.list (names.map PyData.str)) (.list []) = (names.map PyData.str).isEmpty := eqv_nil
    rw [ee]
    cases hn : names with
    | nil =>
      refine if_bl (fun z => nomatch z) (fun _ => if_bl (fun z => nomatch z) fun _ => ?_)
      exact number H2 F2 B2
    | cons n1 nr =>
      refine if_bl (fun _ => ?_) (fun z => nomatch z)
      refine ⟨_, rfl, f, c, 3, rfl, by decide, by decide, F2, fun v H3 v0 v1 F3 B3 => ⟨_, _, rfl, rfl, _, rfl, if_bl (fun _ => ?_) (fun _ => number H3 F3 (B2.trans B3))⟩⟩
      have hna3 := B3 _ _ (s2 _ _ hna1) naf
      have pos : 0 < names.length := by rw [hn]; exact Nat.succ_pos _
      refine ⟨_, rfl, _, rfl, _, rfl, na, _, rfl, .inl (SqL.of hna3), f, c, ((names.length : Nat) : Int), ?_, by omega, log_small (by omega), F3, fun v2 H4 v20 v21 F4 B4 => ?_⟩
      · rw [List.length_map, List.append_nil]
      have hna4 := B4 _ _ hna3 naf
      obtain ⟨z, ez, mz⟩ := at_strs v20 v21
      refine ⟨na, _, v2, _, rfl, rfl, SqL.of hna4, ez, _, rfl, f, c, 6, rfl, by decide, by decide, F4, fun v3 H5 v30 v31 F5 B5 => ⟨_, _, rfl, rfl, (by show 3 ≤ sizeLine; decide), fun p2 np2 => ?_⟩⟩
      rw [eD]
      refine q (.ref p2) (.nm z (1 + v3).toNat) _ ⟨p2, rfl, ?_⟩ ⟨fun q hq => .inr ?_, trivial⟩ rfl (F5.new np2) ((((B2.trans B3).trans B4).trans B5).new np2)
      · rw [upd_same, show nV (1 + v3).toNat = V.int (1 + v3) from by show V.int _ = _; rw [Int.toNat_of_nonneg (by omega)]]
      · rw [List.mem_singleton.mp hq]
        exact ⟨(by show 1 ≤ (1 + v3).toNat; omega), (by show (1 + v3).toNat ≤ 6; omega), mz⟩
  refine ⟨_, rfl, (by show 0 ≤ sizeLine; decide), fun p1 np1 => ?_⟩
  have s1 : Same H (upd H p1 (.lst [])) := same_new np1
  have hp1 : (upd H p1 (.lst [])) p1 = some (.lst []) := upd_same
  have F1 := hF.new (o := .lst []) np1
  generalize upd H p1 (.lst []) = H1 at s1 hp1 F1 ⊢
  have B1 : But f H H1 := But.refl.same s1
  refine ⟨_, _, .lst (SqL.of (s1 _ _ hnw)) (dp_strs _), .lst (SqL.of hp1) .nil, strs_shaped gw, rfl, _, rfl, ?_⟩
  have ee : PyData.eqv (.list (now.map PyData.str)) (.list []) = (now.map PyData.str).isEmpty := eqv_nil
  rw [ee]
  cases hn : now with
  | nil =>
    refine if_bl (fun z => nomatch z) (fun _ => if_bl (fun z => nomatch z) fun _ => ?_)
    exact ⟨rfl, rfl, F1, B1⟩
  | cons n1 nr =>
    refine if_bl (fun _ => ?_) (fun z => nomatch z)
    refine ⟨_, rfl, f, c, 2, rfl, by decide, by decide, F1, fun v H3 v0 v1 F3 B3 => ⟨rfl, _, rfl, if_bl (fun _ => ?_) (fun _ => ⟨rfl, rfl, F3, B1.trans B3⟩)⟩⟩
    have hnw3 := B3 _ _ (s1 _ _ hnw) nwf
    have pos : 0 < now.length := by rw [hn]; exact Nat.succ_pos _
    refine ⟨_, rfl, _, rfl, _, rfl, nw, _, rfl, .inl (SqL.of hnw3), f, c, ((now.length : Nat) : Int), ?_, by omega, log_small (by omega), F3, fun v2 H4 v20 v21 F4 B4 => ?_⟩
    · rw [List.length_map, List.append_nil]
    have hnw4 := B4 _ _ hnw3 nwf
    obtain ⟨z, ez, mz⟩ := at_strs v20 v21
    refine ⟨nw, _, v2, _, rfl, rfl, SqL.of hnw4, ez, (by show 3 ≤ sizeLine; decide), fun p2 np2 => ?_⟩
    refine q (.ref p2) (.nm z 0) _ ⟨p2, rfl, upd_same⟩ ⟨fun q hq => .inl ?_, trivial⟩ rfl (F4.new np2) (((B1.trans B3).trans B4).new np2)
    rw [List.mem_singleton.mp hq]
    exact ⟨rfl, mz⟩
/-- a tree of at most so many parts; n: how deep the calls may go -/
def spT (K : PySem.W.Frag) : Nat → Sp
  | 0 => fun _ _ _ _ => False
  | n + 1 => fun vs H Q _ => ∃ (f c nw na : Addr) (now names : List Str) (r : Nat), vs = [.ref f, nV r, .ref nw, .ref na] ∧ 1 ≤ r ∧ r ≤ n + 3 ∧ r ≤ 20 ∧ H nw = some (.lst (now.map V.str)) ∧ H na = some (.lst (names.map V.str)) ∧ now.length ≤ 100 ∧ names.length ≤ 100 ∧ (∀ z ∈ now, Wd 6 z) ∧ (∀ z ∈ names, Wd 6 z) ∧ Flow H f c ∧ ∀ (v : V) (t : Tr) (H' : Hp), TrAt H' v t → TOk now names t → t.parts.length ≤ r → Flow H' f c → But f H H' → Q v H'
def wsT : List Str := ["", "", "times", "sum", "gap", "below", "most", "least", "pick", "sum"]
theorem parts_one (t : Tr) : 1 ≤ t.parts.length := by rw [t.parts_eq, List.length_append]; exact Nat.le_add_left ..
theorem tree_step {f : Addr} {fd : FuncData} (T : Top w K mg) (n : Nat) (below : ∀ (f : Addr) (fd : FuncData), Fun K "_law_tree" "_law_tree" s_law_tree f fd → FnOk P w K mg base CX0 (n + 3) f fd ["_law_flow_here", "_law_room", "_law_now", "_law_names_here"] (spT K n)) (F : Fun K "_law_tree" "_law_tree" s_law_tree f fd) :
    FnOk P w K mg base CX0 (n + 4) f fd ["_law_flow_here", "_law_room", "_law_now", "_law_names_here"] (spT K (n + 1)) := by
  obtain ⟨f_law_tree, fd_law_tree, F_law_tree, b_law_tree, m_law_tree⟩ := T.d_law_tree
  have G_law_tree := below f_law_tree fd_law_tree F_law_tree
  obtain ⟨f_law_pick, fd_law_pick, F_law_pick, b_law_pick, m_law_pick⟩ := T.d_law_pick
  have G_law_pick := ok_law_pick (P := P) (w := w) (base := base) F_law_pick T
  obtain ⟨f_law_leaf, fd_law_leaf, F_law_leaf, b_law_leaf, m_law_leaf⟩ := T.d_law_leaf
  have G_law_leaf := ok_law_leaf (P := P) (w := w) (base := base) F_law_leaf T
  obtain ⟨f_law_shuffled, fd_law_shuffled, F_law_shuffled, b_law_shuffled, m_law_shuffled⟩ := T.d_law_shuffled
  have G_law_shuffled := ok_law_shuffled (P := P) (w := w) (base := base) F_law_shuffled T
  refine F.ok sc_law_tree (fun vs H Q E h => ?_) (fun cdv A outer s H vs Q E hr h => ?_)
  · obtain ⟨f, c, nw, na, now, names, r, rfl, _⟩ := h
    rfl
  obtain ⟨f, c, nw, na, now, names, r, rfl, r1, rn, r20, hnw, hna, ln, la, gw, ga, hF, q⟩ := h
  have nwf := hF.neS hnw
  have naf := hF.neS hna
  refine ⟨_, (pss_cons (ps_set (i := 4) sc_law_tree.nd rfl (Or.inl rfl) (pe_ix (ix_listK K rfl) (pe_lst (pa_cons pe_str (pa_cons pe_str (pa_cons pe_str (pa_cons pe_str (pa_cons pe_str (pa_cons pe_str (pa_cons pe_str (pa_cons pe_str (pa_cons pe_str (pa_cons pe_str pa_nil))))))))))) (pe_call G_law_pick (hr.mono (by omega)) (by rfl) m_law_pick F_law_pick.kp b_law_pick .nil pass0 (pa_cons (pv 0) (pa_cons pe_int pa_nil))) (fun _ _ => rfl)))
      (pss_cons (ps_if (PW.pt (pw_or (pt_cmpR op_eq (pv 4) pe_str (nomark _)) (pw_or1 (pt_cmpR op_lt (pv 1) pe_int (nomark _))))) (pss_one (ps_ret (pe_call G_law_leaf (hr.mono (by omega)) (by rfl) m_law_leaf F_law_leaf.kp b_law_leaf .nil pass0 (pa_cons (pv 0) (pa_cons (pv 2) (pa_cons (pv 3) pa_nil)))))) pss_nil)
      (pss_cons (ps_if (pt_cmpR op_eq (pv 4) pe_str (nomark _)) (pss_one (ps_ret (pe_tup (pa_cons (pv 4) (pa_cons (pe_op op_sub (pe_call G_law_pick (hr.mono (by omega)) (by rfl) m_law_pick F_law_pick.kp b_law_pick .nil pass0 (pa_cons (pv 0) (pa_cons pe_int pa_nil))) pe_int) (pa_cons (pe_call G_law_tree (hr.mono (Nat.le_refl _)) (by rfl) m_law_tree F_law_tree.kp b_law_tree .nil pass0 (pa_cons (pv 0) (pa_cons (pe_op op_sub (pv 1) pe_int) (pa_cons (pv 2) (pa_cons (pv 3) pa_nil))))) pa_nil)))))) pss_nil)
      (pss_cons (ps_set (i := 5) sc_law_tree.nd rfl (Or.inl rfl) (pe_op op_add pe_int (pe_call G_law_pick (hr.mono (by omega)) (by rfl) m_law_pick F_law_pick.kp b_law_pick .nil pass0 (pa_cons (pv 0) (pa_cons (pe_op op_sub (pv 1) pe_int) pa_nil)))))
      (pss_cons (ps_if (pt_cmpR op_eq (pv 4) pe_str (nomark _)) (pss_cons (ps_set (i := 6) sc_law_tree.nd rfl (Or.inl rfl) (pe_lst (pa_cons (pe_call G_law_tree (hr.mono (Nat.le_refl _)) (by rfl) m_law_tree F_law_tree.kp b_law_tree .nil pass0 (pa_cons (pv 0) (pa_cons (pv 5) (pa_cons (pv 2) (pa_cons (pv 3) pa_nil))))) (pa_cons (pe_call G_law_leaf (hr.mono (by omega)) (by rfl) m_law_leaf F_law_leaf.kp b_law_leaf .nil pass0 (pa_cons (pv 0) (pa_cons (pv 2) (pa_cons (pv 3) pa_nil)))) pa_nil))))
      (pss_one (ps_ret (pe_op (op_catAK K rfl) (pe_tup (pa_cons (pv 4) pa_nil)) (pe_callTy (call_tuple_ofK K rfl) (by rfl) T.m_tuple (by decide +kernel) (pa_cons (pe_call G_law_shuffled (hr.mono (by omega)) (by rfl) m_law_shuffled F_law_shuffled.kp b_law_shuffled .nil pass0 (pa_cons (pv 0) (pa_cons (pe_op op_cat (pv 6) (pe_lst (pa_cons (pe_call G_law_tree (hr.mono (Nat.le_refl _)) (by rfl) m_law_tree F_law_tree.kp b_law_tree .nil pass0 (pa_cons (pv 0) (pa_cons (pe_op op_sub (pe_op op_sub (pv 1) pe_int) (pv 5)) (pa_cons (pv 2) (pa_cons (pv 3) pa_nil))))) pa_nil))) pa_nil))) pa_nil)))))) pss_nil)
      (pss_one (ps_ret (pe_tup (pa_cons (pv 4) (pa_cons (pe_call G_law_tree (hr.mono (Nat.le_refl _)) (by rfl) m_law_tree F_law_tree.kp b_law_tree .nil pass0 (pa_cons (pv 0) (pa_cons (pv 5) (pa_cons (pv 2) (pa_cons (pv 3) pa_nil))))) (pa_cons (pe_call G_law_tree (hr.mono (Nat.le_refl _)) (by rfl) m_law_tree F_law_tree.kp b_law_tree .nil pass0 (pa_cons (pv 0) (pa_cons (pe_op op_sub (pe_op op_sub (pv 1) pe_int) (pv 5)) (pa_cons (pv 2) (pa_cons (pv 3) pa_nil))))) pa_nil))))))))))), ?_⟩
  refine ⟨(by show 10 ≤ sizeLine; decide), fun l nl => ?_⟩
  have lf : l ≠ f := hF.ne nl
  generalize e1 : upd H l _ = H1
  have s1 : Same H H1 := by rw [← e1]; exact same_new nl
  have hl1 : H1 l = some (.lst (wsT.map V.str)) := by rw [← e1]; exact upd_same
  have F1 : Flow H1 f c := by rw [← e1]; exact hF.new nl
  have B1 : But f H H1 := But.refl.same s1
  clear e1
  refine ⟨_, rfl, f, c, 10, rfl, by decide, by decide, F1, fun v H2 v0 v1 F2 B2 => ?_⟩
  obtain ⟨wd, ew, mw⟩ := at_strs (zs := wsT) v0 v1
  have hl2 := B2 _ _ hl1 lf
  replace B2 := B1.trans B2
  have hnw2 := B2 _ _ hnw nwf
  have hna2 := B2 _ _ hna naf
  refine ⟨l, _, v, _, rfl, rfl, SqL.of hl2, ew, ?_⟩
  have leaf : ∀ D : Ends, D.rt = Q → tRet (tCall (sp_law_leaf K) [] E0 (tCons (tVar 0) (tCons (tVar 2) (tCons (tVar 3) tNil)))) D [some (.ref f), some (nV r), some (.ref nw), some (.ref na), some (.str wd), none, none] H2 := fun D eD => by
    refine ⟨_, rfl, _, rfl, _, rfl, f, c, nw, na, now, names, rfl, hnw2, hna2, ln, la, gw, ga, F2, fun v t H3 ht ok lp F3 B3 => ?_⟩
    rw [eD]
    exact q v t H3 ht ok (by omega) F3 (B2.trans B3)
  refine ⟨_, rfl, rfl, _, rfl, if_str (fun e => ?_) (fun e => ?_)⟩
  · exact if_bl (fun _ => leaf _ rfl) (fun z => nomatch z)
  refine ⟨_, rfl, _, _, rfl, rfl, _, rfl, if_bl (fun _ => leaf _ rfl) (fun c4 => ?_)⟩
  have c4 : ¬ ((r : Nat) : Int) < 4 := of_decide_eq_false c4
  obtain ⟨m, rfl⟩ : ∃ m, n = m + 1 := ⟨n - 1, by omega⟩
  refine ⟨_, rfl, rfl, _, rfl, if_str (fun et => ?_) (fun et => ?_)⟩
  · refine ⟨_, rfl, _, rfl, f, c, 19, rfl, by decide, by decide, F2, fun v2 H3 v20 v21 F3 B3 => ⟨_, _, rfl, rfl, _, rfl, _, rfl, _, _, rfl, rfl, _, rfl, _, rfl, f, c, nw, na, now, names, r - 1, ?_, by omega, by omega, by omega, B3 _ _ hnw2 nwf, B3 _ _ hna2 naf, ln, la, gw, ga, F3, fun v3 t H4 ht ok lp F4 B4 => ⟨(by show 3 ≤ sizeLine; decide), fun p np => ?_⟩⟩⟩
    · rw [show nV (r - 1) = V.int (((r : Nat) : Int) - 1) from congrArg V.int (by omega)]
      rfl
    · have := parts_one t
      refine q (.ref p) (.tm (v2 - 9) t) _ ⟨p, v3, rfl, ?_, ht.keep (TK.new np)⟩ ⟨ok.ln, ⟨by omega, by omega⟩, ok.sm⟩ ?_ (F4.new np) (((B2.trans B3).trans B4).new np)
      · rw [upd_same, et]
      · show (t.parts ++ [_]).length ≤ r
        rw [List.length_append]
        show _ + 1 ≤ r
        omega
  refine ⟨_, rfl, _, rfl, _, _, rfl, rfl, f, c, ((r - 3 : Nat) : Int), ?_, by omega, log_small (by omega), F2, fun v2 H3 v20 v21 F3 B3 => ⟨_, _, rfl, rfl, ?_⟩⟩
  · rw [show V.int ((r - 3 : Nat) : Int) = V.int (((r : Nat) : Int) - 3) from congrArg V.int (by omega)]
    rfl
  have hnw3 := B3 _ _ hnw2 nwf
  have hna3 := B3 _ _ hna2 naf
  replace B3 := B2.trans B3
  obtain ⟨o, eo, o1, o2⟩ : ∃ o : Nat, 1 + v2 = ((o : Nat) : Int) ∧ 1 ≤ o ∧ o + 3 ≤ r := ⟨(1 + v2).toNat, by omega, by omega, by omega⟩
  have ev : V.int (1 + v2) = nV o := congrArg V.int eo
  have ea : [V.ref f, V.int (1 + v2), V.ref nw, V.ref na] = [V.ref f, nV o, V.ref nw, V.ref na] := by rw [ev]
  refine ⟨_, rfl, rfl, _, rfl, if_str (fun ep => ?_) (fun ep => ?_)⟩
  · refine ⟨_, rfl, _, rfl, _, rfl, _, rfl, f, c, nw, na, now, names, o, ea, by omega, by omega, by omega, hnw3, hna3, ln, la, gw, ga, F3, fun va ta H4 hta oka lpa F4 B4 => ?_⟩
    have hnw4 := B4 _ _ hnw3 nwf
    have hna4 := B4 _ _ hna3 naf
    refine ⟨_, rfl, _, rfl, _, rfl, f, c, nw, na, now, names, rfl, hnw4, hna4, ln, la, gw, ga, F4, fun vb tb H5 htb okb lpb F5 B5 => ?_⟩
    refine ⟨(by show 2 ≤ sizeLine; decide), fun pl npl => ?_⟩
    have plf : pl ≠ f := F5.ne npl
    have s6 : Same H5 (upd H5 pl (.lst [va, vb])) := same_new npl
    have hpl : (upd H5 pl (.lst [va, vb])) pl = some (.lst [va, vb]) := upd_same
    have F6 := F5.new (o := .lst [va, vb]) npl
    replace hta := (hta.keep (TK.but F4 B5)).keep (TK.same s6)
    replace htb := htb.keep (TK.same s6)
    have B6 := ((B3.trans B4).trans B5).same s6
    generalize upd H5 pl (.lst [va, vb]) = H6 at s6 hpl F6 hta htb B6 ⊢
    have eb : [V.ref f, V.int (((r : Nat) : Int) - 2 - (1 + v2)), V.ref nw, V.ref na] = [V.ref f, nV (r - 2 - o), V.ref nw, V.ref na] := by
      rw [show nV (r - 2 - o) = V.int (((r : Nat) : Int) - 2 - (1 + v2)) from congrArg V.int (by omega)]
    refine ⟨_, rfl, (by show 1 ≤ sizeLine; decide), fun pt npt => ?_⟩
    have st : Same H6 (upd H6 pt (.tup [.str wd])) := same_new npt
    have hpt : (upd H6 pt (.tup [.str wd])) pt = some (.tup [.str wd]) := upd_same
    have ptf : pt ≠ f := F6.ne npt
    replace F6 := F6.new (o := .tup [.str wd]) npt
    replace hta := hta.keep (TK.same st)
    replace htb := htb.keep (TK.same st)
    replace hpl := st _ _ hpl
    replace B6 := B6.same st
    generalize upd H6 pt (.tup [.str wd]) = H6 at st hpt hpl F6 hta htb B6 ⊢
    refine ⟨_, rfl, _, rfl, _, rfl, _, rfl, _, _, rfl, rfl, _, rfl, _, _, rfl, rfl, _, rfl, _, rfl, f, c, nw, na, now, names, r - 2 - o, eb, by omega, by omega, by omega, B6 _ _ hnw nwf, B6 _ _ hna naf, ln, la, gw, ga, F6, fun vc tc H7 htc okc lpc F7 B7 => ?_⟩
    have hpl7 := B7 _ _ hpl plf
    refine ⟨(by show 1 ≤ sizeLine; decide), fun p8 np8 => ?_⟩
    have hp8 : (upd H7 p8 (.lst [vc])) p8 = some (.lst [vc]) := upd_same
    have s8 : Same H7 (upd H7 p8 (.lst [vc])) := same_new np8
    have F8 := F7.new (o := .lst [vc]) np8
    replace hta := (hta.keep (TK.but F6 B7)).keep (TK.same s8)
    replace htb := (htb.keep (TK.but F6 B7)).keep (TK.same s8)
    replace htc := htc.keep (TK.same s8)
    have B8 := (B6.trans B7).same s8
    generalize upd H7 p8 (.lst [vc]) = H8 at s8 hp8 F8 hta htb htc B8 ⊢
    refine ⟨pl, p8, _, _, rfl, rfl, s8 _ _ hpl7, hp8, (by show 3 ≤ sizeLine; decide), fun p9 np9 => ?_⟩
    have p9f : p9 ≠ f := F8.ne np9
    have hp9 : (upd H8 p9 (.lst ([va, vb] ++ [vc]))) p9 = some (.lst [va, vb, vc]) := upd_same
    have s9 : Same H8 (upd H8 p9 (.lst ([va, vb] ++ [vc]))) := same_new np9
    have F9 := F8.new (o := .lst ([va, vb] ++ [vc])) np9
    generalize upd H8 p9 (.lst ([va, vb] ++ [vc])) = H9 at s9 hp9 F9 ⊢
    have al : All2 (TrAt H9) [va, vb, vc] [ta, tb, tc] := .cons (hta.keep (TK.same s9)) (.cons (htb.keep (TK.same s9)) (.cons (htc.keep (TK.same s9)) .nil))
    refine ⟨f, c, p9, [va, vb, vc], rfl, SqL.of hp9, p9f, (by show 3 ≤ 500; decide), F9, fun p10 ys H10 pm np10 hp10 F10 B10 => ?_⟩
    have al10 : All2 (TrAt H10) [va, vb, vc] [ta, tb, tc] := al.imp fun _ _ z => z.keep (TK.but F9 B10)
    obtain ⟨ts, pt2, al2⟩ := All2.perm pm al10
    have l3 : ts.length = 3 := pt2.length_eq
    obtain ⟨ka, kb, kc, rfl⟩ : ∃ a b c, ts = [a, b, c] := by
      match ts, l3 with
      | [a, b, c], _ => exact ⟨a, b, c, rfl⟩
    have okk : ∀ t ∈ [ka, kb, kc], TOk now names t := fun t ht => by
      rcases List.mem_cons.mp (pt2.mem_iff.mp ht) with rfl | ht
      · exact oka
      rcases List.mem_cons.mp ht with rfl | ht
      · exact okb
      rw [List.mem_singleton.mp ht]
      exact okc
    have sum : ka.parts.length + kb.parts.length + kc.parts.length = ta.parts.length + tb.parts.length + tc.parts.length := by
      have := (pt2.map fun t => t.parts.length).sum_nat
      simp only [List.map_cons, List.map_nil, List.sum_cons, List.sum_nil] at this
      omega
    refine ⟨p10, ys, rfl, .inl ⟨SqL.of hp10, fun p11 np11 => ?_⟩⟩
    have s11 : Same H10 (upd H10 p11 (.tup ys)) := same_new np11
    have hp11 : (upd H10 p11 (.tup ys)) p11 = some (.tup ys) := upd_same
    have F11 := F10.new (o := .tup ys) np11
    have B11 := ((B8.same s9).trans B10).same s11
    have al11 : All2 (TrAt (upd H10 p11 (.tup ys))) ys [ka, kb, kc] := al2.imp fun _ _ z => z.keep (TK.same s11)
    have hpt11 := s11 _ _ (B10 _ _ (s9 _ _ (s8 _ _ (B7 _ _ hpt ptf))) ptf)
    generalize upd H10 p11 (.tup ys) = H11 at s11 hp11 F11 B11 al11 hpt11 ⊢
    have ly : ys.length = 3 := pm.length_eq
    refine catA_of hpt11 hp11 (by rw [ly]; show 4 ≤ 1000; decide) fun p12 H12 h12 s12 => ?_
    have al12 := al11.imp fun _ _ z => TrAt.keep (TK.same s12) z
    obtain ⟨ya, yb, yc, rfl⟩ : ∃ a b c, ys = [a, b, c] := by
      match ys, ly with
      | [a, b, c], _ => exact ⟨a, b, c, rfl⟩
    have o1 := okk ka (by simp)
    have o2 := okk kb (by simp)
    have o3 := okk kc (by simp)
    refine q (.ref p12) (.o3 ka kb kc) _ (TrAt.mk ?_ al12) ⟨fun z hz => ?_, o1.sm, o2.sm, o3.sm⟩ ?_ (F11.same s12) (B11.same s12)
    · rw [h12, ep]; rfl
    · rcases List.mem_append.mp hz with hz | hz
      · rcases List.mem_append.mp hz with hz | hz
        · exact o1.ln z hz
        · exact o2.ln z hz
      · exact o3.ln z hz
    · show (ka.parts ++ kb.parts ++ kc.parts ++ [_]).length ≤ r
      rw [List.length_append, List.length_append, List.length_append]
      show _ + 1 ≤ r
      omega
  · obtain ⟨w2, rfl⟩ : ∃ w2 : W2, wd = w2.s := by
      unfold wsT at mw
      simp only [List.mem_cons, List.not_mem_nil, or_false] at mw
      rcases mw with h | h | h | h | h | h | h | h | h | h
      · exact absurd h e
      · exact absurd h e
      · exact absurd h et
      · exact ⟨.sum, h⟩
      · exact ⟨.gap, h⟩
      · exact ⟨.below, h⟩
      · exact ⟨.most, h⟩
      · exact ⟨.least, h⟩
      · exact absurd h ep
      · exact ⟨.sum, h⟩
    refine ⟨_, rfl, _, rfl, _, rfl, _, rfl, _, rfl, f, c, nw, na, now, names, o, ea, by omega, by omega, by omega, hnw3, hna3, ln, la, gw, ga, F3, fun va ta H4 hta oka lpa F4 B4 => ?_⟩
    have hnw4 := B4 _ _ hnw3 nwf
    have hna4 := B4 _ _ hna3 naf
    have eb : [V.ref f, V.int (((r : Nat) : Int) - 1 - (1 + v2)), V.ref nw, V.ref na] = [V.ref f, nV (r - 1 - o), V.ref nw, V.ref na] := by
      rw [show nV (r - 1 - o) = V.int (((r : Nat) : Int) - 1 - (1 + v2)) from congrArg V.int (by omega)]
    refine ⟨_, rfl, _, rfl, _, _, rfl, rfl, _, rfl, _, _, rfl, rfl, _, rfl, _, rfl, f, c, nw, na, now, names, r - 1 - o, eb, by omega, by omega, by omega, hnw4, hna4, ln, la, gw, ga, F4, fun vb tb H5 htb okb lpb F5 B5 => ⟨(by show 3 ≤ sizeLine; decide), fun p np => ?_⟩⟩
    have hta5 := (hta.keep (TK.but F4 B5)).keep (TK.new (o := .tup [.str w2.s, va, vb]) np)
    refine q (.ref p) (.o2 w2 ta tb) _ ⟨p, va, vb, rfl, upd_same, hta5, htb.keep (TK.new np)⟩ ⟨fun z hz => ?_, oka.sm, okb.sm⟩ ?_ (F5.new np) (((B3.trans B4).trans B5).new np)
    · rcases List.mem_append.mp hz with hz | hz
      · exact oka.ln z hz
      · exact okb.ln z hz
    · show (ta.parts ++ tb.parts ++ [_]).length ≤ r
      rw [List.length_append, List.length_append]
      show _ + 1 ≤ r
      omega
theorem tree_all (T : Top w K mg) : ∀ (n : Nat) (f : Addr) (fd : FuncData), Fun K "_law_tree" "_law_tree" s_law_tree f fd → FnOk P w K mg base CX0 (n + 3) f fd ["_law_flow_here", "_law_room", "_law_now", "_law_names_here"] (spT K n)
  | 0, f, fd, F => by
    refine F.ok sc_law_tree (fun vs H Q E h => h.elim) (fun cdv A outer s H vs Q E hr h => h.elim)
  | n + 1, f, fd, F => tree_step T n (tree_all T n) F
abbrev sp_law_tree (K : PySem.W.Frag) : Sp := spT K 8
theorem ok_law_tree {f : Addr} {fd : FuncData} (F : Fun K "_law_tree" "_law_tree" s_law_tree f fd) (T : Top w K mg) : FnOk P w K mg base CX0 11 f fd ["_law_flow_here", "_law_room", "_law_now", "_law_names_here"] (sp_law_tree K) := tree_all T 8 f fd F
end
/-! ### formulas drawn -/
abbrev stV (tf : Str → V) (ns : List Str) : List (Key × V) := ns.map fun z => (Sum.inr z, tf z)
theorem stV_val {tf : Str → V} {ns : List Str} (z : Str) : valV (stV tf ns) (Sum.inr z) = if z ∈ ns then some (tf z) else none := by
  induction ns with
  | nil => rfl
  | cons x r ih =>
    unfold valV at ih ⊢
    show Option.map _ (List.find? _ ((Sum.inr x, tf x) :: stV tf r)) = _
    rw [List.find?_cons]
    by_cases h : x = z
    · subst h
      rw [decide_eq_true rfl, if_pos (List.mem_cons_self ..)]; rfl
    · rw [decide_eq_false fun k => h (Sum.inr.inj k)]
      have : (z ∈ x :: r) ↔ z ∈ r := ⟨fun k => (List.mem_cons.mp k).resolve_left fun y => h y.symm, List.mem_cons_of_mem _⟩
      by_cases k : z ∈ r
      · rw [if_pos (this.mpr k)]
        rw [if_pos k] at ih
        exact ih
      · rw [if_neg fun y => k (this.mp y)]
        rw [if_neg k] at ih
        exact ih
theorem stV_put (tf : Str → V) {ns : List Str} {z : Str} (h : z ∉ ns) (v : V) : putK (stV tf ns) (Sum.inr z) v = stV (fun y => if y = z then v else tf y) (ns ++ [z]) := by
  rw [putK_new _ (by rw [stV_val, if_neg h])]
  unfold stV
  rw [List.map_append]
  congr 1
  · refine List.map_congr_left fun y hy => ?_
    show (_, tf y) = (_, if y = z then v else tf y)
    rw [if_neg (show ¬ y = z from fun e => h (e ▸ hy))]
  · show [_] = [(_, if z = z then v else tf z)]
    rw [if_pos rfl]
/-- what is so of formulas that the law draws -/
structure GFm (most : Nat) (F : Fm) : Prop where
  li : F.ins.length ≤ 4
  lr : F.rules.length ≤ most
  lw : F.was.length ≤ 9
  lo : F.outs.length ≤ 4
  nd : F.own.Nodup
  wd : ∀ z ∈ F.own, Wd 6 z ∧ z ∉ takL
  kn : F.kept.Nodup
  ko : ∀ z ∈ F.kept, z ∈ F.own
  th : ∀ p ∈ F.was, p.2.length ≤ 7 ∧ ∀ x ∈ p.2, Small x
  oo : ∀ z ∈ F.outs, z ∈ F.own
  tr : ∀ p ∈ F.rules, p.2.parts.length ≤ 10 ∧ p.2.small ∧ ∀ q ∈ p.2.leans, q.1 ∈ F.own ∧ q.2 ≤ 6
  rk : ∃ rk : Str → Nat, ∀ p ∈ F.rules, ∀ q ∈ p.2.leans, q.2 = 0 → rk q.1 < rk p.1
/-- the names of what comes in and of the rules, as the law draws them -/
structure Dr (most : Nat) (ins own : List Str) : Prop where
  li : ins.length ≤ 4
  lo : own.length ≤ most
  nd : (ins ++ own).Nodup
  wd : ∀ z ∈ ins ++ own, Wd 6 z ∧ z ∉ takL
theorem perm_strs {ys : List V} {own : List Str} (p : ys.Perm (own.map V.str)) : ∃ zs : List Str, ys = zs.map V.str ∧ zs.Perm own := by
  have base : ∀ l : List Str, All2 (fun v z => v = V.str z) (l.map V.str) l := by
    intro l
    induction l with
    | nil => exact .nil
    | cons x r ih => exact .cons rfl ih
  obtain ⟨zs, pz, al⟩ := All2.perm p (base own)
  refine ⟨zs, ?_, pz⟩
  clear pz p
  induction al with
  | nil => rfl
  | cons e _ ih => rw [List.map_cons, e, ih]
section
variable {P : Program} {w : World} {K : PySem.W.Frag} {mg : Str → Option Value} {base : Heap}
def sp_law_formulas (K : PySem.W.Frag) : Sp := fun vs H Q _ => ∃ (f c : Addr) (most : Nat), vs = [.ref f, nV most] ∧ most ≤ 5 ∧ Flow H f c ∧ ∀ (r : Addr) (F : Fm) (H' : Hp), FmAtF H' r F → GFm most F → Flow H' f c → But f H H' → Q (.ref r) H'
theorem ok_law_formulas {f : Addr} {fd : FuncData} (F : Fun K "_law_formulas" "_law_formulas" s_law_formulas f fd) (T : Top w K mg) : FnOk P w K mg base CX0 12 f fd ["_law_flow_here", "_law_most"] (sp_law_formulas K) := by
  obtain ⟨f_law_names, fd_law_names, F_law_names, b_law_names, m_law_names⟩ := T.d_law_names
  have G_law_names := ok_law_names (P := P) (w := w) (base := base) F_law_names T
  obtain ⟨f_law_tree, fd_law_tree, F_law_tree, b_law_tree, m_law_tree⟩ := T.d_law_tree
  have G_law_tree := ok_law_tree (P := P) (w := w) (base := base) F_law_tree T
  obtain ⟨f_law_pick, fd_law_pick, F_law_pick, b_law_pick, m_law_pick⟩ := T.d_law_pick
  have G_law_pick := ok_law_pick (P := P) (w := w) (base := base) F_law_pick T
  obtain ⟨f_law_shuffled, fd_law_shuffled, F_law_shuffled, b_law_shuffled, m_law_shuffled⟩ := T.d_law_shuffled
  have G_law_shuffled := ok_law_shuffled (P := P) (w := w) (base := base) F_law_shuffled T
  obtain ⟨f_law_thing, fd_law_thing, F_law_thing, b_law_thing, m_law_thing⟩ := T.d_law_thing
  have G_law_thing := ok_law_thing (P := P) (w := w) (base := base) F_law_thing T
  refine F.ok sc_law_formulas (fun vs H Q E h => ?_) (fun cdv A outer s H vs Q E hr h => ?_)
  · obtain ⟨f, c, most, rfl, _⟩ := h
    rfl
  obtain ⟨f, c, most, rfl, m5, hF, q⟩ := h
  let sg : Addr → Addr → Addr → Addr → Option V → Option V → Option V → Option V → Option V → Option V → L2.St := fun nl il ol el v6 v7 v8 v9 v10 v11 => [some (.ref f), some (nV most), some (.ref nl), some (.ref il), some (.ref ol), some (.ref el), v6, v7, v8, v9, v10, v11]
  let Base : Addr → Addr → List Str → List Str → Hp → Prop := fun il el ins own H' => H' il = some (.lst (ins.map V.str)) ∧ H' el = some (.lst ((ins ++ own).map V.str)) ∧ Dr most ins own ∧ Flow H' f c ∧ But f H H' ∧ H il = none ∧ H el = none
  let R1 : TS := fun D' σ' H' => D'.rt = Q ∧ ∃ (nl il ol el td : Addr) (ins own : List Str), σ' = sg nl il ol el (some (.ref td)) none none none none none ∧ Base il el ins own H' ∧ H' ol = some (.lst (own.map V.str)) ∧ H' td = some (.dK []) ∧ H td = none
  let R2 : TS := fun D' σ' H' => D'.rt = Q ∧ ∃ (nl il ol el td : Addr) (ins own : List Str) (v7 v8 : Option V) (tf : Str → V) (tt : Str → Tr), σ' = sg nl il ol el (some (.ref td)) v7 v8 none none none ∧ Base il el ins own H' ∧ H' ol = some (.lst (own.map V.str)) ∧ H' td = some (.dK (stV tf own)) ∧ ∀ (j : Nat) (z : Str), own[j]? = some z → TrAt H' (tf z) (tt z) ∧ TOk (ins ++ own.take j) (ins ++ own) (tt z) ∧ (tt z).parts.length ≤ 10
  let R3 : TS := fun D' σ' H' => D'.rt = Q ∧ ∃ (nl il ol el rl : Addr) (ins own : List Str) (v6 v7 v8 : Option V) (rv : List V) (rules : List (Str × Tr)), σ' = sg nl il ol el v6 v7 v8 (some (.ref rl)) none none ∧ Base il el ins own H' ∧ H' rl = some (.lst rv) ∧ All2 (RlAt H') rv rules ∧ (rules.map (·.1)).Perm own ∧ ∀ p ∈ rules, ∃ j : Nat, own[j]? = some p.1 ∧ TOk (ins ++ own.take j) (ins ++ own) p.2 ∧ p.2.parts.length ≤ 10
  let R4 : TS := fun D' σ' H' => D'.rt = Q ∧ ∃ (nl il ol el rl wl : Addr) (ins own : List Str) (v6 v7 v8 : Option V) (rv wv : List V) (rules : List (Str × Tr)) (was : List (Str × List Int)), σ' = sg nl il ol el v6 v7 v8 (some (.ref rl)) (some (.ref wl)) none ∧ Base il el ins own H' ∧ H' rl = some (.lst rv) ∧ All2 (RlAt H') rv rules ∧ (rules.map (·.1)).Perm own ∧ (∀ p ∈ rules, ∃ j : Nat, own[j]? = some p.1 ∧ TOk (ins ++ own.take j) (ins ++ own) p.2 ∧ p.2.parts.length ≤ 10) ∧
    H' wl = some (.lst wv) ∧ All2 (WaAt H') wv was ∧ (was.map (·.1)).Sublist (ins ++ own) ∧ (∀ p ∈ was, p.2.length ≤ 7 ∧ ∀ x ∈ p.2, Small x)
  refine ⟨_, (pss_cons (ps_set (i := 2) sc_law_formulas.nd rfl (Or.inl rfl) (pe_call G_law_names (hr.mono (by decide)) (by rfl) m_law_names F_law_names.kp b_law_names .nil pass0 (pa_cons (pv 0) (pa_cons pe_int pa_nil))))
      (pss_cons (ps_set (i := 3) sc_law_formulas.nd rfl (Or.inl rfl) (pe_slice (sl_listK K rfl) (pv 2) po_none (po_some (pe_call G_law_pick (hr.mono (by decide)) (by rfl) m_law_pick F_law_pick.kp b_law_pick .nil pass0 (pa_cons (pv 0) (pa_cons pe_int pa_nil))))))
      (pss_cons (ps_set (i := 4) sc_law_formulas.nd rfl (Or.inl rfl) (pe_slice (sl_listK K rfl) (pv 2) (po_some pe_int) (po_some (pe_op op_add pe_int (pe_call G_law_pick (hr.mono (by decide)) (by rfl) m_law_pick F_law_pick.kp b_law_pick .nil pass0 (pa_cons (pv 0) (pa_cons (pe_op op_add (pv 1) pe_int) pa_nil)))))))
      (pss_cons (ps_set (i := 5) sc_law_formulas.nd rfl (Or.inr rfl) (pe_op op_cat (pv 3) (pv 4)))
      (pss_cons (ps_set (i := 6) sc_law_formulas.nd rfl (Or.inr rfl) pe_dnewK)
      (PSs.to (pss_cons (ps_for PassesOwn.never rfl (pi_enum (by rfl) T.m_enumerate (pa_cons (pv 4) pa_nil)) (pg_tupK K rfl rfl (pgs_cons (pg_name (i := 7) sc_law_formulas.nd rfl (Or.inl rfl)) (pgs_cons (pg_name (i := 8) sc_law_formulas.nd rfl (Or.inl rfl)) pgs_nil)))
        (pss_one (ps_dput (hu_of hr) (pv 6) (pv 8) (pe_call G_law_tree (hr.mono (by decide)) (by rfl) m_law_tree F_law_tree.kp b_law_tree .nil pass0 (pa_cons (pv 0) (pa_cons (pe_op op_add pe_int (pe_call G_law_pick (hr.mono (by decide)) (by rfl) m_law_pick F_law_pick.kp b_law_pick .nil pass0 (pa_cons (pv 0) (pa_cons pe_int pa_nil)))) (pa_cons (pe_op op_cat (pv 3) (pe_slice (sl_listK K rfl) (pv 4) po_none (po_some (pv 7)))) (pa_cons (pv 5) pa_nil))))) (by rfl))))
      (PSs.to (pss_cons (ps_setLc (i := 9) (own := [("_law_name", 8)]) (g := gName 8) (tt := tYes) (by rfl) sc_law_formulas.nd rfl rfl (sw_true rfl rfl rfl (by decide +kernel)) (pi_listK K rfl (pe_call G_law_shuffled (hr.mono (by decide)) (by rfl) m_law_shuffled F_law_shuffled.kp b_law_shuffled .nil pass0 (pa_cons (pv 0) (pa_cons (pv 4) pa_nil)))) (blkOk_by (own := [("_law_name", 8)]) (N := N_law_formulas) (sc := defScope s_law_formulas) (by decide +kernel)) (fun _ _ _ _ _ => (pg_name (i := 8) sc_law_formulas.nd rfl (Or.inl rfl))) (fun _ _ _ _ _ => pts_nil) (fun _ _ _ _ _ => (pe_tup (pa_cons (pv 8) (pa_cons (pe_dget (hu_of hr) (pv 6) (pv 8) (fun _ _ => rfl)) pa_nil)))))
      (PSs.to (pss_cons (ps_set (i := 10) sc_law_formulas.nd rfl (Or.inl rfl) (pe_lst pa_nil))
      (pss_cons (ps_for PassesOwn.never rfl (pi_listK K rfl (pv 5)) (pg_name (i := 8) sc_law_formulas.nd rfl (Or.inl rfl))
        (pss_one (ps_if (pt_cmpR op_eq (pe_call G_law_pick (hr.mono (by decide)) (by rfl) m_law_pick F_law_pick.kp b_law_pick .nil pass0 (pa_cons (pv 0) (pa_cons pe_int pa_nil))) pe_int (nomark _)) (pss_one (ps_expr (pe_bmK K rfl PySem.F.plainAttrs_list PySem.F.slot_list_append PySem.F.type_list_append mt_append (pv 10) (pa_cons (pe_tup (pa_cons (pv 8) (pa_cons (pe_callTy (call_tuple_ofK K rfl) (by rfl) T.m_tuple (by decide +kernel) (pa_cons (pe_lc (own := [("_law_k", 7)]) (g := gName 7) (tt := tYes) (by rfl) sc_law_formulas.nd (pi_range1 (by rfl) T.m_range (pa_cons (pe_call G_law_pick (hr.mono (by decide)) (by rfl) m_law_pick F_law_pick.kp b_law_pick .nil pass0 (pa_cons (pv 0) (pa_cons pe_int pa_nil))) pa_nil)) (blkOk_by (own := [("_law_k", 7)]) (N := N_law_formulas) (sc := defScope s_law_formulas) (by decide +kernel)) (fun _ _ _ _ _ => (pg_name (i := 7) sc_law_formulas.nd rfl (Or.inl rfl))) (fun _ _ _ _ _ => pts_nil) (fun _ _ _ _ _ => (pe_call G_law_thing (hr.mono (by decide)) (by rfl) m_law_thing F_law_thing.kp b_law_thing .nil pass0 (pa_cons (pv 0) pa_nil)))) pa_nil)) pa_nil))) pa_nil)))) pss_nil)))
      (PSs.to (pss_cons (ps_setLc (i := 11) (own := [("_law_k", 7)]) (g := gName 7) (by rfl) sc_law_formulas.nd rfl rfl (sw_true rfl rfl rfl (by decide +kernel)) (pi_range1 (by rfl) T.m_range (pa_cons (pe_call G_law_pick (hr.mono (by decide)) (by rfl) m_law_pick F_law_pick.kp b_law_pick .nil pass0 (pa_cons (pv 0) (pa_cons pe_int pa_nil))) pa_nil)) (blkOk_by (own := [("_law_k", 7)]) (N := N_law_formulas) (sc := defScope s_law_formulas) (by decide +kernel)) (fun _ _ _ _ _ => (pg_name (i := 7) sc_law_formulas.nd rfl (Or.inl rfl))) (fun _ _ _ _ _ => pts_one (pt_cmpR (op_neDK K rfl hr.units) (pv 5) (pe_lst pa_nil) (nomark _))) (fun _ _ _ _ _ => (pe_ix (ix_listK K rfl) (pv 5) (pe_call G_law_pick (hr.mono (by decide)) (by rfl) m_law_pick F_law_pick.kp b_law_pick .nil pass0 (pa_cons (pv 0) (pa_cons (pe_callB (call_len_seqK K rfl) (by rfl) T.m_len (by decide +kernel) (pa_cons (pv 5) pa_nil)) pa_nil))) (fun _ _ => rfl))))
      (pss_one (ps_ret (pe_tup (pa_cons (pe_callTy (call_tuple_ofK K rfl) (by rfl) T.m_tuple (by decide +kernel) (pa_cons (pv 3) pa_nil)) (pa_cons (pe_callTy (call_tuple_ofF K rfl) (by rfl) T.m_tuple (by decide +kernel) (pa_cons (pe_call G_law_shuffled (hr.mono (by decide)) (by rfl) m_law_shuffled F_law_shuffled.kp b_law_shuffled .nil pass0 (pa_cons (pv 0) (pa_cons (pv 10) pa_nil))) pa_nil)) (pa_cons (pe_callTy (call_tuple_ofK K rfl) (by rfl) T.m_tuple (by decide +kernel) (pa_cons (pv 9) pa_nil)) (pa_cons (pe_callTy (call_tuple_ofK K rfl) (by rfl) T.m_tuple (by decide +kernel) (pa_cons (pv 11) pa_nil)) pa_nil)))))))) R4 ?tail4))) R3 ?tail3)) R2 ?tail2)) R1 ?tail1)))))), ?_⟩
  case tail4 =>
    rintro D' σ' H1 ⟨eD, nl, il, ol, el, rl, wl, ins, own, v6, v7, v8, rv, wv, rules, was, rfl, ⟨hil, hel, dr, F1, B1, nil0, nel0⟩, hrl, alr, pmr, ru, hwl, alw, sub, wth⟩
    have elf := F1.neS hel
    have ilf := F1.neS hil
    have lins := dr.li
    have lown := dr.lo
    have lrules : rules.length = own.length := by
      have := pmr.length_eq
      rwa [List.length_map] at this
    have notf : ∀ {p : Addr} {xs : List V}, H1 p = some (.lst xs) → (∀ x ∈ xs, ∃ (a : Addr) (ys : List V), x = .ref a ∧ H1 a = some (.tup ys)) → p ≠ f := fun {p xs} e all z => by
      obtain ⟨ns, i, a, q, r, e1, e2, _⟩ := F1
      rw [z, e1] at e
      obtain rfl := HO.lst.inj (Option.some.inj e)
      obtain ⟨b, ys, eb, e3⟩ := all _ (List.mem_cons_self ..)
      cases eb
      rw [e2] at e3
      cases e3
    have rlf : rl ≠ f := notf hrl fun x hx => by
      obtain ⟨j, ej⟩ := List.getElem?_of_mem hx
      obtain ⟨p, _, t, y, rfl, e, _⟩ := alr.getL ej
      exact ⟨t, _, rfl, e⟩
    have wlf : wl ≠ f := notf hwl fun x hx => by
      obtain ⟨j, ej⟩ := List.getElem?_of_mem hx
      obtain ⟨p, _, t, y, rfl, e, _⟩ := alw.getL ej
      exact ⟨t, _, rfl, e⟩
    refine ⟨_, rfl, f, c, 5, rfl, by decide, by decide, F1, fun u H2 u0 u1 F2 B2 => ⟨_, rfl, by omega, by omega, fun D nD => ?_⟩⟩
    have Df : D ≠ f := F2.ne nD
    have Dc : D ≠ c := F2.nec nD
    have hel2 := B2 _ _ hel elf
    refine lc_range (lo := 0) (n := u.toNat) (fun k H9 => ∃ os : List Str, H9 D = some (.lst (os.map V.str)) ∧ os.length ≤ k ∧ (∀ x ∈ os, x ∈ ins ++ own) ∧ Flow H9 f c ∧ But f H2 H9) ⟨[], upd_same, Nat.le_refl _, (fun _ y => by cases y), F2.new nD, But.refl.new nD⟩ ?_ ?_
    · rintro k H9 hk ⟨os, hD, lo, oin, F9, B9⟩
      have hel9 := B9 _ _ hel2 elf
      refine ⟨rfl, ?_⟩
      refine ⟨_, rfl, (by show 0 ≤ sizeLine; decide), fun p1 np1 => ?_⟩
      have s10 : Same H9 (upd H9 p1 (.lst [])) := same_new np1
      have hp1 : (upd H9 p1 (.lst [])) p1 = some (.lst []) := upd_same
      have F10 := F9.new (o := .lst []) np1
      have hD10 := s10 _ _ hD
      have hel10 := s10 _ _ hel9
      generalize upd H9 p1 (.lst []) = H10 at s10 hp1 F10 hD10 hel10 ⊢
      have B10 := B9.same s10
      refine ⟨_, _, .lst (SqL.of hel10) (dp_strs _), .lst (SqL.of hp1) .nil, strs_shaped (m := 6) (fun z hz => (dr.wd z hz).1), rfl, _, rfl, ?_⟩
      have ee : PyData.eqv (.list ((ins ++ own).map PyData.str)) (.list []) = ((ins ++ own).map PyData.str).isEmpty := eqv_nil
      rw [ee]
      by_cases emp : ins ++ own = []
      · have en : (!((ins ++ own).map PyData.str).isEmpty) = false := by rw [emp]; rfl
        rw [en]
        refine if_bl (fun z => nomatch z) (fun _ => ?_)
        exact ⟨os, hD10, by omega, oin, F10, B10⟩
      · have pos : 0 < (ins ++ own).length := List.length_pos_iff.mpr emp
        have ne : (!((ins ++ own).map PyData.str).isEmpty) = true := by
          cases hl : ins ++ own with
          | nil => exact absurd hl emp
          | cons a b => rfl
        rw [ne]
        refine if_bl (fun _ => ?_) (fun z => nomatch z)
        refine ⟨_, rfl, _, rfl, _, rfl, el, _, rfl, .inl (SqL.of hel10), f, c, (((ins ++ own).length : Nat) : Int), ?_, by omega, log_small (by rw [List.length_append]; omega), F10, fun v2 H11 v20 v21 F11 B11 => ?_⟩
        · rw [List.length_map, List.append_nil]
        have hel11 := B11 _ _ hel10 elf
        obtain ⟨z, ez, mz⟩ := at_strs v20 v21
        refine ⟨el, _, v2, _, rfl, rfl, SqL.of hel11, ez, _, B11 _ _ hD10 Df, by rw [List.length_map]; exact small1000 (by omega), os ++ [z], by rw [upd_same, List.map_append]; rfl, by rw [List.length_append]; show _ + 1 ≤ _; omega, fun y hy => ?_, F11.lst Df Dc, (B10.trans B11).own nD⟩
        rcases List.mem_append.mp hy with h | h
        · exact oin y h
        · rw [List.mem_singleton.mp h]; exact mz
    · rintro H3 ⟨os, hD, lo, oin, F3, B3⟩
      have B13 := B2.trans B3
      have hil3 := B13 _ _ hil ilf
      refine ⟨_, rfl, il, _, rfl, .inl ⟨SqL.of hil3, fun a1 na1 => ?_⟩⟩
      have s4 : Same H3 (upd H3 a1 (.tup (ins.map V.str))) := same_new na1
      have ha1 : (upd H3 a1 (.tup (ins.map V.str))) a1 = some (.tup (ins.map V.str)) := upd_same
      have F4 := F3.new (o := .tup (ins.map V.str)) na1
      have B14 := B13.same s4
      have a1f : a1 ≠ f := F3.ne na1
      have hD4 := s4 _ _ hD
      generalize upd H3 a1 (.tup (ins.map V.str)) = H4 at s4 ha1 F4 B14 hD4 ⊢
      have lw := alw.length
      have lw2 := sub.length_le
      rw [List.length_map, List.length_append] at lw2
      refine ⟨_, rfl, _, rfl, f, c, wl, wv, rfl, SqL.of (B14 _ _ hwl wlf), wlf, by omega, F4, fun p ys H5 pm np hp F5 B5 => ?_⟩
      have alw5 : All2 (WaAt H5) wv was := alw.imp fun _ _ y => (y.keep (TK.but F1 B14)).keep (TK.but F4 B5)
      obtain ⟨was2, pw, alw6⟩ := All2.perm pm alw5
      have B15 := B14.trans B5
      refine ⟨p, ys, rfl, SqL.of hp, fun a2 ob nod na2 => ?_⟩
      have s6 : Same H5 (upd H5 a2 (.frz ob (.tup ys))) := same_new na2
      have ha2 : (upd H5 a2 (.frz ob (.tup ys))) a2 = some (.frz ob (.tup ys)) := upd_same
      have F6 := F5.new (o := .frz ob (.tup ys)) na2
      have B16 := B15.same s6
      have hrl6 := B16 _ _ hrl rlf
      have hD6 := s6 _ _ (B5 _ _ hD4 Df)
      have ha16 := s6 _ _ (B5 _ _ ha1 a1f)
      generalize upd H5 a2 (.frz ob (.tup ys)) = H6 at s6 ha2 F6 B16 hrl6 hD6 ha16 ⊢
      refine ⟨_, rfl, rl, rv, rfl, .inl ⟨SqL.of hrl6, fun a3 na3 => ?_⟩⟩
      have s7 : Same H6 (upd H6 a3 (.tup rv)) := same_new na3
      have ha3 : (upd H6 a3 (.tup rv)) a3 = some (.tup rv) := upd_same
      have hD7 := s7 _ _ hD6
      generalize upd H6 a3 (.tup rv) = H7 at s7 ha3 hD7 ⊢
      refine ⟨_, rfl, D, _, rfl, .inl ⟨SqL.of hD7, fun a4 na4 => ⟨(by show 4 ≤ sizeLine; decide), fun r nr => ?_⟩⟩⟩
      have s8 : Same H7 (upd H7 a4 (.tup (os.map V.str))) := same_new na4
      have ha4 : (upd H7 a4 (.tup (os.map V.str))) a4 = some (.tup (os.map V.str)) := upd_same
      generalize upd H7 a4 (.tup (os.map V.str)) = H8 at s8 ha4 nr ⊢
      have s9 : Same H8 (upd H8 r (.tup [.ref a1, .ref a2, .ref a3, .ref a4])) := same_new nr
      have s69 := s7.trans (s8.trans s9)
      rw [eD]
      have ow : (ins ++ rules.map (·.1)).Perm (ins ++ own) := List.Perm.append_left ins pmr
      have mo : ∀ z, z ∈ ins ++ rules.map (·.1) ↔ z ∈ ins ++ own := fun z => ow.mem_iff
      refine q r ⟨ins, was2, rules, os⟩ _ ⟨a1, a2, a3, a4, ob, ys, rv, nod, upd_same, s69 _ _ ha16, s69 _ _ ha2, alw6.imp fun _ _ y => (y.keep (TK.same s6)).keep (TK.same s69), s9 _ _ (s8 _ _ ha3), alr.imp fun _ _ y => (y.keep (TK.but F1 B16)).keep (TK.same s69), s9 _ _ ha4⟩ ?_ (F6.same s69) ((B1.trans B16).same s69)
      have u5 : u.toNat ≤ 4 := by omega
      have m5' := m5
      have pk : (was2.map (·.1)).Perm (was.map (·.1)) := pw.map _
      refine ⟨dr.li, by show rules.length ≤ most; omega, by show was2.length ≤ 9; rw [pw.length_eq]; have := List.length_map (as := was) (·.1); omega, by show os.length ≤ 4; omega, ow.nodup_iff.mpr dr.nd, fun z hz => dr.wd z ((mo z).mp hz), pk.nodup_iff.mpr (List.Nodup.sublist sub dr.nd), fun z hz => (mo z).mpr (sub.subset (pk.mem_iff.mp hz)), fun p hp => wth p (pw.mem_iff.mp hp), fun z hz => (mo z).mpr (oin z hz), fun p hp => ?_, ?_⟩
      · obtain ⟨j, ej, tok, lp⟩ := ru p hp
        refine ⟨lp, tok.sm, fun q hq => ?_⟩
        rcases tok.ln q hq with ⟨e0, m⟩ | ⟨e0, e6, m⟩
        · refine ⟨(mo _).mpr ?_, by omega⟩
          rcases List.mem_append.mp m with m | m
          · exact List.mem_append.mpr (.inl m)
          · exact List.mem_append.mpr (.inr (List.mem_of_mem_take m))
        · exact ⟨(mo _).mpr m, e6⟩
      · have ndo : own.Nodup := (List.nodup_append.mp dr.nd).2.1
        have key : ∃ rk : Str → Nat, (∀ (j : Nat) (z : Str), own[j]? = some z → rk z = j + 1) ∧ ∀ z, z ∉ own → rk z = 0 := by
          classical
          refine ⟨fun z => if h : ∃ j, own[j]? = some z then Classical.choose h + 1 else 0, fun j z e => ?_, fun z hz => dif_neg fun ⟨j, e⟩ => hz (List.mem_of_getElem? e)⟩
          have h : ∃ j, own[j]? = some z := ⟨j, e⟩
          show (if h : ∃ j, own[j]? = some z then Classical.choose h + 1 else 0) = j + 1
          rw [dif_pos h, nodup_get ndo (Classical.choose_spec h) e]
        obtain ⟨rk, k1, k2⟩ := key
        refine ⟨rk, fun p hp q hq q0 => ?_⟩
        obtain ⟨j, ej, tok, lp⟩ := ru p hp
        rw [k1 j _ ej]
        rcases tok.ln q hq with ⟨_, m⟩ | ⟨e0, _, _⟩
        · rcases List.mem_append.mp m with m | m
          · have : q.1 ∉ own := fun y => (List.nodup_append.mp dr.nd).2.2 _ m _ y rfl
            rw [k2 _ this]
            omega
          · obtain ⟨i, hi, ei⟩ := List.mem_take_iff_getElem.mp m
            have := k1 i q.1 (List.getElem?_eq_some_iff.mpr ⟨by omega, ei⟩)
            omega
        · omega
  case tail3 =>
    rintro D' σ' H1 ⟨eD, nl, il, ol, el, rl, ins, own, v6, v7, v8, rv, rules, rfl, ⟨hil, hel, dr, F1, B1, nil0, nel0⟩, hrl, alr, pmr, ru⟩
    have elf := F1.neS hel
    have ilf := F1.neS hil
    have rlf : rl ≠ f := fun z => by
      obtain ⟨_, _, _, _, _, e1, _⟩ := F1
      rw [z, e1] at hrl
      obtain rfl := HO.lst.inj (Option.some.inj hrl)
      cases alr with
      | cons a b => cases b with
        | cons a2 b =>
          obtain ⟨_, _, e, _⟩ := a2
          cases e
    have lins := dr.li
    have lown := dr.lo
    refine ⟨(by show 0 ≤ sizeLine; decide), fun wl nwl => ?_⟩
    have wf : wl ≠ f := F1.ne nwl
    have wc : wl ≠ c := F1.nec nwl
    have nw0 : H wl = none := But.none B1 nwl wf
    have F2 := F1.new (o := .lst []) nwl
    have B2 := B1.new (o := .lst []) nwl
    have hwl2 : (upd H1 wl (.lst [])) wl = some (.lst []) := upd_same
    have hil2 := same_new (o := .lst []) nwl _ _ hil
    have hel2 := same_new (o := .lst []) nwl _ _ hel
    have hrl2 := same_new (o := .lst []) nwl _ _ hrl
    have nil2 : il ≠ wl := ne_of_none hil nwl
    have nel2 : el ≠ wl := ne_of_none hel nwl
    have nrl2 : rl ≠ wl := ne_of_none hrl nwl
    replace alr := alr.imp fun _ _ z => z.keep (TK.new (o := .lst []) nwl)
    generalize upd H1 wl (.lst []) = H2 at F2 B2 hwl2 hil2 hel2 hrl2 alr ⊢
    refine ⟨_, rfl, el, rfl, ⟨_, SqL.of hel2⟩, for_list (K := K) (a := el) (xs := (ins ++ own).map V.str) (fun i σ H5 => ∃ (v7 v8 : Option V) (wv : List V) (was : List (Str × List Int)), σ = sg nl il ol el v6 v7 v8 (some (.ref rl)) (some (.ref wl)) none ∧ Base il el ins own H5 ∧ H5 rl = some (.lst rv) ∧ All2 (RlAt H5) rv rules ∧ H5 wl = some (.lst wv) ∧ All2 (WaAt H5) wv was ∧ (was.map (·.1)).Sublist ((ins ++ own).take i) ∧ (∀ p ∈ was, p.2.length ≤ 7 ∧ ∀ x ∈ p.2, Small x)) ⟨v7, v8, [], [], rfl, ⟨hil2, hel2, dr, F2, B2, nil0, nel0⟩, hrl2, alr, hwl2, .nil, List.nil_sublist _, fun _ z => by cases z⟩ (fun i σ H5 _ ⟨_, _, _, _, _, b, _⟩ => SqL.of b.2.1) ?_ ?_⟩
    · rintro i v σ H5 hx ⟨v7, v8, wv, was, rfl, ⟨hil5, hel5, _, F5, B5, _, _⟩, hrl5, alr5, hwl5, alw5, sub, wth⟩
      rw [List.getElem?_map] at hx
      cases ez : (ins ++ own)[i]? with
      | none => rw [ez] at hx; cases hx
      | some z =>
      rw [ez] at hx
      obtain rfl : V.str z = v := Option.some.inj hx
      have tk : (ins ++ own).take (i + 1) = (ins ++ own).take i ++ [z] := by rw [List.take_add_one, ez]; rfl
      refine ⟨_, rfl, f, c, 2, rfl, by decide, by decide, F5, fun v H6 v0 v1 F6 B6 => ⟨rfl, _, rfl, if_bl (fun _ => ?_) (fun _ => ?_)⟩⟩
      · have hwl6 := B6 _ _ hwl5 wf
        refine ⟨_, rfl, .inl ⟨rfl, _, SqL.of hwl6⟩, _, rfl, _, rfl, f, c, 8, rfl, by decide, by decide, F6, fun u H7 u0 u1 F7 B7 => ⟨_, rfl, by omega, by omega, fun D nD => ?_⟩⟩
        have Df : D ≠ f := F7.ne nD
        have Dc : D ≠ c := F7.nec nD
        have hwl7 := B7 _ _ hwl6 wf
        have Dw : D ≠ wl := fun y => by rw [y, hwl7] at nD; cases nD
        refine lc_range (lo := 0) (n := u.toNat) (fun k H9 => ∃ ts : List Int, H9 D = some (.lst (ts.map V.int)) ∧ ts.length = k ∧ (∀ x ∈ ts, Small x) ∧ Flow H9 f c ∧ But f H7 H9) ⟨[], upd_same, rfl, (fun _ y => by cases y), F7.new nD, But.refl.new nD⟩ ?_ ?_
        · rintro k H9 hk ⟨ts, hD, lt, sm, F9, B9⟩
          refine ⟨rfl, yes_in ⟨_, rfl, f, c, rfl, F9, fun x H10 sx F10 B10 => ⟨ts.map V.int, B10 _ _ hD Df, by rw [List.length_map]; exact small1000 (by omega), ts ++ [x], by rw [upd_same, List.map_append]; rfl, by rw [List.length_append, lt]; rfl, fun y hy => ?_, F10.lst Df Dc, (B9.trans B10).own nD⟩⟩⟩
          rcases List.mem_append.mp hy with h | h
          · exact sm y h
          · rw [List.mem_singleton.mp h]; exact sx
        · rintro H9 ⟨ts, hD, lt, sm, F9, B9⟩
          refine ⟨D, _, rfl, .inl ⟨SqL.of hD, fun pt npt => ⟨(by show 2 ≤ sizeLine; decide), fun pu npu => ?_⟩⟩⟩
          have s10 : Same H9 (upd (upd H9 pt (.tup (ts.map V.int))) pu (.tup [V.str z, V.ref pt])) := (same_new npt).trans (same_new npu)
          have h1 : (upd (upd H9 pt (.tup (ts.map V.int))) pu (.tup [V.str z, V.ref pt])) pt = some (.tup (ts.map V.int)) := same_new npu _ _ upd_same
          have h2 : (upd (upd H9 pt (.tup (ts.map V.int))) pu (.tup [V.str z, V.ref pt])) pu = some (.tup [V.str z, V.ref pt]) := upd_same
          generalize upd (upd H9 pt (.tup (ts.map V.int))) pu (.tup [V.str z, V.ref pt]) = H10 at s10 h1 h2 ⊢
          have B510 : But f H5 H10 := ((B6.trans B7).trans B9).same s10
          have hwl10 := B510 _ _ hwl5 wf
          have k10 : TK H5 (upd H10 wl (.lst (wv ++ [.ref pu]))) := (TK.but F5 B510).trans (TK.lst hwl10)
          have lw := alw5.length
          have lw2 := sub.length_le
          rw [List.length_map, List.length_take, List.length_append] at lw2
          refine ⟨wl, _, _, rfl, rfl, hwl10, small1000 (by omega), _, _, wv ++ [.ref pu], was ++ [(z, ts)], rfl, ⟨by rw [upd_ne nil2]; exact B510 _ _ hil5 ilf, by rw [upd_ne nel2]; exact B510 _ _ hel5 elf, dr, (F9.same s10).lst wf wc, (B5.trans B510).own nw0, nil0, nel0⟩, by rw [upd_ne nrl2]; exact B510 _ _ hrl5 rlf, alr5.imp fun _ _ y => y.keep k10, upd_same, ?_, ?_, ?_⟩
          · refine (alw5.imp fun _ _ y => y.keep k10).snoc ⟨pu, pt, rfl, TK.lst hwl10 _ _ h2, TK.lst hwl10 _ _ h1⟩
          · rw [tk, List.map_append]
            exact sub.append (List.Sublist.refl _)
          · intro p hp
            rcases List.mem_append.mp hp with y | y
            · exact wth p y
            · rw [List.mem_singleton.mp y]
              exact ⟨by show ts.length ≤ 7; omega, sm⟩
      · refine ⟨_, _, wv, was, rfl, ⟨B6 _ _ hil5 ilf, B6 _ _ hel5 elf, dr, F6, B5.trans B6, nil0, nel0⟩, B6 _ _ hrl5 rlf, alr5.imp fun _ _ y => y.keep (TK.but F5 B6), B6 _ _ hwl5 wf, alw5.imp fun _ _ y => y.keep (TK.but F5 B6), ?_, wth⟩
        rw [tk]
        exact sub.trans (List.sublist_append_left _ _)
    · rintro σ H5 ⟨v7, v8, wv, was, rfl, b5, hrl5, alr5, hwl5, alw5, sub, wth⟩
      rw [List.length_map, List.take_of_length_le (Nat.le_refl _)] at sub
      exact ⟨eD, nl, il, ol, el, rl, wl, ins, own, v6, v7, v8, rv, wv, rules, was, rfl, b5, hrl5, alr5, pmr, ru, hwl5, alw5, sub, wth⟩
  case tail2 =>
    rintro D' σ' H1 ⟨eD, nl, il, ol, el, td, ins, own, v7, v8, tf, tt, rfl, ⟨hil, hel, dr, F1, B1, nil0, nel0⟩, hol, htd, hT⟩
    have olf := F1.neS hol
    have elf := F1.neS hel
    have ilf := F1.neS hil
    have tdf : td ≠ f := fun z => by
      obtain ⟨_, _, _, _, _, e1, _⟩ := F1
      rw [z, e1] at htd
      cases htd
    have ndo : own.Nodup := (List.nodup_append.mp dr.nd).2.1
    have lo5 : own.length ≤ 5 := Nat.le_trans dr.lo m5
    refine ⟨_, rfl, _, rfl, f, c, ol, _, rfl, SqL.of hol, olf, by rw [List.length_map]; omega, F1, fun p1 ys H2 pm np1 hp1 F2 B2 => ?_⟩
    obtain ⟨zs, rfl, pz⟩ := perm_strs pm
    refine ⟨p1, rfl, ⟨_, SqL.of hp1⟩, fun D nD => ?_⟩
    have Df : D ≠ f := F2.ne nD
    have Dc : D ≠ c := F2.nec nD
    have pf : p1 ≠ f := F2.neS hp1
    have htd2 := B2 _ _ htd tdf
    refine lc_list (K := K) (a := p1) (xs := zs.map V.str) (fun i H9 => ∃ (rv : List V) (rules : List (Str × Tr)), H9 D = some (.lst rv) ∧ All2 (RlAt H9) rv rules ∧ rules.map (·.1) = zs.take i ∧ (∀ p ∈ rules, ∃ j : Nat, own[j]? = some p.1 ∧ TOk (ins ++ own.take j) (ins ++ own) p.2 ∧ p.2.parts.length ≤ 10) ∧ Same H2 H9) ⟨[], [], upd_same, .nil, rfl, (fun _ z => by cases z), same_new nD⟩ (fun i H9 _ ⟨_, _, _, _, _, _, s9⟩ => SqL.of (s9 _ _ hp1)) ?_ ?_
    · rintro i v H9 hx ⟨rv, rules, hD, al, em, ru, s9⟩
      rw [List.getElem?_map] at hx
      cases ez : zs[i]? with
      | none => rw [ez] at hx; cases hx
      | some z =>
      rw [ez] at hx
      obtain rfl : V.str z = v := Option.some.inj hx
      obtain ⟨j, ej⟩ := List.getElem?_of_mem (pz.mem_iff.mp (List.mem_of_getElem? ez))
      obtain ⟨g1, g2, g3⟩ := hT j z ej
      have gt := DGet.k (k := Sum.inr z) (s9 _ _ htd2)
      rw [stV_val, if_pos (List.mem_of_getElem? ej)] at gt
      refine ⟨rfl, yes_in ⟨_, rfl, _, rfl, _, rfl, td, _, rfl, gt, (by show 2 ≤ sizeLine; decide), fun pt npt => ?_⟩⟩
      have s10 : Same H9 (upd H9 pt (.tup [V.str z, tf z])) := same_new npt
      have nDp : D ≠ pt := fun y => by rw [← y, hD] at npt; cases npt
      have hpt : (upd H9 pt (.tup [V.str z, tf z])) pt = some (.tup [V.str z, tf z]) := upd_same
      have hD10 := s10 _ _ hD
      generalize upd H9 pt (.tup [V.str z, tf z]) = H10 at s10 hpt hD10 ⊢
      have kd : TK H10 (upd H10 D (.lst (rv ++ [.ref pt]))) := TK.lst hD10
      have lr := al.length
      have lr2 : rules.length ≤ own.length := by
        have := congrArg List.length em
        rw [List.length_map, List.length_take] at this
        have := pz.length_eq
        omega
      refine ⟨rv, hD10, small1000 (by omega), rv ++ [.ref pt], rules ++ [(z, tt z)], upd_same, ?_, ?_, ?_, Same.own (s9.trans s10) nD⟩
      · refine ((al.imp fun _ _ y => y.keep ((TK.same s10).trans kd))).snoc ⟨pt, tf z, rfl, kd _ _ hpt, ?_⟩
        exact ((((g1.keep (TK.but F1 B2)).keep (TK.same s9)).keep (TK.same s10)).keep kd)
      · rw [List.map_append, em, List.take_add_one, ez]; rfl
      · intro p hp
        rcases List.mem_append.mp hp with y | y
        · exact ru p y
        · rw [List.mem_singleton.mp y]
          exact ⟨j, ej, g2, g3⟩
    · rintro H9 ⟨rv, rules, hD, al, em, ru, s9⟩
      rw [List.length_map, List.take_of_length_le (Nat.le_refl _)] at em
      refine ⟨eD, nl, il, ol, el, D, ins, own, _, v7, v8, rv, rules, rfl, ⟨s9 _ _ (B2 _ _ hil ilf), s9 _ _ (B2 _ _ hel elf), dr, F2.same s9, (B1.trans B2).same s9, nil0, nel0⟩, hD, al, by rw [em]; exact pz, ru⟩
  case tail1 =>
    rintro D' σ' H1 ⟨eD, nl, il, ol, el, td, ins, own, rfl, ⟨hil, hel, dr, F1, B1, nil0, nel0⟩, hol, htd, ntd⟩
    have olf := F1.neS hol
    have elf := F1.neS hel
    have ilf := F1.neS hil
    have tdf : td ≠ f := fun z => by
      obtain ⟨_, _, _, _, _, e1, _⟩ := F1
      rw [z, e1] at htd
      cases htd
    have ndo : own.Nodup := (List.nodup_append.mp dr.nd).2.1
    refine ⟨_, rfl, ol, _, rfl, SqL.of hol, for_it (n := own.length) (fun i σ H5 => ∃ (v7 v8 : Option V) (tf : Str → V) (tt : Str → Tr), σ = sg nl il ol el (some (.ref td)) v7 v8 none none none ∧ Base il el ins own H5 ∧ H5 ol = some (.lst (own.map V.str)) ∧ H5 td = some (.dK (stV tf (own.take i))) ∧ ∀ (j : Nat) (z : Str), j < i → own[j]? = some z → TrAt H5 (tf z) (tt z) ∧ TOk (ins ++ own.take j) (ins ++ own) (tt z) ∧ (tt z).parts.length ≤ 10) ⟨none, none, fun _ => .non, fun _ => .no 0, rfl, ⟨hil, hel, dr, F1, B1, nil0, nel0⟩, hol, htd, fun j z hj => absurd hj (Nat.not_lt_zero _)⟩ ?_ ?_ ?_ ?_⟩
    · rintro i σ H5 hi ⟨_, _, _, _, rfl, _, h, _⟩
      exact ⟨_, _, SqL.of h, by rw [List.getElem?_map, List.getElem?_eq_getElem hi]; rfl⟩
    · rintro σ H5 ⟨_, _, _, _, rfl, _, h, _⟩
      exact ⟨_, SqL.of h, by rw [List.length_map]; exact Nat.le_refl _⟩
    · rintro i x σ H5 H6 hi ⟨v7, v8, tf, tt, rfl, ⟨hil5, hel5, _, F5, B5, _, _⟩, hol5, htd5, hT⟩ ⟨t, y, rfl, nt, rfl, fy⟩
      have eri : own[i]? = some own[i] := List.getElem?_eq_getElem hi
      obtain ⟨nm, hnm⟩ : ∃ r, r = own[i] := ⟨_, rfl⟩
      rw [← hnm] at eri
      obtain rfl : y = V.str nm := by
        have := fy _ (SqL.of hol5)
        rw [List.getElem?_map, eri] at this
        exact (Option.some.inj this).symm
      have s6 : Same H5 (upd H5 t (.tup [V.int ((i : Nat) : Int), V.str nm])) := same_new nt
      have ht6 : (upd H5 t (.tup [V.int ((i : Nat) : Int), V.str nm])) t = some (.tup [V.int ((i : Nat) : Int), V.str nm]) := upd_same
      have F6 := F5.same s6
      have B6 := B5.same s6
      have hil6 := s6 _ _ hil5
      have hel6 := s6 _ _ hel5
      have hol6 := s6 _ _ hol5
      have htd6 := s6 _ _ htd5
      replace hT : ∀ (j : Nat) (z : Str), j < i → own[j]? = some z → TrAt (upd H5 t (.tup [V.int ((i : Nat) : Int), V.str nm])) (tf z) (tt z) ∧ TOk (ins ++ own.take j) (ins ++ own) (tt z) ∧ (tt z).parts.length ≤ 10 := fun j z hj ez => by
        obtain ⟨g1, g2⟩ := hT j z hj ez
        exact ⟨g1.keep (TK.same s6), g2⟩
      generalize upd H5 t (.tup [V.int ((i : Nat) : Int), V.str nm]) = H6 at ht6 F6 B6 hil6 hel6 hol6 htd6 hT ⊢
      refine ⟨t, _, rfl, SqT.of ht6, rfl, _, _, rfl, _, _, rfl, rfl, ?_⟩
      refine ⟨_, rfl, _, rfl, f, c, 10, rfl, by decide, by decide, F6, fun v H7 v0 v1 F7 B7 => ⟨_, _, rfl, rfl, _, rfl, _, rfl, ?_⟩⟩
      dsimp only [tNoPart]
      refine ⟨_, rfl, _, rfl, ol, _, rfl, SqL.of (B7 _ _ hol6 olf), fun sl nsl => ?_⟩
      have hil7 := B7 _ _ hil6 ilf
      have hel7 := B7 _ _ hel6 elf
      have hol7 := B7 _ _ hol6 olf
      have htd7 := B7 _ _ htd6 tdf
      generalize e8 : upd H7 sl _ = H8
      have s8 : Same H7 H8 := by rw [← e8]; exact same_new nsl
      have hsl : H8 sl = some (.lst ((own.take i).map V.str)) := by rw [← e8, upd_same, cut_take, List.map_take]
      clear e8
      have lo5 : own.length ≤ 5 := Nat.le_trans dr.lo m5
      refine ⟨il, sl, _, _, rfl, rfl, s8 _ _ hil7, hsl, by rw [List.length_map, List.length_map, List.length_take]; have := dr.li; exact little (by omega), fun nw nnw => ?_⟩
      generalize e9 : upd H8 nw _ = H9
      have s9 : Same H8 H9 := by rw [← e9]; exact same_new nnw
      have hnw : H9 nw = some (.lst ((ins ++ own.take i).map V.str)) := by rw [← e9, upd_same, List.map_append]
      clear e9
      have s79 := s8.trans s9
      obtain ⟨r, er, r1, r10⟩ : ∃ r : Nat, 1 + v = ((r : Nat) : Int) ∧ 1 ≤ r ∧ r ≤ 10 := ⟨(1 + v).toNat, by omega, by omega, by omega⟩
      have ea : [V.ref f, V.int (1 + v), V.ref nw, V.ref el] = [V.ref f, nV r, V.ref nw, V.ref el] := by rw [er]
      have subs : ∀ z ∈ ins ++ own.take i, z ∈ ins ++ own := fun z hz => (List.mem_append.mp hz).elim (fun y => List.mem_append.mpr (.inl y)) fun y => List.mem_append.mpr (.inr (List.mem_of_mem_take y))
      have lins := dr.li
      refine ⟨_, rfl, f, c, nw, el, ins ++ own.take i, ins ++ own, r, ea, r1, by omega, by omega, hnw, s79 _ _ hel7, by rw [List.length_append, List.length_take]; omega, by rw [List.length_append]; omega, fun z hz => (dr.wd z (subs z hz)).1, fun z hz => (dr.wd z hz).1, F7.same s79, fun tv tr H10 htr tok lp F10 B10 => ?_⟩
      have htd10 := B10 _ _ (s79 _ _ htd7) tdf
      have nin : nm ∉ own.take i := fun z => by
        obtain ⟨j, hj, ej⟩ := List.mem_take_iff_getElem.mp z
        have := nodup_get ndo eri (List.getElem?_eq_some_iff.mpr ⟨by omega, ej⟩)
        omega
      have tk : own.take (i + 1) = own.take i ++ [nm] := by rw [List.take_add_one, eri]; rfl
      refine ⟨_, rfl, _, rfl, td, _, rfl, DPut.k (k := Sum.inr nm) htd10 ?_, ?_⟩
      · unfold stV
        rw [List.length_map, List.length_take]
        exact small1000 (by omega)
      rw [stV_put tf nin]
      have kd : TK H10 (upd H10 td (.dK (stV (fun y => if y = nm then tv else tf y) (own.take i ++ [nm])))) := fun b xs e => by rw [upd_ne (ne_of e htd10 (fun z => nomatch z))]; exact e
      have ned : ∀ {b : Addr} {xs : List V}, H10 b = some (.lst xs) → (upd H10 td (.dK (stV (fun y => if y = nm then tv else tf y) (own.take i ++ [nm])))) b = some (.lst xs) := fun {b xs} e => by rw [upd_ne (ne_of e htd10 (fun z => nomatch z))]; exact e
      have F11 : Flow (upd H10 td (.dK (stV (fun y => if y = nm then tv else tf y) (own.take i ++ [nm])))) f c := by
        obtain ⟨ns, i, p, q, r, e1, e2, e3⟩ := F10
        exact ⟨ns, i, p, q, r, ned e1, ned e2, e3⟩
      have B11 : But f H (upd H10 td (.dK (stV (fun y => if y = nm then tv else tf y) (own.take i ++ [nm])))) := (((B6.trans B7).same s79).trans B10).own ntd
      refine ⟨_, _, _, fun y => if y = nm then tr else tt y, rfl, ⟨ned (B10 _ _ (s79 _ _ hil7) ilf), ned (B10 _ _ (s79 _ _ hel7) elf), dr, F11, B11, nil0, nel0⟩, ned (B10 _ _ (s79 _ _ hol7) olf), by rw [tk]; exact upd_same, fun j z hj ez => ?_⟩
      by_cases hji : j = i
      · subst hji
        rw [eri] at ez
        obtain rfl := Option.some.inj ez
        show TrAt _ (if nm = nm then tv else tf nm) (if nm = nm then tr else tt nm) ∧ TOk _ _ (if nm = nm then tr else tt nm) ∧ (if nm = nm then tr else tt nm).parts.length ≤ 10
        rw [if_pos rfl, if_pos rfl]
        exact ⟨htr.keep kd, tok, by omega⟩
      · have zn : z ≠ nm := fun e => hji (nodup_get ndo (by rw [← e]; exact ez) eri)
        show TrAt _ (if z = nm then tv else tf z) (if z = nm then tr else tt z) ∧ TOk _ _ (if z = nm then tr else tt z) ∧ (if z = nm then tr else tt z).parts.length ≤ 10
        rw [if_neg zn, if_neg zn]
        obtain ⟨g1, g2⟩ := hT j z (by omega) ez
        exact ⟨(((g1.keep (TK.but F6 B7)).keep (TK.same s79)).keep (TK.but (F7.same s79) B10)).keep kd, g2⟩
    · rintro σ H5 ⟨v7, v8, tf, tt, rfl, b5, hol5, htd5, hT⟩
      rw [List.take_of_length_le (Nat.le_refl _)] at htd5
      exact ⟨eD, nl, il, ol, el, td, ins, own, v7, v8, tf, tt, rfl, b5, hol5, htd5, fun j z e => hT j z (List.getElem?_eq_some_iff.mp e).1 e⟩
  refine ⟨_, rfl, f, c, 9, rfl, by decide, by decide, hF, fun nl ns H1 n1 h1 l9 nd wd F1 B1 => ?_⟩
  have nlf := F1.neS h1
  refine ⟨_, rfl, ?_⟩
  dsimp only [tNoPart]
  refine ⟨_, rfl, f, c, 5, rfl, by decide, by decide, F1, fun v H2 v0 v5 F2 B2 => ⟨v, rfl, nl, _, rfl, SqL.of (B2 _ _ h1 nlf), fun il nil2 => ?_⟩⟩
  obtain ⟨a, rfl⟩ : ∃ a : Nat, v = ((a : Nat) : Int) := ⟨v.toNat, by omega⟩
  generalize e3 : upd H2 il _ = H3
  have hil : H3 il = some (.lst ((ns.take a).map V.str)) := by rw [← e3, upd_same, cut_take, List.map_take]
  have F3 : Flow H3 f c := by rw [← e3]; exact F2.new nil2
  have B3 : But f H H3 := by rw [← e3]; exact (B1.trans B2).new nil2
  have hnl3 : H3 nl = some (.lst (ns.map V.str)) := by rw [← e3]; exact same_new nil2 _ _ (B2 _ _ h1 nlf)
  have ilf := F3.neS hil
  have nil0 : H il = none := But.none (B1.trans B2) nil2 ilf
  clear e3
  have em : [V.ref f, V.int (((most : Nat) : Int) + 1)] = [V.ref f, nV (most + 1)] := by
    rw [show nV (most + 1) = V.int (((most : Nat) : Int) + 1) from congrArg V.int (by omega)]
  refine ⟨_, rfl, _, rfl, _, rfl, _, rfl, _, _, rfl, rfl, f, c, ((most + 1 : Nat) : Int), em, by omega, log_small (by omega), F3, fun v2 H4 v20 v21 F4 B4 => ⟨_, _, rfl, rfl, _, rfl, nl, _, rfl, SqL.of (B4 _ _ hnl3 nlf), fun ol nol => ?_⟩⟩
  obtain ⟨b, eb⟩ : ∃ b : Nat, 4 + v2 = ((4 + b : Nat) : Int) := ⟨v2.toNat, by omega⟩
  generalize e5 : upd H4 ol _ = H5
  have hol : H5 ol = some (.lst (((ns.drop 4).take b).map V.str)) := by
    rw [← e5, upd_same, eb]
    congr 2
    unfold cutV
    rw [show (4 : Int) = ((4 : Nat) : Int) from rfl, HT.sIx_nat, HT.sIx_nat, List.length_map, l9, ← List.map_drop, ← List.map_take]
    congr 1
    rw [show min 4 9 = 4 from rfl]
    rcases Nat.le_total b 5 with h | h
    · rw [Nat.min_eq_left (by omega), show 4 + b - 4 = b by omega]
    · rw [Nat.min_eq_right (by omega), show 9 - 4 = 5 from rfl, List.take_of_length_le (by rw [List.length_drop]; omega), List.take_of_length_le (by rw [List.length_drop]; omega)]
  have F5 : Flow H5 f c := by rw [← e5]; exact F4.new nol
  have B5 : But f H H5 := by rw [← e5]; exact (B3.trans B4).new nol
  have hil5 : H5 il = some (.lst ((ns.take a).map V.str)) := by rw [← e5]; exact same_new nol _ _ (B4 _ _ hil ilf)
  have olf := F5.neS hol
  clear e5
  obtain ⟨ins, hins⟩ : ∃ l, l = ns.take a := ⟨_, rfl⟩
  obtain ⟨own, hown⟩ : ∃ l, l = (ns.drop 4).take b := ⟨_, rfl⟩
  rw [← hins] at hil5
  rw [← hown] at hol
  have li : ins.length ≤ 4 := by rw [hins, List.length_take]; omega
  have lo : own.length ≤ most := by rw [hown, List.length_take]; omega
  have dr : Dr most ins own := by
    have e : (ins ++ own).Sublist ns := by
      rw [hins, hown]
      have h1 : (ns.take a).Sublist (ns.take 4) := by
        rw [show ns.take a = (ns.take 4).take a by rw [List.take_take, Nat.min_eq_left (by omega)]]
        exact List.take_sublist ..
      have h2 : ((ns.drop 4).take b).Sublist (ns.drop 4) := List.take_sublist ..
      have h3 := h1.append h2
      rwa [List.take_append_drop] at h3
    exact ⟨li, lo, List.Nodup.sublist e nd, fun z hz => wd z (e.subset hz)⟩
  refine ⟨_, rfl, _, rfl, il, ol, _, _, rfl, rfl, hil5, hol, by rw [List.length_map, List.length_map]; exact little (by omega), fun el nel => ?_⟩
  generalize e6 : upd H5 el _ = H6
  have hel : H6 el = some (.lst ((ins ++ own).map V.str)) := by rw [← e6, upd_same, List.map_append]
  have s6 : Same H5 H6 := by rw [← e6]; exact same_new nel
  clear e6
  have F6 := F5.same s6
  have B6 := B5.same s6
  have elf := F6.neS hel
  have nel0 : H el = none := But.none B5 nel elf
  intro td ntd
  have tdf : td ≠ f := F6.ne ntd
  refine ⟨rfl, nl, il, ol, el, td, ins, own, rfl, ⟨same_new ntd _ _ (s6 _ _ hil5), same_new ntd _ _ hel, dr, F6.new ntd, B6.new ntd, nil0, nel0⟩, same_new ntd _ _ (s6 _ _ hol), upd_same, But.none B6 ntd tdf⟩
end
/-! ### what the law sees in trees -/
def Tr.dep : Tr → Nat
  | .nm _ _ => 1
  | .no _ => 1
  | .tm _ t => t.dep + 1
  | .o2 _ a b => max a.dep b.dep + 1
  | .o3 a b c => max a.dep (max b.dep c.dep) + 1
theorem Tr.dep_parts (t : Tr) : t.dep ≤ t.parts.length := by
  induction t with
  | nm n k => exact Nat.le_refl _
  | no i => exact Nat.le_refl _
  | tm k t ih => simp only [Tr.dep, Tr.parts, List.length_append]; show _ ≤ _ + 1; omega
  | o2 w a b i1 i2 => simp only [Tr.dep, Tr.parts, List.length_append]; show _ ≤ _ + 1; omega
  | o3 a b c i1 i2 i3 => simp only [Tr.dep, Tr.parts, List.length_append]; show _ ≤ _ + 1; omega
theorem Tr.dep_kid {t u : Tr} (h : u ∈ t.kids) : u.dep + 1 ≤ t.dep := by
  cases t with
  | nm n k => cases h
  | no i => cases h
  | tm k t => rw [List.mem_singleton.mp h]; exact Nat.le_refl _
  | o2 w a b =>
    simp only [Tr.kids, List.mem_cons, List.not_mem_nil, or_false] at h
    simp only [Tr.dep]
    rcases h with rfl | rfl <;> omega
  | o3 a b c =>
    simp only [Tr.kids, List.mem_cons, List.not_mem_nil, or_false] at h
    simp only [Tr.dep]
    rcases h with rfl | rfl | rfl <;> omega
theorem Tr.leans_kids {t : Tr} (h : t.isNm = false) : t.leans = t.kids.flatMap Tr.leans := by
  cases t with
  | nm n k => cases h
  | no i => rfl
  | tm k t => simp [Tr.leans, Tr.kids]
  | o2 w a b => simp [Tr.leans, Tr.kids]
  | o3 a b c => simp [Tr.leans, Tr.kids]
def Tr.isNo : Tr → Bool
  | .no _ => true
  | _ => false
theorem Tr.wd_no (t : Tr) : t.isNo = decide (t.wd = "number") := by
  cases t with
  | o2 w a b => cases w <;> rfl
  | _ => rfl
section
variable {P : Program} {w : World} {K : PySem.W.Frag} {mg : Str → Option Value} {base : Heap}
def sp_law_parts (K : PySem.W.Frag) : Sp := fun vs H Q _ => ∃ (v : V) (t : Tr), vs = [v] ∧ TrAt H v t ∧ ∀ (p : Addr) (l : List V) (H' : Hp), H p = none → H' p = some (.lst l) → All2 (TrAt H') l t.kids → Same H H' → Q (.ref p) H'
theorem ok_law_parts {f : Addr} {fd : FuncData} (F : Fun K "_law_parts" "_law_parts" s_law_parts f fd) (T : Top w K mg) : FnOk P w K mg base CX0 1 f fd ["_law_tree_here"] (sp_law_parts K) := by
  refine F.ok sc_law_parts (fun vs H Q E h => ?_) (fun cdv A outer s H vs Q E hr h => ?_)
  · obtain ⟨v, t, rfl, _⟩ := h
    rfl
  obtain ⟨v, t, rfl, ht, q⟩ := h
  obtain ⟨a, ks, rfl, ha, ak⟩ := ht.op
  obtain ⟨r, er, sort⟩ := t.hd_wd
  have ha0 := ha
  rw [er, List.cons_append] at ha
  refine ⟨_, (pss_cons (ps_if (PW.pt (pw_or (pt_cmpR op_eq (pe_ix (ix_tupK K rfl) (pv 0) pe_int (fun _ _ => rfl)) pe_str (nomark _)) (pw_or1 (pt_cmpR op_eq (pe_ix (ix_tupK K rfl) (pv 0) pe_int (fun _ _ => rfl)) pe_str (nomark _))))) (pss_one (ps_ret (pe_lst pa_nil))) pss_nil)
      (pss_one (ps_ret (pe_lc (own := [("_law_part", 1)]) (g := gName 1) (by rfl) sc_law_parts.nd (pi_tupK K rfl (pe_slice (sl_tupAK K rfl) (pv 0) (po_some pe_int) po_none)) (blkOk_by (own := [("_law_part", 1)]) (N := N_law_parts) (sc := defScope s_law_parts) (by decide +kernel)) (fun _ _ _ _ _ => (pg_name (i := 1) sc_law_parts.nd rfl (Or.inl rfl))) (fun _ _ _ _ _ => pts_one (pt_val (pe_callB (call_isiKK K rfl) (by rfl) T.m_isinstance (by decide +kernel) (pa_cons (pv 1) (pa_cons (pe_bltn (v := .ty "tuple") (by rfl) T.m_tuple (by decide +kernel) rfl) pa_nil))))) (fun _ _ _ _ _ => (pv 1)))))), ?_⟩
  have leaf : t.kids = [] → ∀ D : Ends, D.rt = Q → tRet (tLst tNil) D [some (.ref a), none] H := fun e D eD => by
    refine ⟨(by show 0 ≤ sizeLine; decide), fun p np => ?_⟩
    rw [eD]
    exact q p [] _ np upd_same (by rw [e]; exact .nil) (same_new np)
  refine ⟨_, rfl, a, _, _, _, rfl, rfl, SqT.of ha, atI_nat (j := 0) rfl, rfl, _, rfl, ?_⟩
  by_cases w1 : t.wd = "name"
  · rw [decide_eq_true (show V.str t.wd = V.str "name" by rw [w1])]
    refine if_bl (fun _ => if_bl (fun _ => leaf ?_ _ rfl) (fun z => nomatch z)) (fun z => nomatch z)
    have : t.isNm = true := by rw [t.wd_nm, decide_eq_true w1]
    cases t <;> first | rfl | cases this
  rw [decide_eq_false (show ¬ V.str t.wd = V.str "name" from fun z => w1 (V.str.inj z))]
  refine if_bl (fun z => nomatch z) (fun _ => ?_)
  refine ⟨_, rfl, a, _, _, _, rfl, rfl, SqT.of ha, atI_nat (j := 0) rfl, rfl, _, rfl, ?_⟩
  by_cases w2 : t.wd = "number"
  · rw [decide_eq_true (show V.str t.wd = V.str "number" by rw [w2])]
    refine if_bl (fun _ => leaf ?_ _ rfl) (fun z => nomatch z)
    have : t.isNo = true := by rw [t.wd_no, decide_eq_true w2]
    cases t <;> first | rfl | cases this
  rw [decide_eq_false (show ¬ V.str t.wd = V.str "number" from fun z => w2 (V.str.inj z))]
  refine if_bl (fun z => nomatch z) (fun _ => ?_)
  refine ⟨_, rfl, ?_⟩
  dsimp only [tNoPart]
  refine ⟨_, rfl, slA_of ha0 fun p8 H8 h8 s8 => ?_⟩
  rw [show (1 : Int) = ((1 : Nat) : Int) from rfl, cut_drop, er, List.cons_append, List.drop_succ_cons, List.drop_zero] at h8
  refine ⟨p8, rfl, ⟨_, SqT.of h8⟩, fun D nD => ?_⟩
  refine lc_tup (K := K) (a := p8) (xs := r ++ ks) (fun i H9 => H9 D = some (.lst (((r ++ ks).take i).filter refB)) ∧ Same H8 H9) ⟨upd_same, same_new nD⟩ (fun i H9 _ ⟨_, s9⟩ => SqT.of (s9 _ _ h8)) ?_ ?_
  · rintro i z H9 hz ⟨hD, s9⟩
    refine ⟨rfl, ?_⟩
    have zm : (∃ y, z = V.str y) ∨ (∃ y, z = V.int y) ∨ ∃ b u, z = V.ref b ∧ TrAt H9 (.ref b) u := by
      rcases List.mem_append.mp (List.mem_of_getElem? hz) with m | m
      · rcases sort z m with y | y
        · exact .inl y
        · exact .inr (.inl y)
      · obtain ⟨j, hj⟩ := List.getElem?_of_mem m
        obtain ⟨u, _, hu⟩ := ak.getL hj
        obtain ⟨b, _, rfl, _⟩ := hu.op
        exact .inr (.inr ⟨b, u, rfl, hu.keep (TK.same (s8.trans s9))⟩)
    have tk : (r ++ ks).take (i + 1) = (r ++ ks).take i ++ [z] := by rw [List.take_add_one, hz]; rfl
    rcases zm with ⟨y, rfl⟩ | ⟨y, rfl⟩ | ⟨b, u, rfl, hu⟩
    · refine ⟨_, rfl, _, _, _, _, _, rfl, .ty "tuple", .base (.str _), kit_tupS, _, rfl, ?_⟩
      refine ⟨?_, s9⟩
      rw [hD, tk, List.filter_append]
      rw [show [V.str y].filter refB = [] from rfl, List.append_nil]
    · refine ⟨_, rfl, _, _, _, _, _, rfl, .ty "tuple", .base (.int _), kit_tupI, _, rfl, ?_⟩
      refine ⟨?_, s9⟩
      rw [hD, tk, List.filter_append]
      rw [show [V.int y].filter refB = [] from rfl, List.append_nil]
    · obtain ⟨_, k2, e2, hb, _⟩ := hu.op
      cases e2
      refine ⟨_, rfl, _, _, _, _, _, rfl, .ty "tuple", .base (.tup hb), kit_tupT, _, rfl, ?_⟩
      refine ⟨_, rfl, _, hD, ?_, ?_⟩
      · have : ((((r ++ ks).take i).filter refB)).length ≤ (r ++ ks).length := Nat.le_trans (List.length_filter_le ..) (by rw [List.length_take]; omega)
        rw [List.length_append] at this
        have l1 : r.length ≤ 3 := by
          have := congrArg List.length er
          have h3 : t.hd.length ≤ 3 := by cases t <;> simp [Tr.hd]
          rw [this, List.length_cons] at h3
          omega
        have l2 := ak.length
        have l3 := t.kids_len
        exact Nat.lt_of_le_of_lt this (small1000 (by omega))
      · refine ⟨?_, Same.own s9 nD⟩
        rw [upd_same, tk, List.filter_append]
        rfl
  rintro H9 ⟨hD, s9⟩
  rw [List.take_length, List.filter_append, refB_hd sort, List.nil_append, refB_kids ak] at hD
  exact q D ks H9 (same_none s8 nD) hD (ak.imp fun _ _ z => z.keep (TK.same (s8.trans s9))) (s8.trans s9)
end
/-! ### formulas as data, and what is told -/
def trD : Tr → PyData
  | .nm n k => .tuple [.str "name", .str n, .int ((k : Nat) : Int)]
  | .no i => .tuple [.str "number", .int i]
  | .tm k t => .tuple [.str "times", .int k, trD t]
  | .o2 w a b => .tuple [.str w.s, trD a, trD b]
  | .o3 a b c => .tuple [.str "pick", trD a, trD b, trD c]
abbrev waD (p : Str × List Int) : PyData := .tuple [.str p.1, .tuple (p.2.map PyData.int)]
abbrev rlD (p : Str × Tr) : PyData := .tuple [.str p.1, trD p.2]
abbrev fmD (F : Fm) : PyData := .tuple [.tuple (F.ins.map PyData.str), .tuple (F.was.map waD), .tuple (F.rules.map rlD), .tuple (F.outs.map PyData.str)]
theorem TrAt.dp {K : PySem.W.Frag} {H : Hp} : ∀ {t : Tr} {v : V}, TrAt H v t → Dp K H v (trD t) := by
  intro t
  induction t with
  | nm n i => intro v h; obtain ⟨a, rfl, e⟩ := h; exact .tup (SqT.of e) (.cons (.str _) (.cons (.str _) (.cons (.int _) .nil)))
  | no i => intro v h; obtain ⟨a, rfl, e⟩ := h; exact .tup (SqT.of e) (.cons (.str _) (.cons (.int _) .nil))
  | tm i t ih => intro v h; obtain ⟨a, x, rfl, e, h⟩ := h; exact .tup (SqT.of e) (.cons (.str _) (.cons (.int _) (.cons (ih h) .nil)))
  | o2 w s t i1 i2 => intro v h; obtain ⟨a, x, y, rfl, e, h, g⟩ := h; exact .tup (SqT.of e) (.cons (.str _) (.cons (i1 h) (.cons (i2 g) .nil)))
  | o3 s t u i1 i2 i3 => intro v h; obtain ⟨a, x, y, z, rfl, e, h, g, i⟩ := h; exact .tup (SqT.of e) (.cons (.str _) (.cons (i1 h) (.cons (i2 g) (.cons (i3 i) .nil))))
theorem was_dp {K : PySem.W.Frag} {H : Hp} {vs : List V} {l : List (Str × List Int)} (a : All2 (WaAt H) vs l) : DpAll K H vs (l.map waD) := by
  induction a with
  | nil => exact .nil
  | cons h t ih =>
    obtain ⟨p, b, rfl, e1, e2⟩ := h
    exact .cons (.tup (SqT.of e1) (.cons (.str _) (.cons (.tup (SqT.of e2) (dp_ints _)) .nil))) ih
theorem rls_dp {K : PySem.W.Frag} {H : Hp} {vs : List V} {l : List (Str × Tr)} (a : All2 (RlAt H) vs l) : DpAll K H vs (l.map rlD) := by
  induction a with
  | nil => exact .nil
  | cons h t ih =>
    obtain ⟨p, b, rfl, e1, e2⟩ := h
    exact .cons (.tup (SqT.of e1) (.cons (.str _) (.cons e2.dp .nil))) ih
theorem FmAt.dp {K : PySem.W.Frag} {H : Hp} {r : Addr} {F : Fm} (h : FmAt H r F) : Dp K H (.ref r) (fmD F) := by
  obtain ⟨a1, a2, a3, a4, wv, rv, e0, e1, e2, e3, e4, e5, e6⟩ := h
  exact .tup (SqT.of e0) (.cons (.tup (SqT.of e1) (dp_strs _)) (.cons (.tup (SqT.of e2) (was_dp e3)) (.cons (.tup (SqT.of e4) (rls_dp e5)) (.cons (.tup (SqT.of e6) (dp_strs _)) .nil))))
/-- a name that can be shown -/
structure Nm (z : Str) : Prop where
  lay : PyData.canLay0 (.str z) = true
  few : z.cps.size ≤ 9
theorem Wd.nm {m : Nat} {z : Str} (h : Wd m z) (l : m ≤ 9) : Nm z := ⟨h.lay, Nat.le_trans h.size l⟩
theorem W2.nm (w : W2) : Nm w.s := by cases w <;> exact ⟨by decide +kernel, by decide +kernel⟩
theorem tr_neat : ∀ {t : Tr}, t.small → (∀ q ∈ t.leans, Nm q.1 ∧ q.2 ≤ 1000) → Neat (trD t) t.dep (100 * t.parts.length) := by
  intro t
  induction t with
  | nm n k =>
    intro _ h
    obtain ⟨g1, g2⟩ := h (n, k) (List.mem_singleton.mpr rfl)
    exact (Neat.tup (.cons (Neat.str (x := "name") (n := 4) (dp := 0) (by decide +kernel) (by decide +kernel)) (.cons (Neat.str g1.lay g1.few) (.cons (Neat.int (i := ((k : Nat) : Int)) (by have : k ≤ 1000 := g2; omega)) .nil)))).mono (Nat.le_refl _) (by show _ ≤ 100 * 1; decide)
  | no i =>
    intro h _
    have h : Small i := h
    exact (Neat.tup (.cons (Neat.str (x := "number") (n := 6) (dp := 0) (by decide +kernel) (by decide +kernel)) (.cons (Neat.int (i := i) (by unfold Small at h; omega)) .nil))).mono (Nat.le_refl _) (by show _ ≤ 100 * 1; decide)
  | tm k t ih =>
    intro h g
    have i1 := ih h.2 g
    have h1 : (-9 : Int) ≤ k ∧ k ≤ 9 := h.1
    refine (Neat.tup (.cons (Neat.str (x := "times") (n := 5) (dp := t.dep) (by decide +kernel) (by decide +kernel)) (.cons (Neat.int (i := k) (by omega)) (.cons i1 .nil)))).mono (Nat.le_refl _) ?_
    rw [Tr.parts, List.length_append]
    show _ ≤ 100 * (_ + 1)
    omega
  | o2 w a b iha ihb =>
    intro h g
    have i1 := (iha h.1 fun q hq => g q (List.mem_append.mpr (.inl hq))).mono (Nat.le_max_left a.dep b.dep) (Nat.le_refl _)
    have i2 := (ihb h.2 fun q hq => g q (List.mem_append.mpr (.inr hq))).mono (Nat.le_max_right a.dep b.dep) (Nat.le_refl _)
    refine (Neat.tup (.cons (Neat.str (x := w.s) (n := 9) (dp := max a.dep b.dep) w.nm.lay w.nm.few) (.cons i1 (.cons i2 .nil)))).mono (Nat.le_refl _) ?_
    rw [Tr.parts, List.length_append, List.length_append]
    show _ ≤ 100 * (_ + 1)
    omega
  | o3 a b c iha ihb ihc =>
    intro h g
    have i1 := (iha h.1 fun q hq => g q (List.mem_append.mpr (.inl (List.mem_append.mpr (.inl hq))))).mono (Nat.le_max_left a.dep (max b.dep c.dep)) (Nat.le_refl _)
    have i2 := (ihb h.2.1 fun q hq => g q (List.mem_append.mpr (.inl (List.mem_append.mpr (.inr hq))))).mono (Nat.le_trans (Nat.le_max_left b.dep c.dep) (Nat.le_max_right a.dep (max b.dep c.dep))) (Nat.le_refl _)
    have i3 := (ihc h.2.2 fun q hq => g q (List.mem_append.mpr (.inr hq))).mono (Nat.le_trans (Nat.le_max_right b.dep c.dep) (Nat.le_max_right a.dep (max b.dep c.dep))) (Nat.le_refl _)
    refine (Neat.tup (.cons (Neat.str (x := "pick") (n := 9) (dp := max a.dep (max b.dep c.dep)) (by decide +kernel) (by decide +kernel)) (.cons i1 (.cons i2 (.cons i3 .nil))))).mono (Nat.le_refl _) ?_
    rw [Tr.parts, List.length_append, List.length_append, List.length_append]
    show _ ≤ 100 * (_ + 1)
    omega
/-- formulas that can be shown -/
structure SmF (F : Fm) : Prop where
  i : ∀ z ∈ F.ins, Nm z
  o : ∀ z ∈ F.outs, Nm z
  w : ∀ p ∈ F.was, Nm p.1 ∧ p.2.length ≤ 8 ∧ ∀ x ∈ p.2, Small x
  r : ∀ p ∈ F.rules, Nm p.1 ∧ p.2.small ∧ (∀ q ∈ p.2.leans, Nm q.1 ∧ q.2 ≤ 1000) ∧ p.2.parts.length ≤ 10
def SayD (d : PyData) : Prop := d.showable = true ∧ d.hasDict = false ∧ d.depth ≤ 60 ∧ d.shown.length ≤ sizeLine
theorem Neat.sayD {d : PyData} {dp n : Nat} (h : Neat d dp n) (k : dp ≤ 60) (m : n ≤ 1000000) : SayD d := ⟨h.say, h.nod, Nat.le_trans h.dep k, h.fits k m⟩
theorem fm_neat {F : Fm} (ok : FmOk F) (sm : SmF F) : Neat (fmD F) 15 250000 := by
  have s1 : ∀ l : List Str, (∀ z ∈ l, Nm z) → l.length ≤ 100 → Neat (.tuple (l.map PyData.str)) 14 1000 := fun l h ll =>
    (Neat.tup (NeatAll.map (f := PyData.str) (dp := 13) (n := 9) fun z hz => Neat.str (h z hz).lay (h z hz).few)).mono (Nat.le_refl _) (by omega)
  have s2 : Neat (.tuple (F.was.map waD)) 14 40000 := by
    refine (Neat.tup (NeatAll.map (f := waD) (dp := 13) (n := 399) fun p hp => ?_)).mono (Nat.le_refl _) (by have := ok.lw; omega)
    obtain ⟨g1, g2, g3⟩ := sm.w p hp
    have t1 := Neat.tup (NeatAll.map (f := PyData.int) (dp := 11) (n := 41) (l := p.2) fun x hx => Neat.int (by have := g3 x hx; unfold Small at this; omega))
    exact (Neat.tup (.cons (Neat.str (dp := 12) g1.lay g1.few) (.cons t1 .nil))).mono (Nat.le_refl _) (by omega)
  have s3 : Neat (.tuple (F.rules.map rlD)) 14 150000 := by
    refine (Neat.tup (NeatAll.map (f := rlD) (dp := 13) (n := 1100) fun p hp => ?_)).mono (Nat.le_refl _) (by have := ok.lr; omega)
    obtain ⟨g1, g2, g3, g4⟩ := sm.r p hp
    have t1 := (tr_neat g2 g3).mono (c := 12) (e := 1000) (by have := p.2.dep_parts; omega) (by omega)
    exact (Neat.tup (.cons (Neat.str (dp := 12) g1.lay g1.few) (.cons t1 .nil))).mono (Nat.le_refl _) (by omega)
  exact (Neat.tup (.cons (s1 _ sm.i ok.li) (.cons s2 (.cons s3 (.cons (s1 _ sm.o ok.lo) .nil))))).mono (Nat.le_refl _) (by decide)
theorem fm_say {F : Fm} (ok : FmOk F) (sm : SmF F) : SayD (fmD F) := (fm_neat ok sm).sayD (by decide) (by decide)
/-! ### what rules make, bells -/
def mk2 (wd : Str) (a b : Int) : Int :=
  if wd = "sum" then a + b else if wd = "gap" then a - b else if wd = "below" then (if a < b then 1 else 0) else if wd = "most" then (if b > a then b else a) else (if b < a then b else a)
def mk (wd : Str) (n a b c : Int) : Int :=
  if wd = "always" then n else if wd = "times" then n * a else if wd = "pick" then (if a = 0 then c else b) else if wd = "same" ∨ wd = "out" then a else mk2 wd a b
section
variable {P : Program} {w : World} {K : PySem.W.Frag} {mg : Str → Option Value} {base : Heap}
def sp_made_of_two (K : PySem.W.Frag) : Sp := fun vs H Q _ => ∃ (wd : Str) (a b : Int), vs = [.str wd, .int a, .int b] ∧ Q (.int (mk2 wd a b)) H
theorem ok_made_of_two {f : Addr} {fd : FuncData} (F : Fun K "made_of_two" "made_of_two" s_made_of_two f fd) (T : Top w K mg) : FnOk P w K mg base CX0 1 f fd ["word", "one", "other"] (sp_made_of_two K) := by
  refine F.ok sc_made_of_two (fun vs H Q E h => ?_) (fun cdv A outer s H vs Q E hr h => ?_)
  · obtain ⟨wd, a, b, rfl, _⟩ := h
    rfl
  obtain ⟨wd, a, b, rfl, q⟩ := h
  unfold mk2 at q
  refine ⟨_, (pss_cons (ps_if (pt_cmpR op_eq (pv 0) pe_str (nomark _)) (pss_one (ps_ret (pe_op op_add (pv 1) (pv 2)))) pss_nil)
      (pss_cons (ps_if (pt_cmpR op_eq (pv 0) pe_str (nomark _)) (pss_one (ps_ret (pe_op op_sub (pv 1) (pv 2)))) pss_nil)
      (pss_cons (ps_if (pt_cmpR op_eq (pv 0) pe_str (nomark _)) (pss_one (ps_ret (pe_ifExp (pt_cmpR op_lt (pv 1) (pv 2) (nomark _)) pe_int pe_int))) pss_nil)
      (pss_cons (ps_if (pt_cmpR op_eq (pv 0) pe_str (nomark _)) (pss_one (ps_ret (pe_callB (call_max2 rfl) (by rfl) T.m_max (by decide +kernel) (pa_cons (pv 1) (pa_cons (pv 2) pa_nil))))) pss_nil)
      (pss_one (ps_ret (pe_callB (call_min2 rfl) (by rfl) T.m_min (by decide +kernel) (pa_cons (pv 1) (pa_cons (pv 2) pa_nil))))))))), ?_⟩
  refine ⟨_, rfl, rfl, _, rfl, if_str (fun e => ?_) (fun e => ?_)⟩
  · rw [if_pos e] at q
    exact ⟨_, rfl, _, rfl, _, _, rfl, rfl, q⟩
  rw [if_neg e] at q
  refine ⟨_, rfl, rfl, _, rfl, if_str (fun e => ?_) (fun e => ?_)⟩
  · rw [if_pos e] at q
    exact ⟨_, rfl, _, rfl, _, _, rfl, rfl, q⟩
  rw [if_neg e] at q
  refine ⟨_, rfl, rfl, _, rfl, if_str (fun e => ?_) (fun e => ?_)⟩
  · rw [if_pos e] at q
    refine ⟨_, rfl, _, rfl, _, _, rfl, rfl, _, rfl, if_bl (fun c => ?_) (fun c => ?_)⟩
    · rw [if_pos (of_decide_eq_true c)] at q
      exact q
    · rw [if_neg (of_decide_eq_false c)] at q
      exact q
  rw [if_neg e] at q
  refine ⟨_, rfl, rfl, _, rfl, if_str (fun e => ?_) (fun e => ?_)⟩
  · rw [if_pos e] at q
    exact ⟨_, rfl, _, rfl, _, _, rfl, q⟩
  rw [if_neg e] at q
  exact ⟨_, rfl, _, rfl, _, _, rfl, q⟩
theorem inV_two {x y z : Str} : inV (.str x) [.str y, .str z] = true ↔ x = y ∨ x = z := by
  unfold inV
  simp only [List.any_cons, List.any_nil, Bool.or_false, Bool.or_eq_true, eqV, beq_iff_eq]
  constructor
  · rintro (h | h)
    · exact .inl h.symm
    · exact .inr h.symm
  · rintro (h | h)
    · exact .inl h.symm
    · exact .inr h.symm
theorem if_in2 {x y z : Str} {A B : Prop} (h1 : x = y ∨ x = z → A) (h2 : ¬ (x = y ∨ x = z) → B) : if (if false = true then !inV (.str x) [.str y, .str z] else inV (.str x) [.str y, .str z]) = true then A else B := by
  have e : (if false = true then !inV (.str x) [.str y, .str z] else inV (.str x) [.str y, .str z]) = inV (.str x) [.str y, .str z] := if_neg Bool.false_ne_true
  rw [e]
  exact if_bl (fun c => h1 (inV_two.mp c)) (fun c => h2 (fun k => by rw [inV_two.mpr k] at c; cases c))
def sp_made_by (K : PySem.W.Frag) : Sp := fun vs H Q _ => ∃ (r t : Addr) (rl ts : List V) (wd : Str) (n a b c : Int), vs = [.ref r, .ref t] ∧ SqT K H r rl ∧ SqT K H t ts ∧ rl[0]? = some (.str wd) ∧
  (wd = "always" ∨ wd = "times" → rl[1]? = some (.int n)) ∧ (wd ≠ "always" → ts[0]? = some (.int a)) ∧ (wd = "pick" ∨ (wd ≠ "always" ∧ wd ≠ "times" ∧ wd ≠ "same" ∧ wd ≠ "out") → ts[1]? = some (.int b)) ∧ (wd = "pick" → ts[2]? = some (.int c)) ∧
  (-(2 ^ 64) < n ∧ n < 2 ^ 64) ∧ ∀ H', Same H H' → Q (.int (mk wd n a b c)) H'
theorem ok_made_by {f : Addr} {fd : FuncData} (F : Fun K "made_by" "made_by" s_made_by f fd) (T : Top w K mg) : FnOk P w K mg base CX0 2 f fd ["rule", "things"] (sp_made_by K) := by
  obtain ⟨f_made_of_two, fd_made_of_two, F_made_of_two, b_made_of_two, m_made_of_two⟩ := T.d_made_of_two
  have G_made_of_two := ok_made_of_two (P := P) (w := w) (base := base) F_made_of_two T
  refine F.ok sc_made_by (fun vs H Q E h => ?_) (fun cdv A outer s H vs Q E hr h => ?_)
  · obtain ⟨r, t, rl, ts, wd, n, a, b, c, rfl, _⟩ := h
    rfl
  obtain ⟨r, t, rl, ts, wd, n, a, b, c, rfl, hR, hT, r0, r1, t0, t1, t2, hn, q⟩ := h
  unfold mk at q
  refine ⟨_, (pss_cons (ps_set (i := 2) sc_made_by.nd rfl (Or.inl rfl) (pe_ix (ix_tupK K rfl) (pv 0) pe_int (fun _ _ => rfl)))
      (pss_cons (ps_if (pt_cmpR op_eq (pv 2) pe_str (nomark _)) (pss_one (ps_ret (pe_ix (ix_tupK K rfl) (pv 0) pe_int (fun _ _ => rfl)))) pss_nil)
      (pss_cons (ps_if (pt_cmpR op_eq (pv 2) pe_str (nomark _)) (pss_one (ps_ret (pe_op op_mul (pe_ix (ix_tupK K rfl) (pv 0) pe_int (fun _ _ => rfl)) (pe_ix (ix_tupK K rfl) (pv 1) pe_int (fun _ _ => rfl))))) pss_nil)
      (pss_cons (ps_if (pt_cmpR op_eq (pv 2) pe_str (nomark _)) (pss_one (ps_ret (pe_ifExp (pt_cmpR op_ne (pe_ix (ix_tupK K rfl) (pv 1) pe_int (fun _ _ => rfl)) pe_int (nomark _)) (pe_ix (ix_tupK K rfl) (pv 1) pe_int (fun _ _ => rfl)) (pe_ix (ix_tupK K rfl) (pv 1) pe_int (fun _ _ => rfl))))) pss_nil)
      (pss_cons (ps_if (pt_cmpR (op_in_seqK K rfl) (pv 2) (pe_tup (pa_cons pe_str (pa_cons pe_str pa_nil))) (by with_unfolding_all rfl)) (pss_one (ps_ret (pe_ix (ix_tupK K rfl) (pv 1) pe_int (fun _ _ => rfl)))) pss_nil)
      (pss_one (ps_ret (pe_call G_made_of_two (hr.mono (by decide)) (by rfl) m_made_of_two F_made_of_two.kp b_made_of_two .nil pass0 (pa_cons (pv 2) (pa_cons (pe_ix (ix_tupK K rfl) (pv 1) pe_int (fun _ _ => rfl)) (pa_cons (pe_ix (ix_tupK K rfl) (pv 1) pe_int (fun _ _ => rfl)) pa_nil))))))))))), ?_⟩
  refine ⟨_, rfl, r, _, _, _, rfl, rfl, hR, atI_nat (j := 0) r0, ?_⟩
  refine ⟨_, rfl, rfl, _, rfl, if_str (fun e1 => ?_) (fun e1 => ?_)⟩
  · have q := q H (fun _ _ e => e)
    rw [if_pos e1] at q
    exact ⟨_, rfl, r, _, _, _, rfl, rfl, hR, atI_nat (j := 1) (r1 (.inl e1)), q⟩
  refine ⟨_, rfl, rfl, _, rfl, if_str (fun e2 => ?_) (fun e2 => ?_)⟩
  · have q := q H (fun _ _ e => e)
    rw [if_neg e1, if_pos e2] at q
    exact ⟨_, rfl, r, _, _, _, rfl, rfl, hR, atI_nat (j := 1) (r1 (.inr e2)), _, rfl, t, _, _, _, rfl, rfl, hT, atI_nat (j := 0) (t0 e1), _, _, rfl, rfl, .inl hn, q⟩
  refine ⟨_, rfl, rfl, _, rfl, if_str (fun e3 => ?_) (fun e3 => ?_)⟩
  · have q := q H (fun _ _ e => e)
    rw [if_neg e1, if_neg e2, if_pos e3] at q
    refine ⟨_, rfl, t, _, _, _, rfl, rfl, hT, atI_nat (j := 0) (t0 e1), rfl, _, rfl, if_bl (fun k => ?_) (fun k => ?_)⟩
    · have k2 : ¬ a = 0 := fun z => by
        rw [z] at k
        exact absurd k (by decide)
      rw [if_neg k2] at q
      exact ⟨_, rfl, t, _, _, _, rfl, rfl, hT, atI_nat (j := 1) (t1 (.inl e3)), q⟩
    · have k2 : a = 0 := by
        by_cases z : a = 0
        · exact z
        · have k3 : (!decide (V.int a = V.int 0)) = false := k
          rw [decide_eq_false (fun y => z (V.int.inj y))] at k3
          cases k3
      rw [if_pos k2] at q
      exact ⟨_, rfl, t, _, _, _, rfl, rfl, hT, atI_nat (j := 2) (t2 e3), q⟩
  refine ⟨_, rfl, (by show 2 ≤ sizeLine; decide), fun p np => ?_⟩
  have s1 := same_new (o := .tup [V.str "same", V.str "out"]) np
  have q := q _ s1
  rw [if_neg e1, if_neg e2, if_neg e3] at q
  refine ⟨p, _, rfl, .inr (SqT.of upd_same), rfl, rfl, _, rfl, if_in2 (fun e4 => ?_) (fun e4 => ?_)⟩
  · rw [if_pos e4] at q
    exact ⟨_, rfl, t, _, _, _, rfl, rfl, same_seqT s1 hT, atI_nat (j := 0) (t0 e1), q⟩
  · rw [if_neg e4] at q
    exact ⟨_, rfl, _, rfl, t, _, _, _, rfl, rfl, same_seqT s1 hT, atI_nat (j := 0) (t0 e1), _, rfl, t, _, _, _, rfl, rfl, same_seqT s1 hT, atI_nat (j := 1) (t1 (.inr ⟨e1, e2, fun z => e4 (.inl z), fun z => e4 (.inr z)⟩)), wd, a, b, rfl, q⟩
end
/-! ### what formulas say -/
def Tr.opv (look : Str → Nat → Int) : Tr → List Int → Int
  | .nm n k, _ => look n k
  | .no i, _ => i
  | .tm k _, xs => k * xs.getD 0 0
  | .o2 w _ _, xs => mk2 w.s (xs.getD 0 0) (xs.getD 1 0)
  | .o3 _ _ _, xs => if xs.getD 0 0 = 0 then xs.getD 2 0 else xs.getD 1 0
def Tr.val (look : Str → Nat → Int) : Tr → Int
  | .nm n k => look n k
  | .no i => i
  | .tm k t => k * t.val look
  | .o2 w a b => mk2 w.s (a.val look) (b.val look)
  | .o3 a b c => if a.val look = 0 then c.val look else b.val look
theorem Tr.val_eq (look : Str → Nat → Int) (t : Tr) : t.val look = t.opv look (t.kids.map (Tr.val look)) := by
  cases t <;> rfl
theorem Tr.val_congr {look look' : Str → Nat → Int} (t : Tr) (h : ∀ q ∈ t.leans, look q.1 q.2 = look' q.1 q.2) : t.val look = t.val look' := by
  induction t with
  | nm n k => exact h (n, k) (List.mem_singleton.mpr rfl)
  | no i => rfl
  | tm k t ih => simp only [Tr.val]; rw [ih h]
  | o2 w a b i1 i2 => simp only [Tr.val]; rw [i1 fun q m => h q (List.mem_append.mpr (.inl m)), i2 fun q m => h q (List.mem_append.mpr (.inr m))]
  | o3 a b c i1 i2 i3 => simp only [Tr.val]; rw [i1 fun q m => h q (List.mem_append.mpr (.inl (List.mem_append.mpr (.inl m)))), i2 fun q m => h q (List.mem_append.mpr (.inl (List.mem_append.mpr (.inr m)))), i3 fun q m => h q (List.mem_append.mpr (.inr m))]
/-- what the parts make of a stack of things -/
def exec (look : Str → Nat → Int) : List Tr → List Int → Option (List Int)
  | [], st => some st
  | p :: r, st => if p.kids.length ≤ st.length then exec look r (st.take (st.length - p.kids.length) ++ [p.opv look (st.drop (st.length - p.kids.length))]) else none
theorem exec_step {look : Str → Nat → Int} {p : Tr} {r : List Tr} {st xs : List Int} (h : xs.length = p.kids.length) : exec look (p :: r) (st ++ xs) = exec look r (st ++ [p.opv look xs]) := by
  unfold exec
  have e : (st ++ xs).length - p.kids.length = st.length := by rw [List.length_append, h]; omega
  rw [if_pos (by rw [List.length_append]; omega), e, List.take_left' rfl, List.drop_left' rfl]
  cases r <;> rfl
theorem exec_parts (look : Str → Nat → Int) (t : Tr) : ∀ (r : List Tr) (st : List Int), exec look (t.parts ++ r) st = exec look r (st ++ [t.val look]) := by
  induction t with
  | nm n k => intro r st; have := exec_step (look := look) (p := .nm n k) (r := r) (st := st) (xs := []) rfl; rwa [List.append_nil] at this
  | no i => intro r st; have := exec_step (look := look) (p := .no i) (r := r) (st := st) (xs := []) rfl; rwa [List.append_nil] at this
  | tm k t ih =>
    intro r st
    rw [Tr.parts, List.append_assoc, ih]
    exact exec_step (p := .tm k t) (xs := [t.val look]) rfl
  | o2 w a b i1 i2 =>
    intro r st
    rw [Tr.parts, List.append_assoc, List.append_assoc, i1, i2, List.append_assoc]
    exact exec_step (p := .o2 w a b) (xs := [a.val look, b.val look]) rfl
  | o3 a b c i1 i2 i3 =>
    intro r st
    rw [Tr.parts, List.append_assoc, List.append_assoc, List.append_assoc, i1, i2, i3, List.append_assoc, List.append_assoc]
    exact exec_step (p := .o3 a b c) (xs := [a.val look, b.val look, c.val look]) rfl
theorem small_parts {t : Tr} (h : t.small) : ∀ u ∈ t.parts, u.small := by
  induction t with
  | nm n k => intro u m; rw [List.mem_singleton.mp m]; exact h
  | no i => intro u m; rw [List.mem_singleton.mp m]; exact h
  | tm k t ih =>
    intro u m
    rcases List.mem_append.mp m with m | m
    · exact ih h.2 u m
    · rw [List.mem_singleton.mp m]; exact h
  | o2 w a b i1 i2 =>
    intro u m
    rcases List.mem_append.mp m with m | m
    · rcases List.mem_append.mp m with m | m
      · exact i1 h.1 u m
      · exact i2 h.2 u m
    · rw [List.mem_singleton.mp m]; exact h
  | o3 a b c i1 i2 i3 =>
    intro u m
    rcases List.mem_append.mp m with m | m
    · rcases List.mem_append.mp m with m | m
      · rcases List.mem_append.mp m with m | m
        · exact i1 h.1 u m
        · exact i2 h.2.1 u m
      · exact i3 h.2.2 u m
    · rw [List.mem_singleton.mp m]; exact h
/-- the things of a name ahead of bell 0, the latest first -/
def bfr (F : Fm) (n : Str) : List Int := match F.was.find? fun p => decide (p.1 = n) with
  | some p => p.2
  | none => []
/-- what a name is, as a tree at bell b sees it -/
def lookF (F : Fm) (h : Str → Nat → Int) (b : Nat) (n : Str) (k : Nat) : Int := if k ≤ b then h n (b - k) else (bfr F n).getD (k - b - 1) 0
structure Says (F : Fm) (N : Nat) (rw : Nat → Nat → Int) (h : Str → Nat → Int) : Prop where
  inn : ∀ (i : Nat) (n : Str) (b : Nat), b < N → F.ins[i]? = some n → h n b = rw b i
  rul : ∀ p ∈ F.rules, ∀ b, b < N → h p.1 b = p.2.val (lookF F h b)
theorem says_ex {F : Fm} (nd : F.own.Nodup) (rk : Str → Nat) (hr : ∀ p ∈ F.rules, ∀ q ∈ p.2.leans, q.2 = 0 → rk q.1 < rk p.1) (N : Nat) (rw : Nat → Nat → Int) : ∃ h, Says F N rw h := by
  classical
  let R : Nat × Str → Nat × Str → Prop := InvImage (Prod.Lex (· < ·) (· < ·)) fun x : Nat × Str => (x.1, rk x.2)
  have wf : WellFounded R := InvImage.wf _ (Prod.lex ⟨_, Nat.lt_wfRel.wf⟩ ⟨_, Nat.lt_wfRel.wf⟩).wf
  let Φ : (x : Nat × Str) → ((y : Nat × Str) → R y x → Int) → Int := fun x rec =>
    if x.2 ∈ F.ins then rw x.1 (F.ins.idxOf x.2) else match F.rules.find? fun p => decide (p.1 = x.2) with
      | some p => p.2.val fun m k => if k ≤ x.1 then (if lt : R (x.1 - k, m) x then rec _ lt else 0) else (bfr F m).getD (k - x.1 - 1) 0
      | none => 0
  have fx : ∀ x, wf.fix Φ x = Φ x fun y _ => wf.fix Φ y := fun x => wf.fix_eq Φ x
  have ndi : F.ins.Nodup := (List.nodup_append.mp nd).1
  have ndr : (F.rules.map (·.1)).Nodup := (List.nodup_append.mp nd).2.1
  refine ⟨fun n b => wf.fix Φ (b, n), fun i n b _ e => ?_, fun p hp b _ => ?_⟩
  · show wf.fix Φ (b, n) = _
    have hn := List.mem_of_getElem? e
    rw [fx]
    show (if n ∈ F.ins then rw b (F.ins.idxOf n) else _) = _
    rw [if_pos hn]
    have : F.ins[F.ins.idxOf n]? = some n := by
      rw [List.getElem?_eq_getElem (List.idxOf_lt_length_of_mem hn), List.getElem_idxOf]
    rw [nodup_get ndi this e]
  · show wf.fix Φ (b, p.1) = _
    rw [fx]
    have no : p.1 ∉ F.ins := fun m => (List.nodup_append.mp nd).2.2 _ m _ (List.mem_map.mpr ⟨p, hp, rfl⟩) rfl
    obtain ⟨i, ei⟩ := List.getElem?_of_mem hp
    have fe : (F.rules.find? fun q => decide (q.1 = p.1)) = some p := find_at ei (decide_eq_true rfl) fun j q hj eq => decide_eq_false fun e => by
      have h1 : (F.rules.map (·.1))[i]? = some p.1 := by rw [List.getElem?_map, ei]; rfl
      have h2 : (F.rules.map (·.1))[j]? = some p.1 := by rw [List.getElem?_map, eq, ← e]; rfl
      have := nodup_get ndr h1 h2
      omega
    show (if p.1 ∈ F.ins then _ else match F.rules.find? fun q => decide (q.1 = p.1) with | some p => _ | none => (0 : Int)) = _
    rw [if_neg no, fe]
    refine Tr.val_congr _ fun q hq => ?_
    show (if q.2 ≤ b then (if lt : R (b - q.2, q.1) (b, p.1) then wf.fix Φ (b - q.2, q.1) else 0) else _) = lookF F _ b q.1 q.2
    unfold lookF
    by_cases c : q.2 ≤ b
    · rw [if_pos c, if_pos c]
      have lt : R (b - q.2, q.1) (b, p.1) := by
        by_cases z : q.2 = 0
        · rw [z]
          exact Prod.Lex.right _ (hr p hp q hq z)
        · exact Prod.Lex.left _ _ (by omega)
      rw [dif_pos lt]
    · rw [if_neg c, if_neg c]
/-- how big things grow -/
theorem val_grows {look : Str → Nat → Int} {M : Nat} (hM : 1000000 ≤ M) : ∀ {t : Tr}, t.small → (∀ q ∈ t.leans, (look q.1 q.2).natAbs ≤ M) → (t.val look).natAbs ≤ M * 10 ^ t.parts.length := by
  have mk2b : ∀ (w : W2) (a b : Int), (mk2 w.s a b).natAbs ≤ a.natAbs + b.natAbs + 1 := fun w a b => by
    cases w with
    | sum => show (a + b).natAbs ≤ _; omega
    | gap => show (a - b).natAbs ≤ _; omega
    | below => show (if a < b then (1 : Int) else 0).natAbs ≤ _; split <;> omega
    | most => show (if b > a then b else a).natAbs ≤ _; split <;> omega
    | least => show (if b < a then b else a).natAbs ≤ _; split <;> omega
  intro t
  induction t with
  | nm n k =>
    intro _ h
    have : (look n k).natAbs ≤ M := h (n, k) (List.mem_singleton.mpr rfl)
    show (look n k).natAbs ≤ M * 10 ^ 1
    omega
  | no i =>
    intro h _
    have h : Small i := h
    show i.natAbs ≤ M * 10 ^ 1
    unfold Small at h
    omega
  | tm k t ih =>
    intro h g
    have i1 := ih h.2 g
    have h1 : (-9 : Int) ≤ k ∧ k ≤ 9 := h.1
    have e : (Tr.tm k t).parts.length = t.parts.length + 1 := by rw [Tr.parts, List.length_append]; rfl
    rw [e, Nat.pow_succ]
    show (k * t.val look).natAbs ≤ _
    rw [Int.natAbs_mul]
    have k9 : k.natAbs ≤ 9 := by omega
    have := Nat.mul_le_mul k9 i1
    rw [← Nat.mul_assoc]
    omega
  | o2 w a b i1 i2 =>
    intro h g
    have j1 := i1 h.1 fun q hq => g q (List.mem_append.mpr (.inl hq))
    have j2 := i2 h.2 fun q hq => g q (List.mem_append.mpr (.inr hq))
    have e : (Tr.o2 w a b).parts.length = a.parts.length + b.parts.length + 1 := by rw [Tr.parts, List.length_append, List.length_append]; rfl
    rw [e, Nat.pow_succ, Nat.pow_add]
    show (mk2 w.s _ _).natAbs ≤ _
    have := mk2b w (a.val look) (b.val look)
    have p1 : 1 ≤ 10 ^ a.parts.length := Nat.pow_pos (by decide)
    have p2 : 1 ≤ 10 ^ b.parts.length := Nat.pow_pos (by decide)
    have m1 : M * 10 ^ a.parts.length ≤ M * (10 ^ a.parts.length * 10 ^ b.parts.length) := Nat.mul_le_mul_left M (Nat.le_mul_of_pos_right _ p2)
    have m2 : M * 10 ^ b.parts.length ≤ M * (10 ^ a.parts.length * 10 ^ b.parts.length) := Nat.mul_le_mul_left M (Nat.le_mul_of_pos_left _ p1)
    rw [← Nat.mul_assoc M]
    have m0 : M * 1 ≤ M * 10 ^ a.parts.length := Nat.mul_le_mul_left M p1
    generalize M * (10 ^ a.parts.length * 10 ^ b.parts.length) = Z at *
    generalize M * 10 ^ a.parts.length = Z1 at *
    generalize M * 10 ^ b.parts.length = Z2 at *
    omega
  | o3 a b c i1 i2 i3 =>
    intro h g
    have j2 := i2 h.2.1 fun q hq => g q (List.mem_append.mpr (.inl (List.mem_append.mpr (.inr hq))))
    have j3 := i3 h.2.2 fun q hq => g q (List.mem_append.mpr (.inr hq))
    have e : (Tr.o3 a b c).parts.length = a.parts.length + b.parts.length + c.parts.length + 1 := by rw [Tr.parts, List.length_append, List.length_append, List.length_append]; rfl
    have l2 : M * 10 ^ b.parts.length ≤ M * 10 ^ (Tr.o3 a b c).parts.length := Nat.mul_le_mul_left M (Nat.pow_le_pow_right (by decide) (by omega))
    have l3 : M * 10 ^ c.parts.length ≤ M * 10 ^ (Tr.o3 a b c).parts.length := Nat.mul_le_mul_left M (Nat.pow_le_pow_right (by decide) (by omega))
    show (if a.val look = 0 then c.val look else b.val look).natAbs ≤ _
    split <;> omega
/-! ### the program's own words about formulas -/
def Tr.rl : Tr → List V
  | .nm _ _ => [.str "same"]
  | .no i => [.str "always", .int i]
  | .tm k _ => [.str "times", .int k]
  | .o2 w _ _ => [.str w.s]
  | .o3 _ _ _ => [.str "pick"]
theorem made_ok {p : Tr} (un : p.isNm = false) {xs : List Int} (hx : xs.length = p.kids.length) (ps : p.small) (look : Str → Nat → Int) : ∃ (wd : Str) (n a b c : Int), p.rl[0]? = some (.str wd) ∧
    (wd = "always" ∨ wd = "times" → p.rl[1]? = some (.int n)) ∧ (wd ≠ "always" → (xs.map V.int)[0]? = some (.int a)) ∧ (wd = "pick" ∨ (wd ≠ "always" ∧ wd ≠ "times" ∧ wd ≠ "same" ∧ wd ≠ "out") → (xs.map V.int)[1]? = some (.int b)) ∧ (wd = "pick" → (xs.map V.int)[2]? = some (.int c)) ∧
    (-(2 ^ 64) < n ∧ n < 2 ^ 64) ∧ mk wd n a b c = p.opv look xs ∧ wd ∈ eleven ∧ needN wd = ((p.kids.length : Nat) : Int) := by
  cases p with
  | nm n k => cases un
  | no i =>
    have ps : Small i := ps
    refine ⟨"always", i, 0, 0, 0, rfl, fun _ => rfl, fun z => absurd rfl z, fun z => ?_, fun z => absurd z (by decide +kernel), by unfold Small at ps; omega, ?_, by decide +kernel, by show needN _ = ((0 : Nat) : Int); decide +kernel⟩
    · rcases z with z | z
      · exact absurd z (by decide +kernel)
      · exact absurd rfl z.1
    · unfold mk; rw [if_pos rfl]; rfl
  | tm k t =>
    have p9 : (-9 : Int) ≤ k ∧ k ≤ 9 := ps.1
    obtain ⟨x, rfl⟩ : ∃ x, xs = [x] := by
      match xs, hx with
      | [x], _ => exact ⟨x, rfl⟩
    refine ⟨"times", k, x, 0, 0, rfl, fun _ => rfl, fun _ => rfl, fun z => ?_, fun z => absurd z (by decide +kernel), by omega, ?_, by decide +kernel, by show needN _ = ((1 : Nat) : Int); decide +kernel⟩
    · rcases z with z | z
      · exact absurd z (by decide +kernel)
      · exact absurd rfl z.2.1
    · unfold mk; rw [if_neg (by decide +kernel), if_pos rfl]; rfl
  | o2 w s t =>
    obtain ⟨x, y, rfl⟩ : ∃ x y, xs = [x, y] := by
      match xs, hx with
      | [x, y], _ => exact ⟨x, y, rfl⟩
    refine ⟨w.s, 0, x, y, 0, rfl, fun z => ?_, fun _ => rfl, fun _ => rfl, fun z => absurd z (by cases w <;> decide +kernel), by decide, ?_, by cases w <;> decide +kernel, by show needN _ = ((2 : Nat) : Int); cases w <;> decide +kernel⟩
    · exact absurd z (by cases w <;> decide +kernel)
    · unfold mk; rw [if_neg (by cases w <;> decide +kernel), if_neg (by cases w <;> decide +kernel), if_neg (by cases w <;> decide +kernel), if_neg (by cases w <;> decide +kernel)]; rfl
  | o3 s t u =>
    obtain ⟨x, y, z, rfl⟩ : ∃ x y z, xs = [x, y, z] := by
      match xs, hx with
      | [x, y, z], _ => exact ⟨x, y, z, rfl⟩
    refine ⟨"pick", 0, x, y, z, rfl, fun z => absurd z (by decide +kernel), fun _ => rfl, fun _ => rfl, fun _ => rfl, by decide, ?_, by decide +kernel, by show needN _ = ((3 : Nat) : Int); decide +kernel⟩
    unfold mk; rw [if_neg (by decide +kernel), if_neg (by decide +kernel), if_pos rfl]; rfl
section
variable {P : Program} {w : World} {K : PySem.W.Frag} {mg : Str → Option Value} {base : Heap}
def sp_part_rule (K : PySem.W.Frag) : Sp := fun vs H Q _ => ∃ (v : V) (t : Tr), vs = [v] ∧ TrAt H v t ∧ ∀ (p : Addr) (H' : Hp), H' p = some (.tup t.rl) → Same H H' → Q (.ref p) H'
theorem ok_part_rule {f : Addr} {fd : FuncData} (F : Fun K "part_rule" "part_rule" s_part_rule f fd) (T : Top w K mg) : FnOk P w K mg base CX0 1 f fd ["part"] (sp_part_rule K) := by
  refine F.ok sc_part_rule (fun vs H Q E h => ?_) (fun cdv A outer s H vs Q E hr h => ?_)
  · obtain ⟨v, t, rfl, _⟩ := h
    rfl
  obtain ⟨v, t, rfl, ht, q⟩ := h
  obtain ⟨a, ks, rfl, ha, ak⟩ := ht.op
  obtain ⟨r, er, sort⟩ := t.hd_wd
  have ha0 := ha
  rw [er, List.cons_append] at ha
  refine ⟨_, (pss_cons (ps_set (i := 1) sc_part_rule.nd rfl (Or.inl rfl) (pe_ix (ix_tupK K rfl) (pv 0) pe_int (fun _ _ => rfl)))
      (pss_cons (ps_if (pt_cmpR op_eq (pv 1) pe_str (nomark _)) (pss_one (ps_ret (pe_tup (pa_cons pe_str pa_nil)))) pss_nil)
      (pss_cons (ps_if (pt_cmpR op_eq (pv 1) pe_str (nomark _)) (pss_one (ps_ret (pe_tup (pa_cons pe_str (pa_cons (pe_ix (ix_tupK K rfl) (pv 0) pe_int (fun _ _ => rfl)) pa_nil))))) pss_nil)
      (pss_cons (ps_if (pt_cmpR op_eq (pv 1) pe_str (nomark _)) (pss_one (ps_ret (pe_tup (pa_cons pe_str (pa_cons (pe_ix (ix_tupK K rfl) (pv 0) pe_int (fun _ _ => rfl)) pa_nil))))) pss_nil)
      (pss_one (ps_ret (pe_tup (pa_cons (pv 1) pa_nil)))))))), ?_⟩
  refine ⟨_, rfl, a, _, _, _, rfl, rfl, SqT.of ha, atI_nat (j := 0) rfl, ?_⟩
  refine ⟨_, rfl, rfl, _, rfl, if_str (fun e1 => ?_) (fun e1 => ?_)⟩
  · have un : t.isNm = true := by rw [t.wd_nm, decide_eq_true e1]
    cases t with
    | nm n k => exact ⟨(by show 1 ≤ sizeLine; decide), fun p np => q p _ upd_same (same_new np)⟩
    | _ => cases un
  refine ⟨_, rfl, rfl, _, rfl, if_str (fun e2 => ?_) (fun e2 => ?_)⟩
  · have un : t.isNo = true := by rw [t.wd_no, decide_eq_true e2]
    cases t with
    | no i =>
      have ha0 : H a = some (.tup ([.str "number", .int i] ++ ks)) := ha0
      exact ⟨_, rfl, a, _, _, _, rfl, rfl, SqT.of ha0, atI_nat (j := 1) rfl, (by show 2 ≤ sizeLine; decide), fun p np => q p _ upd_same (same_new np)⟩
    | _ => cases un
  refine ⟨_, rfl, rfl, _, rfl, if_str (fun e3 => ?_) (fun e3 => ?_)⟩
  · cases t with
    | tm k u =>
      have ha0 : H a = some (.tup ([.str "times", .int k] ++ ks)) := ha0
      exact ⟨_, rfl, a, _, _, _, rfl, rfl, SqT.of ha0, atI_nat (j := 1) rfl, (by show 2 ≤ sizeLine; decide), fun p np => q p _ upd_same (same_new np)⟩
    | nm n k => exact absurd rfl e1
    | no i => exact absurd rfl e2
    | o2 w x y => exact absurd (show w.s = ("times" : Str) from e3) (by cases w <;> decide +kernel)
    | o3 x y z => exact absurd (show ("pick" : Str) = "times" from e3) (by decide +kernel)
  · cases t with
    | nm n k => exact absurd rfl e1
    | no i => exact absurd rfl e2
    | tm k u => exact absurd rfl e3
    | o2 w x y => exact ⟨_, rfl, (by show 1 ≤ sizeLine; decide), fun p np => q p _ upd_same (same_new np)⟩
    | o3 x y z => exact ⟨_, rfl, (by show 1 ≤ sizeLine; decide), fun p np => q p _ upd_same (same_new np)⟩
def sp_needs (K : PySem.W.Frag) : Sp := fun vs H Q _ => ∃ (r : Addr) (z : Str) (l : List V), vs = [.ref r] ∧ H r = some (.tup (.str z :: l)) ∧ z ∈ eleven ∧ Q (.int (needN z)) H
theorem ok_needs {f : Addr} {fd : FuncData} (F : Fun K "needs" "needs" s_needs f fd) (T : Top w K mg) : FnOk P w K mg base CX0 1 f fd ["rule"] (sp_needs K) := by
  refine F.ok sc_needs (fun vs H Q E h => ?_) (fun cdv A outer s H vs Q E hr h => ?_)
  · obtain ⟨r, z, l, rfl, _⟩ := h
    rfl
  obtain ⟨r, z, l, rfl, hr0, hz, q⟩ := h
  obtain ⟨aN, mN, hN⟩ := T.x_needs
  obtain ⟨es, nn, hKD⟩ := hN.dict
  obtain ⟨t, hy⟩ := hN.yes z hz
  refine ⟨_, (pss_one (ps_ret (pe_ix ix_kdict (pe_glob (v := .ref aN) (by rfl) mN rfl) (pe_ix (ix_tupK K rfl) (pv 0) pe_int (fun _ _ => rfl)) (fun _ _ => rfl)))), ?_⟩
  exact ⟨_, rfl, r, _, _, _, rfl, rfl, SqT.of hr0, atI_nat (j := 0) rfl, aN, z, .int (needN z), rfl, rfl, ⟨es, nn, _, hKD.at_, hKD.lit, hy, ⟨t, rfl⟩⟩, q⟩
theorem at_getD {ns : List Int} {i : Nat} (h : i < ns.length) : atI (ns.map V.int) ((i : Nat) : Int) = some (.int (ns.getD i 0)) := by
  refine atI_nat ?_
  rw [List.getElem?_map, List.getElem?_eq_getElem h, List.getD_eq_getElem?_getD, List.getElem?_eq_getElem h]
  rfl
def sp_thing_at (K : PySem.W.Frag) : Sp := fun vs H Q _ => ∃ (l p : Addr) (hs ps : List Int) (b : Int), vs = [.ref l, .ref p, .int b] ∧ SqL K H l (hs.map V.int) ∧ SqT K H p (ps.map V.int) ∧ (0 ≤ b → b.toNat < hs.length) ∧ Q (.int (if 0 ≤ b then hs.getD b.toNat 0 else ps.getD (-1 - b).toNat 0)) H
theorem ok_thing_at {f : Addr} {fd : FuncData} (F : Fun K "thing_at" "thing_at" s_thing_at f fd) (T : Top w K mg) : FnOk P w K mg base CX0 1 f fd ["since", "before", "bell"] (sp_thing_at K) := by
  refine F.ok sc_thing_at (fun vs H Q E h => ?_) (fun cdv A outer s H vs Q E hr h => ?_)
  · obtain ⟨l, p, hs, ps, b, rfl, _⟩ := h
    rfl
  obtain ⟨l, p, hs, ps, b, rfl, hl, hp, lt, q⟩ := h
  refine ⟨_, (pss_cons (ps_if (pt_cmpR op_ge (pv 2) pe_int (nomark _)) (pss_one (ps_ret (pe_ix (ix_listK K rfl) (pv 0) (pv 2) (fun _ _ => rfl)))) pss_nil)
      (pss_cons (ps_set (i := 3) sc_thing_at.nd rfl (Or.inl rfl) (pe_op op_sub (pe_un un_neg pe_int) (pv 2)))
      (pss_one (ps_ret (pe_ifExp (pt_cmpR op_lt (pv 3) (pe_callB (call_len_seqK K rfl) (by rfl) T.m_len (by decide +kernel) (pa_cons (pv 1) pa_nil)) (nomark _)) (pe_ix (ix_tupK K rfl) (pv 1) (pv 3) (fun _ _ => rfl)) pe_int))))), ?_⟩
  refine ⟨_, rfl, _, _, rfl, rfl, _, rfl, if_bl (fun c => ?_) (fun c => ?_)⟩
  · have c0 : 0 ≤ b := of_decide_eq_true c
    rw [if_pos c0] at q
    have e : b = ((b.toNat : Nat) : Int) := by omega
    exact ⟨_, rfl, _, rfl, l, _, b, _, rfl, rfl, hl, by rw [e]; exact at_getD (lt c0), q⟩
  · have c0 : ¬ 0 ≤ b := of_decide_eq_false c
    rw [if_neg c0] at q
    refine ⟨_, rfl, _, rfl, _, _, rfl, rfl, ?_⟩
    have e : -1 - b = (((-1 - b).toNat : Nat) : Int) := by omega
    refine ⟨_, rfl, _, rfl, p, _, rfl, .inr hp, _, _, rfl, rfl, _, rfl, if_bl (fun d => ?_) (fun d => ?_)⟩
    · have d0 : -1 - b < (((ps.map V.int).length : Nat) : Int) := of_decide_eq_true d
      rw [List.length_map] at d0
      exact ⟨_, rfl, _, rfl, p, _, -1 - b, _, rfl, rfl, hp, by rw [e]; exact at_getD (by omega), q⟩
    · have d0 : ¬ -1 - b < (((ps.map V.int).length : Nat) : Int) := of_decide_eq_false d
      rw [List.length_map] at d0
      rw [List.getD_eq_getElem?_getD, List.getElem?_eq_none (by omega)] at q
      exact q
/-- where a name's things stand, so far as a tree at bell b asks for them -/
def SiAt (H : Hp) (kvs : List (Key × V)) (h : Str → Nat → Int) (b : Nat) (q : Str × Nat) : Prop := ∃ (l : Addr) (hs : List Int), valV kvs (Sum.inr q.1) = some (.ref l) ∧ H l = some (.lst (hs.map V.int)) ∧ (q.2 ≤ b → hs[b - q.2]? = some (h q.1 (b - q.2)))
/-- what was ahead of bell 0 -/
def BfAt (H : Hp) (wk : List (Key × V)) (F : Fm) : Prop := ∀ n : Str, (valV wk (Sum.inr n) = none ∧ bfr F n = []) ∨ ∃ p, valV wk (Sum.inr n) = some (.ref p) ∧ H p = some (.tup ((bfr F n).map V.int))
theorem BfAt.keep {H H' : Hp} {wk : List (Key × V)} {F : Fm} (h : BfAt H wk F) (k : TK H H') : BfAt H' wk F := fun n => (h n).imp id fun ⟨p, e1, e2⟩ => ⟨p, e1, k _ _ e2⟩
theorem SiAt.same {H H' : Hp} {kvs : List (Key × V)} {h : Str → Nat → Int} {b : Nat} {q : Str × Nat} (x : SiAt H kvs h b q) (s : Same H H') : SiAt H' kvs h b q := by
  obtain ⟨l, hs, e1, e2, e3⟩ := x
  exact ⟨l, hs, e1, s _ _ e2, e3⟩
def sp_tree_thing (K : PySem.W.Frag) : Sp := fun vs H Q _ => ∃ (pl sd bd : Addr) (tv : List V) (t : Tr) (kvs wk : List (Key × V)) (F : Fm) (h : Str → Nat → Int) (b : Nat), vs = [.ref pl, .ref sd, .ref bd, nV b] ∧ H pl = some (.lst tv) ∧ All2 (TrAt H) tv t.parts ∧ t.small ∧ t.parts.length ≤ 100 ∧ H sd = some (.dK kvs) ∧ (∀ q ∈ t.leans, SiAt H kvs h b q) ∧ H bd = some (.dK wk) ∧ BfAt H wk F ∧
  ∀ H', Same H H' → Q (.int (t.val (lookF F h b))) H'
theorem ok_tree_thing {f : Addr} {fd : FuncData} (F : Fun K "tree_thing" "tree_thing" s_tree_thing f fd) (T : Top w K mg) : FnOk P w K mg base CX0 3 f fd ["parts", "since", "before", "bell"] (sp_tree_thing K) := by
  obtain ⟨f_part_rule, fd_part_rule, F_part_rule, b_part_rule, m_part_rule⟩ := T.d_part_rule
  have G_part_rule := ok_part_rule (P := P) (w := w) (base := base) F_part_rule T
  obtain ⟨f_thing_at, fd_thing_at, F_thing_at, b_thing_at, m_thing_at⟩ := T.d_thing_at
  have G_thing_at := ok_thing_at (P := P) (w := w) (base := base) F_thing_at T
  obtain ⟨f_needs, fd_needs, F_needs, b_needs, m_needs⟩ := T.d_needs
  have G_needs := ok_needs (P := P) (w := w) (base := base) F_needs T
  obtain ⟨f_made_by, fd_made_by, F_made_by, b_made_by, m_made_by⟩ := T.d_made_by
  have G_made_by := ok_made_by (P := P) (w := w) (base := base) F_made_by T
  refine F.ok sc_tree_thing (fun vs H Q E h => ?_) (fun cdv A outer s H vs Q E hr h => ?_)
  · obtain ⟨pl, sd, bd, tv, t, kvs, wk, F, h, b, rfl, _⟩ := h
    rfl
  obtain ⟨pl, sd, bd, tv, t, kvs, wk, F, hh, b, rfl, hpl, al, sm, lt, hsd, hsi, hbd, hbf, q⟩ := h
  refine ⟨_, (pss_cons (ps_set (i := 4) sc_tree_thing.nd rfl (Or.inl rfl) (pe_lst pa_nil))
      (pss_cons (ps_for PassesOwn.never rfl (pi_listK K rfl (pv 0)) (pg_name (i := 5) sc_tree_thing.nd rfl (Or.inl rfl))
        (pss_one (ps_if (pt_cmpR op_eq (pe_ix (ix_tupK K rfl) (pv 5) pe_int (fun _ _ => rfl)) pe_str (nomark _)) (pss_cons (ps_set (i := 6) sc_tree_thing.nd rfl (Or.inl rfl) (pe_ix (ix_tupK K rfl) (pv 5) pe_int (fun _ _ => rfl)))
      (pss_one (ps_expr (pe_bmK K rfl PySem.F.plainAttrs_list PySem.F.slot_list_append PySem.F.type_list_append mt_append (pv 4) (pa_cons (pe_call G_thing_at (hr.mono (by decide)) (by rfl) m_thing_at F_thing_at.kp b_thing_at .nil pass0 (pa_cons (pe_dget (hu_of hr) (pv 1) (pv 6) (fun _ _ => rfl)) (pa_cons (pe_dget2 (hu_of hr) (pv 2) (pv 6) (pe_tup pa_nil) ⟨by rfl, by rfl, by rfl, by rfl⟩) (pa_cons (pe_op op_sub (pv 3) (pe_ix (ix_tupK K rfl) (pv 5) pe_int (fun _ _ => rfl))) pa_nil)))) pa_nil))))) (pss_cons (ps_set (i := 7) sc_tree_thing.nd rfl (Or.inl rfl) (pe_call G_part_rule (hr.mono (by decide)) (by rfl) m_part_rule F_part_rule.kp b_part_rule .nil pass0 (pa_cons (pv 5) pa_nil)))
      (pss_cons (ps_set (i := 8) sc_tree_thing.nd rfl (Or.inl rfl) (pe_op op_sub (pe_callB (call_len_seqK K rfl) (by rfl) T.m_len (by decide +kernel) (pa_cons (pv 4) pa_nil)) (pe_call G_needs (hr.mono (by decide)) (by rfl) m_needs F_needs.kp b_needs .nil pass0 (pa_cons (pv 7) pa_nil))))
      (pss_cons (ps_set (i := 9) sc_tree_thing.nd rfl (Or.inl rfl) (pe_callTy (call_tuple_ofK K rfl) (by rfl) T.m_tuple (by decide +kernel) (pa_cons (pe_slice (sl_listK K rfl) (pv 4) (po_some (pv 8)) po_none) pa_nil)))
      (pss_one (ps_asg (pe_lst (pa_cons (pe_call G_made_by (hr.mono (by decide)) (by rfl) m_made_by F_made_by.kp b_made_by .nil pass0 (pa_cons (pv 7) (pa_cons (pv 9) pa_nil))) pa_nil)) (pg_subT (pv 4) (po_some (pv 8)))))))))))
      (pss_one (ps_ret (pe_ix (ix_listK K rfl) (pv 4) pe_int (fun _ _ => rfl)))))), ?_⟩
  refine ⟨(by show 0 ≤ sizeLine; decide), fun ml nml => ?_⟩
  have s1 : Same H (upd H ml (.lst [])) := same_new nml
  have ltv := al.length
  let J : Nat → List Int → L2.St → Hp → Prop := fun i st σ H5 => ∃ v5 v6 v7 v8 v9 : Option V, σ = [some (.ref pl), some (.ref sd), some (.ref bd), some (nV b), some (.ref ml), v5, v6, v7, v8, v9] ∧ H5 ml = some (.lst (st.map V.int)) ∧ Same H H5 ∧ exec (lookF F hh b) (t.parts.drop i) st = some [t.val (lookF F hh b)] ∧ st.length ≤ i
  refine ⟨_, rfl, pl, rfl, ⟨_, SqL.of (s1 _ _ hpl)⟩, for_list (K := K) (a := pl) (xs := tv) (fun i σ H5 => ∃ st, J i st σ H5) ⟨[], none, none, none, none, none, rfl, upd_same, s1, ?_, Nat.zero_le _⟩ (fun i σ H5 _ ⟨_, _, _, _, _, _, _, _, s5, _⟩ => SqL.of (s5 _ _ hpl)) ?_ ?_⟩
  · rw [List.drop_zero]
    have := exec_parts (lookF F hh b) t [] []
    rw [List.append_nil] at this
    rw [this]
    rfl
  · rintro i v σ H5 hx ⟨st, v5, v6, v7, v8, v9, rfl, hml, s5, ex, ls⟩
    have hi : i < tv.length := (List.getElem?_eq_some_iff.mp hx).1
    obtain ⟨p, hp, tp⟩ := al.getL hx
    replace tp := tp.keep (TK.same s5)
    have dr : t.parts.drop i = p :: t.parts.drop (i + 1) := by
      obtain ⟨l, e⟩ := List.getElem?_eq_some_iff.mp hp
      rw [← e]; exact List.drop_eq_getElem_cons l
    have ps := small_parts sm p (List.mem_of_getElem? hp)
    have ple : i < t.parts.length := by omega
    obtain ⟨a, ks, rfl, ha, ak⟩ := tp.op
    obtain ⟨r, er, sort⟩ := p.hd_wd
    have ha0 := ha
    rw [er, List.cons_append] at ha
    rw [dr] at ex
    have lts : st.length ≤ 100 := by omega
    refine ⟨_, rfl, a, _, _, _, rfl, rfl, SqT.of ha, atI_nat (j := 0) rfl, rfl, _, rfl, if_str (fun e1 => ?_) (fun e1 => ?_)⟩
    · have un : p.isNm = true := by rw [p.wd_nm, decide_eq_true e1]
      cases p with
      | nm n k =>
        have ha0 : H5 a = some (.tup ([.str "name", .str n, nV k] ++ ks)) := ha0
        have mq : (n, k) ∈ t.leans := by
          rw [← t.leans_eq]
          exact List.mem_map.mpr ⟨.nm n k, List.mem_filter.mpr ⟨List.mem_of_getElem? hp, rfl⟩, rfl⟩
        obtain ⟨l, hs, g1, g2, g3⟩ := (hsi _ mq).same s5
        refine ⟨_, rfl, a, _, _, _, rfl, rfl, SqT.of ha0, atI_nat (j := 1) rfl, ?_⟩
        have hsd5 := s5 _ _ hsd
        have hbd5 := s5 _ _ hbd
        have gd : DGet H5 sd (.str n) (some (.ref l)) := by
          have := DGet.k (k := Sum.inr n) hsd5
          rw [g1] at this
          exact this
        refine ⟨_, rfl, .inl ⟨rfl, _, SqL.of hml⟩, _, rfl, _, rfl, sd, .ref l, rfl, gd, ?_⟩
        refine ⟨_, rfl, bd, rfl, .inl ⟨_, .inl hbd5⟩, _, rfl, (by show 0 ≤ sizeLine; decide), fun ep nep => ⟨valV wk (Sum.inr n), DGet.k (k := Sum.inr n) ((same_new nep) _ _ hbd5), ?_⟩⟩
        have s6 : Same H5 (upd H5 ep (.tup [])) := same_new nep
        obtain ⟨p2, ep1, hp1⟩ : ∃ p, ((valV wk (Sum.inr n)).getD (.ref ep)) = .ref p ∧ (upd H5 ep (.tup [])) p = some (.tup ((bfr F n).map V.int)) := by
          rcases hbf.keep (TK.same s5) n with ⟨z1, z2⟩ | ⟨p, z1, z2⟩
          · rw [z1, z2]
            exact ⟨ep, rfl, upd_same⟩
          · rw [z1]
            exact ⟨p, rfl, s6 _ _ z2⟩
        generalize upd H5 ep (.tup []) = H6 at s6 hp1 ⊢
        have hml6 := s6 _ _ hml
        refine ⟨_, rfl, _, rfl, a, _, _, _, rfl, rfl, SqT.of (s6 _ _ ha0), atI_nat (j := 2) rfl, _, _, rfl, rfl, ?_⟩
        refine ⟨l, p2, hs, bfr F n, ((b : Nat) : Int) - ((k : Nat) : Int), (by rw [ep1]; rfl), SqL.of (s6 _ _ g2), SqT.of hp1, fun c => ?_, ?_⟩
        · have kb : k ≤ b := by omega
          have := (List.getElem?_eq_some_iff.mp (g3 kb)).1
          omega
        have ev : (if 0 ≤ ((b : Nat) : Int) - ((k : Nat) : Int) then hs.getD (((b : Nat) : Int) - ((k : Nat) : Int)).toNat 0 else (bfr F n).getD (-1 - (((b : Nat) : Int) - ((k : Nat) : Int))).toNat 0) = lookF F hh b n k := by
          unfold lookF
          by_cases kb : k ≤ b
          · have g3 : hs[b - k]? = some (hh n (b - k)) := g3 kb
            rw [if_pos (by omega), if_pos kb, show (((b : Nat) : Int) - ((k : Nat) : Int)).toNat = b - k by omega, List.getD_eq_getElem?_getD, g3]
            rfl
          · rw [if_neg (by omega), if_neg kb, show (-1 - (((b : Nat) : Int) - ((k : Nat) : Int))).toNat = k - b - 1 by omega]
        rw [ev]
        refine ⟨ml, _, _, rfl, rfl, hml6, small1000 (by rw [List.length_map]; omega), st ++ [lookF F hh b n k], _, _, _, _, _, rfl, by rw [upd_same, List.map_append]; rfl, Same.own (s5.trans s6) nml, ?_, by rw [List.length_append]; show st.length + 1 ≤ _; omega⟩
        have e0 := exec_step (look := lookF F hh b) (p := .nm n k) (r := t.parts.drop (i + 1)) (st := st) (xs := []) rfl
        rw [List.append_nil] at e0
        rw [← ex, e0]
        rfl
      | _ => cases un
    · have un : p.isNm = false := by rw [p.wd_nm, decide_eq_false e1]
      have kl : p.kids.length ≤ st.length := by
        unfold exec at ex
        by_cases c : p.kids.length ≤ st.length
        · exact c
        · rw [if_neg c] at ex; cases ex
      obtain ⟨xs, hxs⟩ : ∃ xs, xs = st.drop (st.length - p.kids.length) := ⟨_, rfl⟩
      obtain ⟨st0, hst0⟩ : ∃ x, x = st.take (st.length - p.kids.length) := ⟨_, rfl⟩
      have est : st = st0 ++ xs := by rw [hst0, hxs, List.take_append_drop]
      have lxs : xs.length = p.kids.length := by rw [hxs, List.length_drop]; omega
      have l0 : st0.length = st.length - p.kids.length := by rw [hst0, List.length_take]; omega
      obtain ⟨wd, n, x0, x1, x2, y0, y1, y2, y3, y4, y5, y6, y7, y8⟩ := made_ok un lxs ps (lookF F hh b)
      obtain ⟨rest, erl⟩ : ∃ l, p.rl = .str wd :: l := by
        cases hr : p.rl with
        | nil => rw [hr] at y0; cases y0
        | cons z l => rw [hr] at y0; exact ⟨l, by rw [Option.some.inj y0]⟩
      refine ⟨_, rfl, .ref a, p, rfl, tp, fun rp H6 hrp s6 => ?_⟩
      have hml6 := s6 _ _ hml
      have hrp' := hrp
      rw [erl] at hrp'
      refine ⟨_, rfl, ml, _, rfl, .inl (SqL.of hml6), _, rfl, rp, wd, rest, rfl, hrp', y7, _, _, rfl, rfl, ?_⟩
      have ef : ((((st.map V.int).length : Nat) : Int) - needN wd) = ((st0.length : Nat) : Int) := by
        rw [y8, List.length_map, l0]; omega
      dsimp only
      rw [ef]
      refine ⟨_, rfl, _, rfl, _, rfl, ?_⟩
      dsimp only [tNoPart]
      refine ⟨ml, _, rfl, SqL.of hml6, fun sp nsp => ?_⟩
      have s7 : Same H6 (upd H6 sp (.lst (xs.map V.int))) := same_new nsp
      have hsp : (upd H6 sp (.lst (xs.map V.int))) sp = some (.lst (xs.map V.int)) := upd_same
      rw [show cutV (st.map V.int) (some ((st0.length : Nat) : Int)) none = xs.map V.int by rw [cut_drop, est, List.map_append, List.drop_left' (by rw [List.length_map])]]
      generalize upd H6 sp (.lst (xs.map V.int)) = H7 at s7 hsp ⊢
      refine ⟨sp, _, rfl, .inl ⟨SqL.of hsp, fun tp2 ntp => ?_⟩⟩
      have s8 : Same H7 (upd H7 tp2 (.tup (xs.map V.int))) := same_new ntp
      have htp : (upd H7 tp2 (.tup (xs.map V.int))) tp2 = some (.tup (xs.map V.int)) := upd_same
      generalize upd H7 tp2 (.tup (xs.map V.int)) = H8 at s8 htp ⊢
      have s68 := s7.trans s8
      refine ⟨_, rfl, _, rfl, rp, tp2, _, _, wd, n, x0, x1, x2, rfl, SqT.of (s68 _ _ hrp), SqT.of htp, y0, y1, y2, y3, y4, y5, fun H9 s9 => ⟨(by show 1 ≤ sizeLine; decide), fun bl nbl => ?_⟩⟩
      have s10 : Same H9 (upd H9 bl (.lst [.int (mk wd n x0 x1 x2)])) := same_new nbl
      have hml10 := s10 _ _ (s9 _ _ (s68 _ _ hml6))
      have nb : ml ≠ bl := fun z => by rw [← z, s9 _ _ (s68 _ _ hml6)] at nbl; cases nbl
      refine ⟨_, rfl, _, rfl, _, rfl, ml, bl, _, _, _, rfl, rfl, rfl, hml10, upd_same, nb, by omega, by rw [List.length_map]; omega, little (by rw [List.length_map]; show st.length + 1 ≤ 1000; omega), ?_⟩
      refine ⟨st0 ++ [mk wd n x0 x1 x2], _, _, _, _, _, rfl, ?_, Same.own (s5.trans (s6.trans (s68.trans (s9.trans s10)))) nml, ?_, ?_⟩
      · rw [upd_same, Int.toNat_natCast, est, List.map_append, List.take_left' (by rw [List.length_map]), List.map_append]; rfl
      · rw [y6, ← ex]
        have e0 := exec_step (look := lookF F hh b) (p := p) (r := t.parts.drop (i + 1)) (st := st0) (xs := xs) lxs
        rw [← est] at e0
        exact e0.symm
      · rw [List.length_append]; show st0.length + 1 ≤ _; omega
  · rintro σ H5 ⟨st, v5, v6, v7, v8, v9, rfl, hml, s5, ex, ls⟩
    rw [ltv, List.drop_length] at ex
    obtain rfl : st = [t.val (lookF F hh b)] := Option.some.inj ex
    exact ⟨_, rfl, ml, _, 0, _, rfl, rfl, SqL.of hml, rfl, q _ s5⟩
end
theorem tabbed_ext {P : Addr} {H H' : Hp} (h : GxR.TabG H P) (t : GxR.Tabbed P H H') : LamX.ExtN H H' := fun b o e n => by
  obtain ⟨ps, ep, _⟩ := h
  rw [t.2 b (fun z => by rw [z, ep] at e; exact n ps (Option.some.inj e).symm)]
  exact e
theorem tk_ext {H H' : Hp} (e : LamX.ExtN H H') : TK H H' := fun a xs h => e a _ h (fun ps z => nomatch z)
theorem ext_same {H H' : Hp} (s : Same H H') : LamX.ExtN H H' := fun a o h _ => s a o h
/-- the code object of hangs_on -/
class TabH (K : PySem.W.Frag) (mg : Str → Option Value) (base : Heap) (cH : outParam Addr) (PT : outParam Addr) : Prop where
  tb : GxR.TabB base mg cH PT
  cd : ∀ (f : Addr) (fd : FuncData), Fun K "hangs_on" "hangs_on" s_hangs_on f fd → mg "hangs_on" = some (.ref f) → fd.code = .ref cH
theorem ok_code {P : Program} {w : World} {K : PySem.W.Frag} {mg : Str → Option Value} {base : Heap} {x qual : Str} {st : Stmt} {f c : Addr} {fd : FuncData} {N ps : List Str} {k : Nat} {sp : Sp} (F : Fun K x qual st f fd) (hc : fd.code = .ref c) (S : FnScope N ps (defScope st)) (len : ∀ vs H Q E, sp vs H Q E → vs.length = ps.length)
    (hbody : ∀ (A : Around) (outer : List Env) (s : Shared) (H : Hp) (vs : List V) (Q : VK) (E : XK), Room k (A.deeper (envOfC qual (defScope st) s.heap.objs.size f (.ref c))) → sp vs H Q E →
      ∃ t, PSs (cxOf CX0 P w K mg base N qual (defScope st) f (.ref c) A outer s H E).nox (defBody st) t ∧ t { nx := fun _ H' => Q .non H', rt := Q } (L2.start N vs) H) : FnOk P w K mg base CX0 (k + 1) f fd ps sp := by
  obtain ⟨kl, kd, kV, dc, pm, an, cv, ct, ks, rfl, look, cin⟩ := F.ex
  obtain rfl : cv = .ref c := hc
  refine fn_of look cin S len fun A outer s H vs Q E hr now => ?_
  obtain ⟨t, h, q⟩ := hbody A outer s H vs Q E hr now
  exact ⟨t, h.nox, q⟩
theorem qt_list {K : PySem.W.Frag} {a : Addr} {xs : List V} {g : TG} {te : TE} {vs : List Nat} {sgσ : L2.St} {kp : Bool} {H2 : Hp} {Q : VK} (Pv : Nat → Hp → Prop) (h0 : Pv 0 H2) (hl : ∀ i H, i ≤ xs.length → Pv i H → SqL K H a xs)
    (hs : ∀ i x H, xs[i]? = some x → Pv i H → g x sgσ H fun σ2 H3 => wipe σ2 vs = sgσ ∧ te σ2 H3 fun y H4 => ∃ b, y = .bl b ∧ (b ≠ kp → Q (.bl b) H4) ∧ (b = kp → Pv (i + 1) H4)) (hd : ∀ H, Pv xs.length H → Q (.bl kp) H) :
    ∃ W : Nat → Nat → Hp → Prop, (∃ m, W 0 m H2) ∧ ∀ i m H, W i m H →
      ((Itl K a).stop i H ∧ Q (.bl kp) H) ∨ ((Itl K a).go i H ∧ ∃ Nx : Hp → Prop, (∀ H', Nx H' → ∃ m', m' < m ∧ W (i + 1) m' H') ∧ ∀ x H', (Itl K a).yld i H x H' → g x sgσ H' fun σ2 H3 => wipe σ2 vs = sgσ ∧ te σ2 H3 fun y H4 => ∃ b, y = .bl b ∧ (b ≠ kp → Q (.bl b) H4) ∧ (b = kp → Nx H4)) := by
  refine ⟨fun i m H => i + m = xs.length ∧ Pv i H, ⟨xs.length, Nat.zero_add _, h0⟩, fun i m H ⟨total, here⟩ => ?_⟩
  have seen := hl i H (by omega) here
  cases m with
  | zero =>
    have : i = xs.length := by omega
    subst this
    exact .inl ⟨⟨xs, seen, Nat.le_refl _⟩, hd H here⟩
  | succ m =>
    have lt : i < xs.length := by omega
    refine .inr ⟨⟨xs, xs[i], seen, List.getElem?_eq_getElem lt⟩, Pv (i + 1), fun H' p' => ⟨m, Nat.lt_succ_self m, by omega, p'⟩, fun x H' y => ?_⟩
    obtain ⟨rfl, y⟩ := y
    exact hs i x _ (y xs seen) here
theorem ext_own {H H1 : Hp} {p : Addr} {o : HO} (e : LamX.ExtN H H1) (h : H p = none) : LamX.ExtN H (upd H1 p o) := fun b u q n => by
  rw [upd_ne (ne_of_none q h)]
  exact e b u q n
theorem ext_new {H H1 : Hp} {p : Addr} {o : HO} (e : LamX.ExtN H H1) (h : H1 p = none) : LamX.ExtN H (upd H1 p o) := fun b u q n => by
  have z := e b u q n
  rw [upd_ne (ne_of_none z h)]
  exact z
theorem ext_none {H H1 : Hp} {p : Addr} (e : LamX.ExtN H H1) (tg : ∀ ps, H p ≠ some (.tbl ps)) (h : H1 p = none) : H p = none := by
  cases c : H p with
  | none => rfl
  | some o =>
    have := e p o c fun ps z => tg ps (by rw [c, z])
    rw [h] at this
    cases this
theorem tabG_upd {H : Hp} {P p : Addr} {o : HO} (t : GxR.TabG H P) (h : p ≠ P) : GxR.TabG (upd H p o) P := by
  obtain ⟨ps, e, z⟩ := t
  exact ⟨ps, by rw [upd_ne (Ne.symm h)]; exact e, z⟩
theorem tabG_ne {H : Hp} {P p : Addr} (t : GxR.TabG H P) (h : H p = none) : p ≠ P := fun z => by
  obtain ⟨ps, e, _⟩ := t
  rw [z, e] at h
  cases h
theorem tabG_ne2 {H : Hp} {P p : Addr} {o : HO} (t : GxR.TabG H P) (h : H p = some o) (n : ∀ ps, o ≠ .tbl ps) : p ≠ P := fun z => by
  obtain ⟨ps, e, _⟩ := t
  rw [z, e] at h
  exact n ps (Option.some.inj h).symm
theorem tabG_same {H H' : Hp} {P : Addr} (t : GxR.TabG H P) (s : Same H H') : GxR.TabG H' P := by
  obtain ⟨ps, e, z⟩ := t
  exact ⟨ps, s _ _ e, z⟩
/-! ### the order of the rules -/
def hgB (ns : List Str) (t : Tr) : Bool := t.leans.any fun q => decide (q.2 = 0) && decide (q.1 ∈ ns)
def OrdOk (ins : List Str) (os : List (Str × Tr)) : Prop := ∀ (j : Nat) (p : Str × Tr), os[j]? = some p → ∀ q ∈ p.2.leans, q.2 = 0 → q.1 ∈ ins ∨ q.1 ∈ (os.take j).map (·.1)
theorem ord_app {ins : List Str} {os fr : List (Str × Tr)} (h : OrdOk ins os) (k : ∀ p ∈ fr, ∀ q ∈ p.2.leans, q.2 = 0 → q.1 ∈ ins ∨ q.1 ∈ os.map (·.1)) : OrdOk ins (os ++ fr) := fun j p e q hq q0 => by
  by_cases c : j < os.length
  · rw [List.getElem?_append_left c] at e
    rcases h j p e q hq q0 with z | z
    · exact .inl z
    · rw [List.take_append_of_le_length (Nat.le_of_lt c)]
      exact .inr z
  · rw [List.getElem?_append_right (by omega)] at e
    rcases k p (List.mem_of_getElem? e) q hq q0 with z | z
    · exact .inl z
    · refine .inr ?_
      rw [List.take_append, List.map_append]
      refine List.mem_append.mpr (.inl ?_)
      rwa [List.take_of_length_le (by omega)]
theorem least_in {α : Type} (f : α → Nat) : ∀ {l : List α}, l ≠ [] → ∃ x ∈ l, ∀ y ∈ l, f x ≤ f y
  | [], h => absurd rfl h
  | [x], _ => ⟨x, List.mem_cons_self .., fun y hy => by rw [List.mem_singleton.mp hy]; exact Nat.le_refl _⟩
  | x :: z :: r, _ => by
    obtain ⟨u, hu, le⟩ := least_in f (l := z :: r) (fun e => nomatch e)
    by_cases c : f x ≤ f u
    · refine ⟨x, List.mem_cons_self .., fun y hy => ?_⟩
      rcases List.mem_cons.mp hy with rfl | hy
      · exact Nat.le_refl _
      · exact Nat.le_trans c (le y hy)
    · refine ⟨u, List.mem_cons_of_mem _ hu, fun y hy => ?_⟩
      rcases List.mem_cons.mp hy with rfl | hy
      · omega
      · exact le y hy
theorem hg_free {left : List (Str × Tr)} {rk : Str → Nat} (hr : ∀ p ∈ left, ∀ q ∈ p.2.leans, q.2 = 0 → rk q.1 < rk p.1) (ne : left ≠ []) : ∃ p ∈ left, hgB (left.map (·.1)) p.2 = false := by
  obtain ⟨p, hp, le⟩ := least_in (fun p : Str × Tr => rk p.1) ne
  refine ⟨p, hp, ?_⟩
  unfold hgB
  rw [List.any_eq_false]
  intro q hq c
  rw [Bool.and_eq_true, decide_eq_true_eq, decide_eq_true_eq] at c
  obtain ⟨p2, h2, e2⟩ := List.mem_map.mp c.2
  have h3 := le p2 h2
  have := hr p hp q hq c.1
  rw [← e2] at this
  have h3 : rk p.1 ≤ rk p2.1 := h3
  omega
theorem left_rest {left : List (Str × Tr)} (nd : (left.map (·.1)).Nodup) (f : Str × Tr → Bool) : (left.filter fun p => decide (p.1 ∉ (left.filter f).map (·.1))) = left.filter fun p => !f p := by
  refine List.filter_congr fun p hp => ?_
  have : p.1 ∈ (left.filter f).map (·.1) ↔ f p = true := by
    constructor
    · intro m
      obtain ⟨p2, h2, e2⟩ := List.mem_map.mp m
      obtain ⟨m2, f2⟩ := List.mem_filter.mp h2
      obtain ⟨i, ei⟩ := List.getElem?_of_mem hp
      obtain ⟨j, ej⟩ := List.getElem?_of_mem m2
      have h1 : (left.map (·.1))[i]? = some p.1 := by rw [List.getElem?_map, ei]; rfl
      have h2 : (left.map (·.1))[j]? = some p.1 := by rw [List.getElem?_map, ej]; exact congrArg some e2
      have := nodup_get nd h1 h2
      subst this
      rw [ei] at ej
      rw [Option.some.inj ej]
      exact f2
    · intro c
      exact List.mem_map.mpr ⟨p, List.mem_filter.mpr ⟨hp, c⟩, rfl⟩
  by_cases c : f p = true
  · rw [c, decide_eq_false fun z => z (this.mpr c)]; rfl
  · rw [Bool.not_eq_true] at c
    rw [c]
    have n : p.1 ∉ (left.filter f).map (·.1) := fun z => by rw [this.mp z] at c; cases c
    exact decide_eq_true n
section
variable {P : Program} {w : World} {K : PySem.W.Frag} {mg : Str → Option Value} {base : Heap} {cH PT : Addr} [TH : TabH K mg base cH PT]
include TH
def sp_hangs_on (K : PySem.W.Frag) (PT : Addr) : Sp := fun vs H Q _ => ∃ (v : V) (nl : Addr) (t : Tr) (ns : List Str), vs = [v, .ref nl] ∧ TrAt H v t ∧ t.parts.length ≤ 400 ∧ H nl = some (.lst (ns.map V.str)) ∧ GxR.TabG H PT ∧ ∀ H', LamX.ExtN H H' → GxR.TabG H' PT → Q (.bl (hgB ns t)) H'
theorem ok_hangs_on {f : Addr} {fd : FuncData} (F : Fun K "hangs_on" "hangs_on" s_hangs_on f fd) (hcd : fd.code = .ref cH) (T : Top w K mg) : FnOk P w K mg base CX0 4 f fd ["tree", "names"] (sp_hangs_on K PT) := by
  obtain ⟨f_leanings, fd_leanings, F_leanings, b_leanings, m_leanings⟩ := T.d_leanings
  have G_leanings := ok_leanings (P := P) (w := w) (base := base) F_leanings T
  refine ok_code F hcd sc_hangs_on (fun vs H Q E h => ?_) (fun A outer s H vs Q E hr h => ?_)
  · obtain ⟨v, nl, t, ns, rfl, _⟩ := h
    rfl
  obtain ⟨v, nl, t, ns, rfl, ht, hl, hnl, tg, q⟩ := h
  refine ⟨_, (pss_one (ps_ret (pe_anyG (k := 0) (N' := ["name", "ago", "names"]) (sg := (fun σ => List.replicate 2 none ++ [σ.getD 1 none])) (vs := [0, 1]) (g := (gTup K 2 (gCons (gName 0) (gCons (gName 1) gNil)))) (hr.mono (by decide)) rfl (by rfl) T.m_any (by decide +kernel) TH.tb rfl (genN_one (ts := ["name", "ago"]) (f := "names") (j := 1) rfl rfl (by decide +kernel) rfl (by decide +kernel) rfl rfl (by first | exact Or.inl rfl | exact Or.inr rfl)) (pi_listK K rfl (pe_call G_leanings (hr.mono (by decide)) (by rfl) m_leanings F_leanings.kp b_leanings .nil pass0 (pa_cons (pv 0) pa_nil))) (fun _ => rfl) (fun _ _ _ _ _ _ _ _ _ hr => (pg_tupK K rfl rfl (pgs_cons (pg_name (i := 0) (show List.Nodup (["name", "ago", "names"] : List Str) from by decide +kernel) rfl (Or.inl rfl)) (pgs_cons (pg_name (i := 1) (show List.Nodup (["name", "ago", "names"] : List Str) from by decide +kernel) rfl (Or.inl rfl)) pgs_nil)))) (fun _ _ _ _ _ _ _ _ _ hr => (pe_and (pe_cmpR op_eq (pv 1) pe_int (nomark _)) (pe_one (pe_cmpR (op_in_seqK K rfl) (pv 0) (pv 2) (by with_unfolding_all rfl)))))))), ?_⟩
  refine ⟨_, rfl, v, t, rfl, ht, hl, fun p lv H1 np hp al s1 => ?_⟩
  have tg1 := tabG_same tg s1
  refine ⟨p, rfl, ⟨_, SqL.of hp⟩, tg1, fun H2 t2 => ?_⟩
  have e2 := tabbed_ext tg1 t2
  have tg2 := t2.1
  have k2 := tk_ext e2
  have hp2 := e2 _ _ hp (fun ps z => nomatch z)
  have hnl2 := e2 _ _ (s1 _ _ hnl) (fun ps z => nomatch z)
  have e12 := (ext_same s1).trans e2
  refine qt_list (K := K) (a := p) (xs := lv) (fun i H5 => H5 = H2 ∧ ∀ q ∈ t.leans.take i, (decide (q.2 = 0) && decide (q.1 ∈ ns)) = false) ⟨rfl, fun q z => by rw [List.take_zero] at z; cases z⟩ (fun i H5 _ z => z.1 ▸ SqL.of hp2) ?_ ?_
  · rintro i x H5 hx ⟨rfl, no⟩
    obtain ⟨u, hu, a, rfl, ea⟩ := al.getL hx
    replace ea := k2 _ _ ea
    refine ⟨a, _, rfl, SqT.of ea, rfl, _, _, rfl, _, _, rfl, rfl, ?_⟩
    have more : (decide (u.2 = 0) && decide (u.1 ∈ ns)) = false → ∀ q ∈ t.leans.take (i + 1), (decide (q.2 = 0) && decide (q.1 ∈ ns)) = false := fun z q hq => by
      rw [List.take_add_one, hu] at hq
      rcases List.mem_append.mp hq with m | m
      · exact no q m
      · rw [List.mem_singleton.mp m]; exact z
    have yes : (decide (u.2 = 0) && decide (u.1 ∈ ns)) = true → hgB ns t = true := fun z => List.any_eq_true.mpr ⟨u, List.mem_of_getElem? hu, z⟩
    refine ⟨rfl, _, rfl, rfl, _, rfl, if_bl (fun c => ?_) (fun c => ?_)⟩
    · have c0 : u.2 = 0 := by
        have := V.int.inj (of_decide_eq_true c)
        omega
      refine ⟨_, rfl, _, rfl, nl, _, rfl, .inl (SqL.of hnl2), rfl, flat_strs ns, _, rfl, fun h => ?_, fun h => ⟨rfl, more ?_⟩⟩
      · have e : (if false = true then !inV (.str u.1) (ns.map V.str) else inV (.str u.1) (ns.map V.str)) = true := by
          cases z : (if false = true then !inV (.str u.1) (ns.map V.str) else inV (.str u.1) (ns.map V.str)) with
          | true => rfl
          | false => exact absurd z h
        have m := inV_strs.mp ((if_neg Bool.false_ne_true).symm.trans e)
        show Q (.bl _) _
        rw [e]
        have := yes (by rw [decide_eq_true c0, decide_eq_true m]; rfl)
        rw [← this]
        exact q _ e12 tg2
      · rw [if_neg Bool.false_ne_true] at h
        have : u.1 ∉ ns := fun m => by rw [inV_strs.mpr m] at h; cases h
        rw [decide_eq_false this, Bool.and_false]
    · have c0 : u.2 ≠ 0 := fun z => by
        refine of_decide_eq_false c ?_
        rw [z]; rfl
      exact ⟨_, rfl, fun h => absurd rfl h, fun _ => ⟨rfl, more (by rw [decide_eq_false c0]; rfl)⟩⟩
  · rintro H5 ⟨rfl, no⟩
    rw [al.length, List.take_length] at no
    have e : hgB ns t = false := by
      unfold hgB
      rw [List.any_eq_false]
      intro q hq
      rw [no q hq]
      exact Bool.false_ne_true
    show Q (.bl false) _
    rw [← e]
    exact q _ e12 tg2
def sp_rule_order (K : PySem.W.Frag) (PT : Addr) : Sp := fun vs H Q _ => ∃ (a : Addr) (rv : List V) (rules : List (Str × Tr)) (ins : List Str) (rk : Str → Nat), vs = [.ref a] ∧ H a = some (.tup rv) ∧ All2 (RlAt H) rv rules ∧ rules.length ≤ 100 ∧ (∀ p ∈ rules, p.2.parts.length ≤ 100) ∧ (rules.map (·.1)).Nodup ∧ (∀ p ∈ rules, ∀ q ∈ p.2.leans, q.2 = 0 → rk q.1 < rk p.1) ∧ (∀ p ∈ rules, ∀ q ∈ p.2.leans, q.1 ∈ ins ∨ q.1 ∈ rules.map (·.1)) ∧ GxR.TabG H PT ∧
  ∀ (p : Addr) (l : List V) (os : List (Str × Tr)) (H' : Hp), H p = none → H' p = some (.lst l) → All2 (RlAt H') l os → os.Perm rules → OrdOk ins os → LamX.ExtN H H' → GxR.TabG H' PT → Q (.ref p) H'
theorem ok_rule_order {f : Addr} {fd : FuncData} (F : Fun K "rule_order" "rule_order" s_rule_order f fd) (T : Top w K mg) : FnOk P w K mg base CX0 5 f fd ["rules"] (sp_rule_order K PT) := by
  obtain ⟨f_hangs_on, fd_hangs_on, F_hangs_on, b_hangs_on, m_hangs_on⟩ := T.d_hangs_on
  have G_hangs_on := ok_hangs_on (P := P) (w := w) (base := base) F_hangs_on (TH.cd _ _ F_hangs_on m_hangs_on) T
  refine F.ok sc_rule_order (fun vs H Q E h => ?_) (fun cdv A outer s H vs Q E hr h => ?_)
  · obtain ⟨a, rv, rules, ins, rk, rfl, _⟩ := h
    rfl
  obtain ⟨a, rv, rules, ins, rk, rfl, ha, al, lr, pr, nd, hrk, ln, tg, q⟩ := h
  have lrv := al.length
  refine ⟨_, (pss_cons (ps_set (i := 1) sc_rule_order.nd rfl (Or.inl rfl) (pe_lst pa_nil))
      (pss_cons (ps_set (i := 2) sc_rule_order.nd rfl (Or.inl rfl) (pe_callTy (call_list_ofK K rfl) (by rfl) T.m_list (by decide +kernel) (pa_cons (pv 0) pa_nil)))
      (pss_cons (ps_while PassesOwn.never (pt_truthK K rfl (pv 2) (by intro _; rfl))
        (pss_cons (ps_set (i := 3) sc_rule_order.nd rfl (Or.inr rfl) (pe_lc (own := [("name", 4), ("tree", 5)]) (g := gTup K 2 (gCons (gName 4) (gCons (gName 5) gNil))) (tt := tYes) (by rfl) sc_rule_order.nd (pi_listK K rfl (pv 2)) (blkOk_by (own := [("name", 4), ("tree", 5)]) (N := N_rule_order) (sc := defScope s_rule_order) (by decide +kernel)) (fun _ _ _ _ _ => (pg_tupK K rfl rfl (pgs_cons (pg_name (i := 4) sc_rule_order.nd rfl (Or.inl rfl)) (pgs_cons (pg_name (i := 5) sc_rule_order.nd rfl (Or.inl rfl)) pgs_nil)))) (fun _ _ _ _ _ => pts_nil) (fun _ _ _ _ _ => (pv 4))))
      (pss_cons (ps_setLc (i := 6) (own := [("name", 4), ("tree", 5)]) (g := gTup K 2 (gCons (gName 4) (gCons (gName 5) gNil))) (by rfl) sc_rule_order.nd rfl rfl (sw_true rfl rfl rfl (by decide +kernel)) (pi_listK K rfl (pv 2)) (blkOk_by (own := [("name", 4), ("tree", 5)]) (N := N_rule_order) (sc := defScope s_rule_order) (by decide +kernel)) (fun _ _ _ _ _ => (pg_tupK K rfl rfl (pgs_cons (pg_name (i := 4) sc_rule_order.nd rfl (Or.inl rfl)) (pgs_cons (pg_name (i := 5) sc_rule_order.nd rfl (Or.inl rfl)) pgs_nil)))) (fun _ _ _ _ _ => pts_one (pt_not (pt_val (pe_call G_hangs_on (hr.mono (by decide)) (by rfl) m_hangs_on F_hangs_on.kp b_hangs_on .nil pass0 (pa_cons (pv 5) (pa_cons (pv 3) pa_nil)))))) (fun _ _ _ _ _ => (pe_tup (pa_cons (pv 4) (pa_cons (pv 5) pa_nil)))))
      (pss_cons (ps_expr (pe_bmK K rfl PySem.F.plainAttrs_list PySem.F.slot_list_extend PySem.F.type_list_extend mt_extend (pv 1) (pa_cons (pv 6) pa_nil)))
      (pss_cons (ps_set (i := 7) sc_rule_order.nd rfl (Or.inr rfl) (pe_lc (own := [("name", 4), ("tree", 5)]) (g := gTup K 2 (gCons (gName 4) (gCons (gName 5) gNil))) (tt := tYes) (by rfl) sc_rule_order.nd (pi_listK K rfl (pv 6)) (blkOk_by (own := [("name", 4), ("tree", 5)]) (N := N_rule_order) (sc := defScope s_rule_order) (by decide +kernel)) (fun _ _ _ _ _ => (pg_tupK K rfl rfl (pgs_cons (pg_name (i := 4) sc_rule_order.nd rfl (Or.inl rfl)) (pgs_cons (pg_name (i := 5) sc_rule_order.nd rfl (Or.inl rfl)) pgs_nil)))) (fun _ _ _ _ _ => pts_nil) (fun _ _ _ _ _ => (pv 4))))
      (pss_one (ps_setLc (i := 2) (own := [("name", 4), ("tree", 5)]) (g := gTup K 2 (gCons (gName 4) (gCons (gName 5) gNil))) (by rfl) sc_rule_order.nd rfl rfl (sw_true rfl rfl rfl (by decide +kernel)) (pi_listK K rfl (pv 2)) (blkOk_by (own := [("name", 4), ("tree", 5)]) (N := N_rule_order) (sc := defScope s_rule_order) (by decide +kernel)) (fun _ _ _ _ _ => (pg_tupK K rfl rfl (pgs_cons (pg_name (i := 4) sc_rule_order.nd rfl (Or.inl rfl)) (pgs_cons (pg_name (i := 5) sc_rule_order.nd rfl (Or.inl rfl)) pgs_nil)))) (fun _ _ _ _ _ => pts_one (pt_cmpR (op_notIn_seqK K rfl) (pv 4) (pv 7) (by with_unfolding_all rfl))) (fun _ _ _ _ _ => (pe_tup (pa_cons (pv 4) (pa_cons (pv 5) pa_nil)))))))))))
      (pss_one (ps_ret (pv 1)))))), ?_⟩
  refine ⟨(by show 0 ≤ sizeLine; decide), fun ol nol => ?_⟩
  have s1 : Same H (upd H ol (.lst [])) := same_new nol
  have hol : (upd H ol (.lst [])) ol = some (.lst []) := upd_same
  generalize upd H ol (.lst []) = H1 at s1 hol ⊢
  refine ⟨_, rfl, a, _, rfl, .inr (SqT.of (s1 _ _ ha)), fun ll nll => ?_⟩
  have s2 : Same H1 (upd H1 ll (.lst rv)) := same_new nll
  have hll : (upd H1 ll (.lst rv)) ll = some (.lst rv) := upd_same
  generalize upd H1 ll (.lst rv) = H2 at s2 hll ⊢
  have s12 := s1.trans s2
  let W : Nat → L2.St → Hp → Prop := fun m σ H5 => ∃ (ll : Addr) (ov lv : List V) (os left : List (Str × Tr)) (v3 v4 v5 v6 v7 : Option V), σ = [some (.ref a), some (.ref ol), some (.ref ll), v3, v4, v5, v6, v7] ∧ H5 ol = some (.lst ov) ∧ H5 ll = some (.lst lv) ∧ All2 (RlAt H5) ov os ∧ All2 (RlAt H5) lv left ∧ (os ++ left).Perm rules ∧ OrdOk ins os ∧ LamX.ExtN H H5 ∧ GxR.TabG H5 PT ∧ m = left.length ∧ ll ≠ ol
  refine ⟨W, ⟨_, ll, [], rv, [], rules, none, none, none, none, none, rfl, s2 _ _ hol, hll, .nil, al.imp fun _ _ z => z.keep (TK.same s12), List.Perm.refl _, (fun j p e => nomatch e), ext_same s12, tabG_same tg s12, rfl, fun z => by rw [z, hol] at nll; cases nll⟩, ?_⟩
  rintro m σ H5 ⟨ll, ov, lv, os, left, v3, v4, v5, v6, v7, rfl, hol, hll, aO, aL, pm, oo, x5, tg5, em, nlo⟩
  refine ⟨_, rfl, !lv.isEmpty, .inl ⟨_, SqL.of hll, rfl⟩, ?_⟩
  have llv := aL.length
  have lov := aO.length
  have lsum := pm.length_eq
  rw [List.length_append] at lsum
  cases left with
  | nil =>
    cases aL
    show (if (false : Bool) = true then _ else _)
    rw [if_neg Bool.false_ne_true]
    rw [List.append_nil] at pm
    exact ⟨_, rfl, q ol ov os H5 nol hol aO pm oo x5 tg5⟩
  | cons p0 left0 =>
  obtain ⟨left, eleft⟩ : ∃ l, l = p0 :: left0 := ⟨_, rfl⟩
  have lne : left ≠ [] := by rw [eleft]; exact fun z => nomatch z
  rw [← eleft] at aL pm lsum em llv
  have tr : (!lv.isEmpty) = true := by
    cases lv with
    | nil => rw [← llv] at em; cases aL; exact absurd rfl lne
    | cons y r => rfl
  clear eleft
  rw [tr]
  refine if_bl (fun _ => ?_) (fun z => nomatch z)
  refine ⟨fun σ' H' => ∃ m', m' < m ∧ W m' σ' H', fun _ _ z => z, ?_⟩
  have pin : ∀ p ∈ left, p ∈ rules := fun p hp => pm.mem_iff.mp (List.mem_append.mpr (.inr hp))
  have ndl : (os.map (·.1) ++ left.map (·.1)).Nodup := by
    rw [← List.map_append]
    exact (pm.map _).nodup_iff.mpr nd
  have ll100 : left.length ≤ 100 := by omega
  -- waiting
  refine ⟨_, rfl, ll, rfl, ⟨_, SqL.of hll⟩, fun D nD => ?_⟩
  refine lc_list (K := K) (a := ll) (xs := lv) (fun i H9 => H9 D = some (.lst (((left.take i).map (·.1)).map V.str)) ∧ Same H5 H9) ⟨upd_same, same_new nD⟩ (fun i H9 _ ⟨_, s9⟩ => SqL.of (s9 _ _ hll)) ?_ ?_
  · rintro j z H9 hz ⟨hD, s9⟩
    obtain ⟨u, hu, b, c, rfl, hb, _⟩ := aL.getL hz
    refine ⟨b, _, rfl, SqT.of (s9 _ _ hb), rfl, _, _, rfl, _, _, rfl, rfl, rfl, yes_in ⟨_, rfl, _, hD, ?_, ?_, Same.own s9 nD⟩⟩
    · rw [List.length_map, List.length_map, List.length_take]
      exact small1000 (by omega)
    · rw [upd_same, List.take_add_one, hu, List.map_append, List.map_append]
      rfl
  rintro H6 ⟨hD, s6⟩
  rw [llv, List.take_length] at hD
  have tg6 := tabG_same tg5 s6
  have hll6 := s6 _ _ hll
  have hol6 := s6 _ _ hol
  replace aO := aO.imp fun _ _ z => z.keep (TK.same s6)
  replace aL := aL.imp fun _ _ z => z.keep (TK.same s6)
  have x6 := x5.trans (ext_same s6)
  clear s6
  -- free
  refine ⟨_, rfl, ll, rfl, ⟨_, SqL.of hll6⟩, fun D2 nD2 => ?_⟩
  have D2t := tabG_ne tg6 nD2
  obtain ⟨fr, efr⟩ : ∃ f : Str × Tr → Bool, f = fun p => !hgB (left.map (·.1)) p.2 := ⟨_, rfl⟩
  refine lc_list (K := K) (a := ll) (xs := lv) (fun i H9 => ∃ fv, H9 D2 = some (.lst fv) ∧ All2 (RlAt H9) fv ((left.take i).filter fr) ∧ LamX.ExtN H6 H9 ∧ GxR.TabG H9 PT) ⟨[], upd_same, .nil, ext_same (same_new nD2), tabG_upd tg6 D2t⟩ (fun i H9 _ ⟨_, _, _, x9, _⟩ => SqL.of (x9 _ _ hll6 (fun ps z => nomatch z))) ?_ ?_
  · rintro j z H9 hz ⟨fv, hD2, aF, x9, tg9⟩
    obtain ⟨u, hu, hzu⟩ := aL.getL hz
    have um := List.mem_of_getElem? hu
    obtain ⟨b, c, rfl, hb, hc⟩ := hzu.keep (tk_ext x9)
    have lf := aF.length
    have lf2 : ((left.take j).filter fr).length ≤ 100 := Nat.le_trans (List.length_filter_le ..) (by rw [List.length_take]; omega)
    have tk : ((left.take (j + 1)).filter fr) = (left.take j).filter fr ++ (if fr u = true then [u] else []) := by
      rw [List.take_add_one, hu, List.filter_append]
      congr 1
      show [u].filter fr = _
      rw [List.filter_cons]
      rfl
    refine ⟨b, _, rfl, SqT.of hb, rfl, _, _, rfl, _, _, rfl, rfl, rfl, ?_⟩
    refine ⟨_, rfl, _, rfl, c, D, u.2, left.map (·.1), rfl, hc, Nat.le_trans (pr u (pin u um)) (by decide), x9 _ _ hD (fun ps z => nomatch z), tg9, fun H10 x10 tg10 => ?_⟩
    refine ⟨_, rfl, ?_⟩
    have fu : fr u = !hgB (left.map (·.1)) u.2 := by rw [efr]
    show (if (!hgB (left.map (·.1)) u.2) = true then _ else _)
    rw [← fu]
    have hD210 := x10 _ _ hD2 (fun ps z => nomatch z)
    replace aF := aF.imp fun _ _ z => z.keep (tk_ext x10)
    refine if_bl (fun c1 => ?_) (fun c1 => ?_)
    · refine ⟨_, rfl, _, rfl, (by show 2 ≤ sizeLine; decide), fun p np => ?_⟩
      have s11 : Same H10 (upd H10 p (.tup [.str u.1, c])) := same_new np
      have hp : (upd H10 p (.tup [.str u.1, c])) p = some (.tup [.str u.1, c]) := upd_same
      generalize upd H10 p (.tup [.str u.1, c]) = H11 at s11 hp ⊢
      have hD211 := s11 _ _ hD210
      have kk : TK H10 (upd H11 D2 (.lst (fv ++ [.ref p]))) := (TK.same s11).trans (TK.lst hD211)
      refine ⟨fv, hD211, small1000 (by omega), fv ++ [.ref p], upd_same, ?_, ext_own ((x9.trans x10).trans (ext_same s11)) nD2, tabG_upd (tabG_same tg10 s11) D2t⟩
      rw [tk, if_pos c1]
      refine (aF.imp fun _ _ z => z.keep kk).snoc ⟨p, c, rfl, TK.lst hD211 _ _ hp, ?_⟩
      exact (hc.keep (tk_ext x10)).keep kk
    · refine ⟨fv, hD210, ?_, x9.trans x10, tg10⟩
      rw [tk, c1, if_neg Bool.false_ne_true, List.append_nil]
      exact aF
  rintro H7 ⟨fv, hD2, aF, x7, tg7⟩
  rw [llv, List.take_length] at aF
  have nl : ∀ {xs : List V} (ps : Array Value), (HO.lst xs) ≠ .tbl ps := fun ps z => nomatch z
  have hll7 := x7 _ _ hll6 nl
  have hol7 := x7 _ _ hol6 nl
  replace aO := aO.imp fun _ _ z => z.keep (tk_ext x7)
  replace aL := aL.imp fun _ _ z => z.keep (tk_ext x7)
  have x67 := x6.trans x7
  have lF := aF.length
  have lF2 : (left.filter fr).length ≤ 100 := Nat.le_trans (List.length_filter_le ..) ll100
  have olD2 : ol ≠ D2 := fun z => by rw [← z, hol6] at nD2; cases nD2
  have olt := tabG_ne2 tg7 hol7 (fun ps z => nomatch z)
  -- order.extend(free)
  refine ⟨_, rfl, .inl ⟨rfl, _, SqL.of hol7⟩, _, rfl, ol, D2, _, _, rfl, rfl, hol7, hD2, little (by omega), ?_⟩
  have k8 : TK H7 (upd H7 ol (.lst (ov ++ fv))) := TK.lst hol7
  have x8 : LamX.ExtN H (upd H7 ol (.lst (ov ++ fv))) := ext_own x67 nol
  have tg8 := tabG_upd (o := .lst (ov ++ fv)) tg7 olt
  have hol8 : (upd H7 ol (.lst (ov ++ fv))) ol = some (.lst (ov ++ fv)) := upd_same
  have hD28 : (upd H7 ol (.lst (ov ++ fv))) D2 = some (.lst fv) := by rw [upd_ne olD2.symm]; exact hD2
  replace aO := ((aO.app aF).imp fun _ _ z => z.keep k8)
  replace aF := aF.imp fun _ _ z => z.keep k8
  replace aL := aL.imp fun _ _ z => z.keep k8
  have hll8 : (upd H7 ol (.lst (ov ++ fv))) ll = some (.lst lv) := by
    rw [upd_ne nlo]
    exact hll7
  generalize upd H7 ol (.lst (ov ++ fv)) = H8 at k8 x8 tg8 hol8 hD28 hll8 aO aF aL ⊢
  -- done
  refine ⟨_, rfl, D2, rfl, ⟨_, SqL.of hD28⟩, fun D3 nD3 => ?_⟩
  refine lc_list (K := K) (a := D2) (xs := fv) (fun i H9 => H9 D3 = some (.lst ((((left.filter fr).take i).map (·.1)).map V.str)) ∧ Same H8 H9) ⟨upd_same, same_new nD3⟩ (fun i H9 _ ⟨_, s9⟩ => SqL.of (s9 _ _ hD28)) ?_ ?_
  · rintro j z H9 hz ⟨hD, s9⟩
    obtain ⟨u, hu, b, c, rfl, hb, _⟩ := aF.getL hz
    refine ⟨b, _, rfl, SqT.of (s9 _ _ hb), rfl, _, _, rfl, _, _, rfl, rfl, rfl, yes_in ⟨_, rfl, _, hD, ?_, ?_, Same.own s9 nD3⟩⟩
    · rw [List.length_map, List.length_map, List.length_take]
      exact small1000 (by omega)
    · rw [upd_same, List.take_add_one, hu, List.map_append, List.map_append]
      rfl
  rintro H9 ⟨hD3, s9⟩
  rw [lF, List.take_length] at hD3
  have tg9 := tabG_same tg8 s9
  have hll9 := s9 _ _ hll8
  have hol9 := s9 _ _ hol8
  replace aO := aO.imp fun _ _ z => z.keep (TK.same s9)
  replace aL := aL.imp fun _ _ z => z.keep (TK.same s9)
  have x9 := x8.trans (ext_same s9)
  -- left
  refine ⟨_, rfl, ll, rfl, ⟨_, SqL.of hll9⟩, fun D4 nD4 => ?_⟩
  obtain ⟨gr, egr⟩ : ∃ f : Str × Tr → Bool, f = fun p => decide (p.1 ∉ (left.filter fr).map (·.1)) := ⟨_, rfl⟩
  refine lc_list (K := K) (a := ll) (xs := lv) (fun i H10 => ∃ fv, H10 D4 = some (.lst fv) ∧ All2 (RlAt H10) fv ((left.take i).filter gr) ∧ Same H9 H10) ⟨[], upd_same, .nil, same_new nD4⟩ (fun i H10 _ ⟨_, _, _, s10⟩ => SqL.of (s10 _ _ hll9)) ?_ ?_
  · rintro j z H10 hz ⟨fv2, hD4, aG, s10⟩
    obtain ⟨u, hu, hzu⟩ := aL.getL hz
    obtain ⟨b, c, rfl, hb, hc⟩ := hzu.keep (TK.same s10)
    have lf := aG.length
    have lf2 : ((left.take j).filter gr).length ≤ 100 := Nat.le_trans (List.length_filter_le ..) (by rw [List.length_take]; omega)
    have tk : ((left.take (j + 1)).filter gr) = (left.take j).filter gr ++ (if gr u = true then [u] else []) := by
      rw [List.take_add_one, hu, List.filter_append]
      congr 1
      show [u].filter gr = _
      rw [List.filter_cons]
      rfl
    refine ⟨b, _, rfl, SqT.of hb, rfl, _, _, rfl, _, _, rfl, rfl, rfl, ?_⟩
    refine ⟨_, rfl, _, rfl, D3, _, rfl, .inl (SqL.of (s10 _ _ hD3)), rfl, flat_strs _, _, rfl, ?_⟩
    have fu : (if true = true then !inV (.str u.1) (((left.filter fr).map (·.1)).map V.str) else inV (.str u.1) (((left.filter fr).map (·.1)).map V.str)) = gr u := by
      rw [if_pos rfl, egr]
      by_cases m : u.1 ∈ (left.filter fr).map (·.1)
      · rw [inV_strs.mpr m]
        have n : ¬ u.1 ∉ (left.filter fr).map (·.1) := fun y => y m
        exact (decide_eq_false n).symm
      · have : inV (.str u.1) (((left.filter fr).map (·.1)).map V.str) = false := Bool.eq_false_iff.mpr fun y => m (inV_strs.mp y)
        rw [this]
        exact (decide_eq_true m).symm
    show (if (if true = true then !inV (.str u.1) (((left.filter fr).map (·.1)).map V.str) else inV (.str u.1) (((left.filter fr).map (·.1)).map V.str)) = true then _ else _)
    rw [fu]
    refine if_bl (fun c1 => ?_) (fun c1 => ?_)
    · refine ⟨_, rfl, _, rfl, (by show 2 ≤ sizeLine; decide), fun p np => ?_⟩
      have s11 : Same H10 (upd H10 p (.tup [.str u.1, c])) := same_new np
      have hp : (upd H10 p (.tup [.str u.1, c])) p = some (.tup [.str u.1, c]) := upd_same
      generalize upd H10 p (.tup [.str u.1, c]) = H11 at s11 hp ⊢
      have hD411 := s11 _ _ hD4
      have kk : TK H10 (upd H11 D4 (.lst (fv2 ++ [.ref p]))) := (TK.same s11).trans (TK.lst hD411)
      refine ⟨fv2, hD411, small1000 (by omega), fv2 ++ [.ref p], upd_same, ?_, Same.own (s10.trans s11) nD4⟩
      rw [tk, if_pos c1]
      exact (aG.imp fun _ _ z => z.keep kk).snoc ⟨p, c, rfl, TK.lst hD411 _ _ hp, hc.keep kk⟩
    · refine ⟨fv2, hD4, ?_, s10⟩
      rw [tk, c1, if_neg Bool.false_ne_true, List.append_nil]
      exact aG
  rintro H10 ⟨fv2, hD4, aG, s10⟩
  rw [llv, List.take_length, egr, left_rest (List.nodup_append.mp ndl).2.1] at aG
  have perm : ((os ++ left.filter fr) ++ left.filter fun p => !fr p).Perm rules := by
    rw [List.append_assoc]
    exact (List.Perm.append_left os (List.filter_append_perm fr left)).trans pm
  have sz : (left.filter fun p => !fr p).length < left.length := by
    obtain ⟨p, hp, e⟩ := hg_free (fun p hp => hrk p (pin p hp)) lne
    have h1 := (List.filter_append_perm fr left).length_eq
    have h2 : 0 < (left.filter fr).length := List.length_pos_of_mem (List.mem_filter.mpr ⟨hp, by rw [efr]; show (!hgB _ p.2) = true; rw [e]; rfl⟩)
    rw [List.length_append] at h1
    omega
  refine ⟨_, by rw [em]; exact sz, D4, _, fv2, os ++ left.filter fr, left.filter fun p => !fr p, _, _, _, _, _, rfl, s10 _ _ hol9, hD4, aO.imp fun _ _ z => z.keep (TK.same s10), aG, perm, ord_app oo fun p hp q hq q0 => ?_, x9.trans (ext_same s10), tabG_same tg9 s10, rfl, fun z => by rw [z, hol9] at nD4; cases nD4⟩
  obtain ⟨hp, fp⟩ := List.mem_filter.mp hp
  rcases ln p (pin p hp) q hq with m | m
  · exact .inl m
  · refine .inr ?_
    have m2 : q.1 ∈ os.map (·.1) ++ left.map (·.1) := by
      rw [← List.map_append]
      exact ((pm.map (·.1)).mem_iff).mpr m
    rcases List.mem_append.mp m2 with m3 | m3
    · exact m3
    · exfalso
      rw [efr] at fp
      have f0 : hgB (left.map (·.1)) p.2 = false := by
        cases z : hgB (left.map (·.1)) p.2 with
        | false => rfl
        | true => have fp : (!hgB (left.map (·.1)) p.2) = true := fp; rw [z] at fp; cases fp
      unfold hgB at f0
      rw [List.any_eq_false] at f0
      exact f0 q hq (by rw [decide_eq_true q0, decide_eq_true m3]; rfl)
end
/-! ### said -/
theorem or_enum {K : PySem.W.Frag} {ta : TA} {σ : L2.St} {H : Hp} {R : It → Hp → Prop} {p : Addr} {xs : List V} (ht : ∀ Q : List V → Hp → Prop, Q [.ref p] H → ta σ H Q) (h : H p = some (.lst xs) ∨ H p = some (.tup xs))
    (k : ∀ J : It, (∀ i H', H' p = H p → i < xs.length → J.go i H') → (∀ H', H' p = H p → J.stop xs.length H') → (∀ i H' v H'', H' p = H p → J.yld i H' v H'' → ∃ T x, v = .ref T ∧ H' T = none ∧ H'' = upd H' T (.tup [.int ((i : Nat) : Int), x]) ∧ xs[i]? = some x) → R J H) :
    iEnum K ta σ H R ∨ iEnumT K ta σ H R := by
  rcases h with e | e
  · refine .inl (ht _ ⟨p, xs, rfl, SqL.of e, k _ (fun i H' st hi => ?_) (fun H' st => ?_) fun i H' v H'' st y => ?_⟩)
    · exact ⟨xs, _, SqL.of (st.trans e), List.getElem?_eq_getElem hi⟩
    · exact ⟨xs, SqL.of (st.trans e), Nat.le_refl _⟩
    · obtain ⟨T, x, q1, q2, q3, q4⟩ := y
      exact ⟨T, x, q1, q2, q3, q4 _ (SqL.of (st.trans e))⟩
  · refine .inr (ht _ ⟨p, xs, rfl, SqT.of e, k _ (fun i H' st hi => ?_) (fun H' st => ?_) fun i H' v H'' st y => ?_⟩)
    · exact ⟨SqT.of (st.trans e), hi⟩
    · exact ⟨SqT.of (st.trans e), rfl⟩
    · obtain ⟨T, x, q1, q2, q3, q4⟩ := y
      exact ⟨T, x, q1, q2, q3, q4⟩
/-- a row of numbers -/
def RwAt (H : Hp) (v : V) (m : List Int) : Prop := ∃ t : Addr, v = .ref t ∧ H t = some (.tup (m.map V.int))
theorem RwAt.keep {H H' : Hp} {v : V} {m : List Int} (a : RwAt H v m) (k : TK H H') : RwAt H' v m := by
  obtain ⟨t, e, h⟩ := a
  exact ⟨t, e, k _ _ h⟩
/-- rows in a list or a tuple -/
def RsAt (H : Hp) (a : Addr) (rows : List (List Int)) : Prop := ∃ rv, (H a = some (.lst rv) ∨ H a = some (.tup rv)) ∧ All2 (RwAt H) rv rows
theorem RsAt.ext {H H' : Hp} {a : Addr} {rows : List (List Int)} (h : RsAt H a rows) (x : LamX.ExtN H H') : RsAt H' a rows := by
  obtain ⟨rv, e, al⟩ := h
  exact ⟨rv, e.imp (fun e => x _ _ e fun ps z => nomatch z) (fun e => x _ _ e fun ps z => nomatch z), al.imp fun _ _ z => z.keep (tk_ext x)⟩
abbrev rwF (rows : List (List Int)) (b i : Nat) : Int := (rows.getD b []).getD i 0
/-- what is told of the outs -/
abbrev toldF (F : Fm) (h : Str → Nat → Int) (n : Nat) : List (List Int) := (List.range n).map fun b => F.outs.map fun x => h x b
theorem merge_new : ∀ (kvs acc : List (Key × V)), (kvs.map (·.1)).Nodup → (∀ kv ∈ kvs, valV acc kv.1 = none) → mergeK acc kvs = acc ++ kvs
  | [], acc, _, _ => by rw [List.append_nil]; rfl
  | kv :: r, acc, nd, no => by
    show mergeK (putK acc kv.1 kv.2) r = _
    have n0 := no kv (List.mem_cons_self ..)
    rw [putK_new _ n0, merge_new r _ (List.nodup_cons.mp nd).2 fun kv2 h2 => ?_, List.append_assoc]
    · rfl
    · have n2 := no kv2 (List.mem_cons_of_mem _ h2)
      have ne : kv.1 ≠ kv2.1 := fun e => (List.nodup_cons.mp nd).1 (by show kv.1 ∈ _; rw [e]; exact List.mem_map.mpr ⟨kv2, h2, rfl⟩)
      unfold valV at n2 ⊢
      rw [List.find?_append]
      cases c : acc.find? (fun kv => decide (kv.1 = kv2.1)) with
      | some u => rw [c] at n2; cases n2
      | none =>
        show Option.map _ ((none : Option (Key × V)).or _) = none
        rw [Option.none_or, List.find?_cons, decide_eq_false ne]
        rfl
theorem was_pairs {K : PySem.W.Frag} {H : Hp} {wv : List V} {was : List (Str × List Int)} (al : All2 (WaAt H) wv was) : ∃ (ps : List Addr) (kvs : List (Key × V)), wv = ps.map V.ref ∧ Paired (fun p kv => SqT K H p [kV kv.1, kv.2]) ps kvs ∧ kvs.map (·.1) = was.map (fun p => Sum.inr p.1) ∧
    ∀ n : Str, (valV kvs (Sum.inr n) = none ∧ (was.find? fun p => decide (p.1 = n)) = none) ∨ ∃ p b, valV kvs (Sum.inr n) = some (.ref b) ∧ (was.find? fun p => decide (p.1 = n)) = some p ∧ H b = some (.tup (p.2.map V.int)) := by
  induction al with
  | nil => exact ⟨[], [], rfl, .nil, rfl, fun n => .inl ⟨rfl, rfl⟩⟩
  | cons h t ih =>
    rename_i v p vs l
    obtain ⟨ps, kvs, e1, e2, e3, e4⟩ := ih
    obtain ⟨a, b, rfl, ea, eb⟩ := h
    refine ⟨a :: ps, (Sum.inr p.1, .ref b) :: kvs, by rw [e1]; rfl, .cons (SqT.of ea) e2, by rw [List.map_cons, e3]; rfl, fun n => ?_⟩
    unfold valV at e4 ⊢
    rw [List.find?_cons, List.find?_cons]
    by_cases c : p.1 = n
    · rw [decide_eq_true c, decide_eq_true (show (Sum.inr p.1 : Key) = Sum.inr n by rw [c])]
      exact .inr ⟨p, b, rfl, rfl, eb⟩
    · rw [decide_eq_false c, decide_eq_false (fun z => c (Sum.inr.inj z) : ¬ (Sum.inr p.1 : Key) = Sum.inr n)]
      exact e4 n
theorem was_dict {K : PySem.W.Frag} {H : Hp} {wv : List V} {F : Fm} (al : All2 (WaAt H) wv F.was) (nd : F.kept.Nodup) : ∃ (ps : List Addr) (kvs : List (Key × V)), wv = ps.map V.ref ∧ Paired (fun p kv => SqT K H p [kV kv.1, kv.2]) ps kvs ∧ BfAt H (mergeK [] kvs) F := by
  obtain ⟨ps, kvs, e1, e2, e3, e4⟩ := was_pairs (K := K) al
  refine ⟨ps, kvs, e1, e2, ?_⟩
  have ndk : (kvs.map (·.1)).Nodup := by
    rw [e3]
    have : F.was.map (fun p => (Sum.inr p.1 : Key)) = F.kept.map Sum.inr := by unfold Fm.kept; rw [List.map_map]; rfl
    rw [this]
    refine List.Pairwise.map _ (fun a b h z => h (Sum.inr.inj z)) nd
  rw [merge_new kvs [] ndk fun _ _ => rfl, List.nil_append]
  intro n
  unfold bfr
  rcases e4 n with ⟨z1, z2⟩ | ⟨p, b, z1, z2, z3⟩
  · exact .inl ⟨z1, by rw [z2]⟩
  · exact .inr ⟨b, z1, by rw [z2]; exact z3⟩
/-- what is so of formulas that are said -/
structure SdOk (F : Fm) : Prop where
  li : F.ins.length ≤ 50
  lr : F.rules.length ≤ 50
  lo : F.outs.length ≤ 50
  nd : F.own.Nodup
  kn : F.kept.Nodup
  oo : ∀ z ∈ F.outs, z ∈ F.own
  tr : ∀ p ∈ F.rules, p.2.parts.length ≤ 100 ∧ p.2.small ∧ ∀ q ∈ p.2.leans, q.1 ∈ F.own
  rk : ∃ rk : Str → Nat, ∀ p ∈ F.rules, ∀ q ∈ p.2.leans, q.2 = 0 → rk q.1 < rk p.1
/-- a rule's name and the parts of its tree, the list of the parts not at D -/
def PlAt (D : Addr) (H : Hp) (v : V) (p : Str × Tr) : Prop := ∃ (a l : Addr) (tv : List V), v = .ref a ∧ H a = some (.tup [.str p.1, .ref l]) ∧ H l = some (.lst tv) ∧ l ≠ D ∧ All2 (TrAt H) tv p.2.parts
theorem PlAt.same {D : Addr} {H H' : Hp} {v : V} {p : Str × Tr} (h : PlAt D H v p) (s : Same H H') : PlAt D H' v p := by
  obtain ⟨a, l, tv, e1, e2, e3, e4, e5⟩ := h
  exact ⟨a, l, tv, e1, s _ _ e2, s _ _ e3, e4, e5.imp fun _ _ z => z.keep (TK.same s)⟩
/-- the dict of the things that names have been -/
def SnAt (H0 H : Hp) (D : Addr) (own : List Str) (adr : Str → Addr) (hist : Str → List Int) : Prop := H D = some (.dK (stV (fun z => .ref (adr z)) own)) ∧ (∀ z ∈ own, H (adr z) = some (.lst ((hist z).map V.int)) ∧ H0 (adr z) = none) ∧ ∀ y ∈ own, ∀ z ∈ own, adr y = adr z → y = z
theorem SnAt.same {H0 H H' : Hp} {D : Addr} {own : List Str} {adr : Str → Addr} {hist : Str → List Int} (h : SnAt H0 H D own adr hist) (s : Same H H') : SnAt H0 H' D own adr hist := ⟨s _ _ h.1, fun z hz => ⟨s _ _ (h.2.1 z hz).1, (h.2.1 z hz).2⟩, h.2.2⟩
/-- one turn of a dict comprehension over x: its key and its thing put into the dict at D, and then N -/
abbrev DcGo (D : Addr) (g : TG) (tt : TT) (tk tv : TE) (vs : List Nat) (σ : L2.St) (x : V) (H : Hp) (N : Hp → Prop) : Prop := g x (wipe σ vs) H fun σa Ha => wipe σa vs = wipe σ vs ∧
  tt σa Ha fun t Hb => if t = true then tk σa Hb fun u Hc => tv σa Hc fun v Hd => ∃ es k, u = kV k ∧ Hd D = some (.dK es) ∧ es.length < sizeLine ∧ N (upd Hd D (.dK (putK es k v))) else N Hb
theorem dc_list {K : PySem.W.Frag} {a D : Addr} {xs : List V} {g : TG} {tt : TT} {tk tv : TE} {vs : List Nat} {σ : L2.St} {H1 : Hp} {Z : Hp → Prop} (J : Nat → Hp → Prop) (begin_ : J 0 (upd H1 D (.dK []))) (stay : ∀ n G, n ≤ xs.length → J n G → SqL K G a xs)
    (turn : ∀ n x G, xs[n]? = some x → J n G → DcGo D g tt tk tv vs σ x G (J (n + 1))) (fin : ∀ G, J xs.length G → Z G) : ∃ W : Nat → Nat → Hp → Prop, (∃ l, W 0 l (upd H1 D (.dK []))) ∧
    ∀ n l G, W n l G → ((Itl K a).stop n G ∧ Z G) ∨ ((Itl K a).go n G ∧ ∃ N : Hp → Prop, (∀ G', N G' → ∃ l', l' < l ∧ W (n + 1) l' G') ∧ ∀ x G', (Itl K a).yld n G x G' → DcGo D g tt tk tv vs σ x G' N) := by
  refine ⟨fun n l G => n + l = xs.length ∧ J n G, ⟨xs.length, Nat.zero_add _, begin_⟩, fun n l G ⟨total, here⟩ => ?_⟩
  have seen := stay n G (by omega) here
  cases l with
  | zero =>
    obtain rfl : n = xs.length := by omega
    exact .inl ⟨⟨xs, seen, Nat.le_refl _⟩, fin G here⟩
  | succ l =>
    have lt : n < xs.length := by omega
    refine .inr ⟨⟨xs, xs[n], seen, List.getElem?_eq_getElem lt⟩, J (n + 1), fun G' j => ⟨l, Nat.lt_succ_self l, by omega, j⟩, fun x G' y => ?_⟩
    obtain ⟨rfl, y⟩ := y
    exact turn n x _ (y xs seen) here
theorem SnAt.push {H0 H : Hp} {D : Addr} {own : List Str} {adr : Str → Addr} {hist : Str → List Int} (h : SnAt H0 H D own adr hist) {z : Str} (hz : z ∈ own) (v : Int) : SnAt H0 (upd H (adr z) (.lst ((hist z).map V.int ++ [.int v]))) D own adr (fun y => if y = z then hist z ++ [v] else hist y) := by
  obtain ⟨g1, g2, g3⟩ := h
  have aD : D ≠ adr z := fun y => by have := (g2 z hz).1; rw [← y, g1] at this; cases this
  refine ⟨by rw [upd_ne aD]; exact g1, fun y hy => ⟨?_, (g2 y hy).2⟩, g3⟩
  by_cases c : y = z
  · subst c
    dsimp only
    rw [upd_same, if_pos rfl, List.map_append]; rfl
  · dsimp only
    rw [upd_ne (fun e => c (g3 y hy z hz e)), if_neg c]
    exact (g2 y hy).1
theorem SnAt.congr {H0 H : Hp} {D : Addr} {own : List Str} {adr : Str → Addr} {hist hist' : Str → List Int} (h : SnAt H0 H D own adr hist) (e : ∀ z ∈ own, hist z = hist' z) : SnAt H0 H D own adr hist' := ⟨h.1, fun z hz => by rw [← e z hz]; exact h.2.1 z hz, h.2.2⟩
theorem SnAt.get {H0 H : Hp} {D : Addr} {own : List Str} {adr : Str → Addr} {hist : Str → List Int} (h : SnAt H0 H D own adr hist) {z : Str} (hz : z ∈ own) : DGet H D (.str z) (some (.ref (adr z))) := by
  have := DGet.k (k := Sum.inr z) h.1
  rwa [stV_val, if_pos hz] at this
/-- nothing stands at p but perhaps a table -/
def NoT (H : Hp) (p : Addr) : Prop := ∀ o, H p = some o → ∃ ps, o = .tbl ps
theorem NoT.of {H H1 : Hp} {p : Addr} (e : LamX.ExtN H H1) (h : H1 p = none) : NoT H p := fun o c => Classical.byContradiction fun n => by
  have := e p o c fun ps z => n ⟨ps, z⟩
  rw [h] at this
  cases this
theorem NoT.own {H H1 : Hp} {p : Addr} {o : HO} (n : NoT H p) (e : LamX.ExtN H H1) : LamX.ExtN H (upd H1 p o) := fun b u q t => by
  by_cases c : b = p
  · subst c
    obtain ⟨ps, z⟩ := n u q
    exact absurd z (t ps)
  · rw [upd_ne c]
    exact e b u q t
section
variable {P : Program} {w : World} {K : PySem.W.Frag} {mg : Str → Option Value} {base : Heap} {cH PT : Addr} [TH : TabH K mg base cH PT]
include TH
def sp_said (K : PySem.W.Frag) (PT : Addr) : Sp := fun vs H Q _ => ∃ (r ra : Addr) (F : Fm) (rows : List (List Int)) (h : Str → Nat → Int), vs = [.ref r, .ref ra] ∧ FmAtF H r F ∧ SdOk F ∧ RsAt H ra rows ∧ (∀ x ∈ rows, x.length = F.ins.length) ∧ rows.length ≤ 100 ∧ Says F rows.length (rwF rows) h ∧ GxR.TabG H PT ∧
  ∀ (p : Addr) (l : List V) (H' : Hp), NoT H p → H' p = some (.lst l) → All2 (RwAt H') l (toldF F h rows.length) → LamX.ExtN H H' → GxR.TabG H' PT → Q (.ref p) H'
theorem ok_said {f : Addr} {fd : FuncData} (F : Fun K "said" "said" s_said f fd) (T : Top w K mg) : FnOk P w K mg base CX0 6 f fd ["formulas", "rows"] (sp_said K PT) := by
  obtain ⟨f_tree_parts, fd_tree_parts, F_tree_parts, b_tree_parts, m_tree_parts⟩ := T.d_tree_parts
  have G_tree_parts := ok_tree_parts (P := P) (w := w) (base := base) F_tree_parts T
  obtain ⟨f_rule_order, fd_rule_order, F_rule_order, b_rule_order, m_rule_order⟩ := T.d_rule_order
  have G_rule_order := ok_rule_order (P := P) (w := w) (base := base) F_rule_order T
  obtain ⟨f_tree_thing, fd_tree_thing, F_tree_thing, b_tree_thing, m_tree_thing⟩ := T.d_tree_thing
  have G_tree_thing := ok_tree_thing (P := P) (w := w) (base := base) F_tree_thing T
  refine F.ok sc_said (fun vs H Q E h => ?_) (fun cdv A outer s H vs Q E hr h => ?_)
  · obtain ⟨r, ra, F, rows, h, rfl, _⟩ := h
    rfl
  obtain ⟨r, ra, F, rows, hh, rfl, hF, ok, hrs, rlen, lrows, sy, tg, q⟩ := h
  obtain ⟨a1, a2, a3, a4, ob, wv, rv, nod, e0, e1, e2, e3, e4, e5, e6⟩ := hF
  obtain ⟨rk, hrk⟩ := ok.rk
  let sg : Addr → Addr → Option V → Option V → Option V → Option V → Option V → Option V → Option V → Option V → L2.St := fun bd pl v8 v9 v10 v11 v12 v13 v14 v15 => [some (.ref r), some (.ref ra), some (.ref a1), some (.ref a2), some (.ref a3), some (.ref a4), some (.ref bd), some (.ref pl), v8, v9, v10, v11, v12, v13, v14, v15]
  let R1 : TS := fun D' σ' H' => D'.rt = Q ∧ ∃ (bd pl : Addr) (pv : List V) (os : List (Str × Tr)) (wk : List (Key × V)), σ' = sg bd pl none none none none none none none none ∧ H' bd = some (.dK wk) ∧ BfAt H' wk F ∧ H' pl = some (.lst pv) ∧ All2 (PlAt pl H') pv os ∧ os.Perm F.rules ∧ OrdOk F.ins os ∧ LamX.ExtN H H' ∧ GxR.TabG H' PT
  let R2 : TS := fun D' σ' H' => D'.rt = Q ∧ ∃ (H2 : Hp) (bd pl sd tl : Addr) (pv : List V) (os : List (Str × Tr)) (wk : List (Key × V)) (adr : Str → Addr), σ' = sg bd pl none none (some (.ref sd)) (some (.ref tl)) none none none none ∧ H2 bd = some (.dK wk) ∧ BfAt H2 wk F ∧ H2 pl = some (.lst pv) ∧ All2 (PlAt pl H2) pv os ∧ os.Perm F.rules ∧ OrdOk F.ins os ∧ LamX.ExtN H H2 ∧ GxR.TabG H2 PT ∧ Same H2 H' ∧ SnAt H2 H' sd F.own adr (fun _ => []) ∧ H2 sd = none ∧ H2 tl = none ∧ H' tl = some (.lst []) ∧ ∀ z ∈ F.own, adr z ≠ tl
  refine ⟨_, (pss_cons (ps_asg (pv 0) (pg_tupK K rfl rfl (pgs_cons (pg_name (i := 2) sc_said.nd rfl (Or.inl rfl)) (pgs_cons (pg_name (i := 3) sc_said.nd rfl (Or.inl rfl)) (pgs_cons (pg_name (i := 4) sc_said.nd rfl (Or.inl rfl)) (pgs_cons (pg_name (i := 5) sc_said.nd rfl (Or.inl rfl)) pgs_nil))))))
      (pss_cons (ps_set (i := 6) sc_said.nd rfl (Or.inl rfl) (pe_callTy (call_dictPT K rfl rfl) (by rfl) T.m_dict (by decide +kernel) (pa_cons (pv 3) pa_nil)))
      (pss_cons (ps_setLc (i := 7) (own := [("name", 8), ("tree", 9)]) (g := gTup K 2 (gCons (gName 8) (gCons (gName 9) gNil))) (tt := tYes) (by rfl) sc_said.nd rfl rfl (sw_true rfl rfl rfl (by decide +kernel)) (pi_listK K rfl (pe_call G_rule_order (hr.mono (by decide)) (by rfl) m_rule_order F_rule_order.kp b_rule_order .nil pass0 (pa_cons (pv 4) pa_nil))) (blkOk_by (own := [("name", 8), ("tree", 9)]) (N := N_said) (sc := defScope s_said) (by decide +kernel)) (fun _ _ _ _ _ => (pg_tupK K rfl rfl (pgs_cons (pg_name (i := 8) sc_said.nd rfl (Or.inl rfl)) (pgs_cons (pg_name (i := 9) sc_said.nd rfl (Or.inl rfl)) pgs_nil)))) (fun _ _ _ _ _ => pts_nil) (fun _ _ _ _ _ => (pe_tup (pa_cons (pv 8) (pa_cons (pe_call G_tree_parts (hr.mono (by decide)) (by rfl) m_tree_parts F_tree_parts.kp b_tree_parts .nil pass0 (pa_cons (pv 9) pa_nil)) pa_nil)))))
      (PSs.to (pss_cons (ps_set (i := 10) sc_said.nd rfl (Or.inr rfl) (pe_dc (own := [("name", 8)]) (g := gName 8) (tt := tYes) (by rfl) sc_said.nd (pi_listK K rfl (pe_op op_cat (pe_callTy (call_list_ofK K rfl) (by rfl) T.m_list (by decide +kernel) (pa_cons (pv 2) pa_nil)) (pe_lc (own := [("name", 8), ("tree", 9)]) (g := gTup K 2 (gCons (gName 8) (gCons (gName 9) gNil))) (tt := tYes) (by rfl) sc_said.nd (pi_tupK K rfl (pv 4)) (blkOk_by (own := [("name", 8), ("tree", 9)]) (N := N_said) (sc := defScope s_said) (by decide +kernel)) (fun _ _ _ _ _ => (pg_tupK K rfl rfl (pgs_cons (pg_name (i := 8) sc_said.nd rfl (Or.inl rfl)) (pgs_cons (pg_name (i := 9) sc_said.nd rfl (Or.inl rfl)) pgs_nil)))) (fun _ _ _ _ _ => pts_nil) (fun _ _ _ _ _ => (pv 8))))) (blkOk_by (own := [("name", 8)]) (N := N_said) (sc := defScope s_said) (by decide +kernel)) (fun _ _ _ _ _ => (pg_name (i := 8) sc_said.nd rfl (Or.inl rfl))) (fun _ _ _ _ _ => pts_nil) (fun _ _ _ _ _ => (pv 8)) (fun _ _ _ _ _ => (pe_lst pa_nil))))
      (pss_cons (ps_set (i := 11) sc_said.nd rfl (Or.inl rfl) (pe_lst pa_nil))
      (PSs.to (pss_cons (ps_for PassesOwn.never rfl (pi_or (pi_enum (by rfl) T.m_enumerate (pa_cons (pv 1) pa_nil)) (pi_enumT K rfl (by rfl) T.m_enumerate (pa_cons (pv 1) pa_nil))) (pg_tupK K rfl rfl (pgs_cons (pg_name (i := 12) sc_said.nd rfl (Or.inr rfl)) (pgs_cons (pg_name (i := 13) sc_said.nd rfl (Or.inl rfl)) pgs_nil)))
        (pss_cons (ps_for PassesOwn.never rfl (pi_zipAK K rfl (by rfl) T.m_zip (pa_cons (pv 2) (pa_cons (pv 13) pa_nil))) (pg_tupK K rfl rfl (pgs_cons (pg_name (i := 8) sc_said.nd rfl (Or.inl rfl)) (pgs_cons (pg_name (i := 14) sc_said.nd rfl (Or.inl rfl)) pgs_nil)))
        (pss_one (ps_expr (pe_bmK K rfl PySem.F.plainAttrs_list PySem.F.slot_list_append PySem.F.type_list_append mt_append (pe_dget (hu_of hr) (pv 10) (pv 8) (fun _ _ => rfl)) (pa_cons (pv 14) pa_nil)))))
      (pss_cons (ps_for PassesOwn.never rfl (pi_listK K rfl (pv 7)) (pg_tupK K rfl rfl (pgs_cons (pg_name (i := 8) sc_said.nd rfl (Or.inl rfl)) (pgs_cons (pg_name (i := 15) sc_said.nd rfl (Or.inl rfl)) pgs_nil)))
        (pss_one (ps_expr (pe_bmK K rfl PySem.F.plainAttrs_list PySem.F.slot_list_append PySem.F.type_list_append mt_append (pe_dget (hu_of hr) (pv 10) (pv 8) (fun _ _ => rfl)) (pa_cons (pe_call G_tree_thing (hr.mono (by decide)) (by rfl) m_tree_thing F_tree_thing.kp b_tree_thing .nil pass0 (pa_cons (pv 15) (pa_cons (pv 10) (pa_cons (pv 6) (pa_cons (pv 12) pa_nil))))) pa_nil)))))
      (pss_one (ps_expr (pe_bmK K rfl PySem.F.plainAttrs_list PySem.F.slot_list_append PySem.F.type_list_append mt_append (pv 11) (pa_cons (pe_callTy (call_tuple_ofK K rfl) (by rfl) T.m_tuple (by decide +kernel) (pa_cons (pe_lc (own := [("name", 8)]) (g := gName 8) (tt := tYes) (by rfl) sc_said.nd (pi_tupK K rfl (pv 5)) (blkOk_by (own := [("name", 8)]) (N := N_said) (sc := defScope s_said) (by decide +kernel)) (fun _ _ _ _ _ => (pg_name (i := 8) sc_said.nd rfl (Or.inl rfl))) (fun _ _ _ _ _ => pts_nil) (fun _ _ _ _ _ => (pe_ix (ix_listK K rfl) (pe_dget (hu_of hr) (pv 10) (pv 8) (fun _ _ => rfl)) (pv 12) (fun _ _ => rfl)))) pa_nil)) pa_nil)))))))
      (pss_one (ps_ret (pv 11)))) R2 ?tail2))) R1 ?tail1)))), ?_⟩
  case tail1 =>
    rintro D' σ' H1 ⟨eD, bd, pl, pv, os, wk, rfl, hbd, hbf, hpl, alp, pm, oo, x1, tg1⟩
    have k1 := tk_ext x1
    replace e1 := k1 _ _ e1
    replace e4 := k1 _ _ e4
    replace e5 := e5.imp fun _ _ z => z.keep k1
    have li := ok.li
    have lr := ok.lr
    refine ⟨_, rfl, a1, _, rfl, .inr (SqT.of e1), fun L1 n1 => ?_⟩
    have s1 : Same H1 (upd H1 L1 (.lst (F.ins.map V.str))) := same_new n1
    have hL1 : (upd H1 L1 (.lst (F.ins.map V.str))) L1 = some (.lst (F.ins.map V.str)) := upd_same
    generalize upd H1 L1 (.lst (F.ins.map V.str)) = H2 at s1 hL1 ⊢
    refine ⟨_, rfl, a3, rfl, ⟨_, SqT.of (s1 _ _ e4)⟩, fun D nD => ?_⟩
    refine lc_tup (K := K) (a := a3) (xs := rv) (fun i H9 => H9 D = some (.lst (((F.rules.take i).map (·.1)).map V.str)) ∧ Same H2 H9) ⟨upd_same, same_new nD⟩ (fun i H9 _ ⟨_, s9⟩ => SqT.of (s9 _ _ (s1 _ _ e4))) ?_ ?_
    · rintro j z H9 hz ⟨hD, s9⟩
      obtain ⟨u, hu, b, c, rfl, hb, _⟩ := e5.getL hz
      refine ⟨b, _, rfl, SqT.of (s9 _ _ (s1 _ _ hb)), rfl, _, _, rfl, _, _, rfl, rfl, rfl, yes_in ⟨_, rfl, _, hD, ?_, ?_, Same.own s9 nD⟩⟩
      · rw [List.length_map, List.length_map, List.length_take]
        exact small1000 (by omega)
      · rw [upd_same, List.take_add_one, hu, List.map_append, List.map_append]
        rfl
    rintro H3 ⟨hD, s2⟩
    rw [e5.length, List.take_length] at hD
    have lo : F.own.length ≤ 100 := by
      unfold Fm.own
      rw [List.length_append, List.length_map]
      omega
    refine ⟨L1, D, _, _, rfl, rfl, s2 _ _ hL1, hD, ?_, fun p np => ?_⟩
    · rw [← List.length_append, ← List.map_append, List.length_map]
      exact little (Nat.le_trans lo (by decide))
    have s3 : Same H3 (upd H3 p (.lst (F.ins.map V.str ++ (F.rules.map (·.1)).map V.str))) := same_new np
    have hp : (upd H3 p (.lst (F.ins.map V.str ++ (F.rules.map (·.1)).map V.str))) p = some (.lst (F.own.map V.str)) := by
      rw [upd_same, ← List.map_append]; rfl
    generalize upd H3 p (.lst (F.ins.map V.str ++ (F.rules.map (·.1)).map V.str)) = H4 at s3 hp ⊢
    have s14 := s1.trans (s2.trans s3)
    refine ⟨p, rfl, ⟨_, SqL.of hp⟩, fun D2 nD2 => ?_⟩
    refine dc_list (K := K) (a := p) (xs := F.own.map V.str) (fun i H5 => ∃ adr : Str → Addr, SnAt H4 H5 D2 (F.own.take i) adr (fun _ => []) ∧ Same H4 H5) ⟨fun _ => 0, ⟨by rw [List.take_zero]; exact upd_same, (fun z hz => by rw [List.take_zero] at hz; cases hz), (fun z hz => by rw [List.take_zero] at hz; cases hz)⟩, same_new nD2⟩ (fun i H5 _ ⟨_, _, s5⟩ => SqL.of (s5 _ _ hp)) ?_ ?_
    · rintro i v H5 hx ⟨adr, ⟨hD2, had, inj⟩, s5⟩
      rw [List.getElem?_map] at hx
      cases hn : F.own[i]? with
      | none => rw [hn] at hx; cases hx
      | some n =>
      rw [hn] at hx
      obtain rfl : V.str n = v := Option.some.inj hx
      have il := (List.getElem?_eq_some_iff.mp hn).1
      have tk : F.own.take (i + 1) = F.own.take i ++ [n] := by rw [List.take_add_one, hn]; rfl
      have nin : n ∉ F.own.take i := fun z => by
        obtain ⟨j, hj, ej⟩ := List.mem_take_iff_getElem.mp z
        have := nodup_get ok.nd hn (List.getElem?_eq_some_iff.mpr ⟨by omega, ej⟩)
        omega
      refine ⟨rfl, yes_in ⟨_, rfl, (by show 0 ≤ sizeLine; decide), fun pp np => ?_⟩⟩
      have u := same_new (o := .lst []) np
      have pD : pp ≠ D2 := fun z => by rw [z, hD2] at np; cases np
      refine ⟨stV (fun z => .ref (adr z)) (F.own.take i), Sum.inr n, rfl, u _ _ hD2, ?_, ?_⟩
      · unfold stV
        rw [List.length_map, List.length_take]
        exact small1000 (by omega)
      rw [stV_put _ nin]
      have ee : (stV (fun y => if y = n then V.ref pp else .ref (adr y)) (F.own.take i ++ [n])) = stV (fun y => .ref (if y = n then pp else adr y)) (F.own.take i ++ [n]) := List.map_congr_left fun y _ => by
        show ((Sum.inr y : Key), (if y = n then V.ref pp else V.ref (adr y))) = (Sum.inr y, V.ref (if y = n then pp else adr y))
        split <;> rfl
      rw [ee]
      refine ⟨fun y => if y = n then pp else adr y, ⟨by rw [tk]; exact upd_same, fun z hz => ?_, fun y hy z hz e => ?_⟩, Same.own (s5.trans u) nD2⟩
      · rw [tk] at hz
        dsimp only
        by_cases c : z = n
        · rw [if_pos c]
          exact ⟨by rw [upd_ne pD, upd_same]; rfl, same_none s5 np⟩
        · rw [if_neg c]
          obtain ⟨g1, g2⟩ := had z ((List.mem_append.mp hz).resolve_right fun m => c (List.mem_singleton.mp m))
          have aD : adr z ≠ D2 := fun y => by rw [y, hD2] at g1; cases g1
          exact ⟨by rw [upd_ne aD]; exact u _ _ g1, g2⟩
      · rw [tk] at hy hz
        have old : ∀ {y : Str}, y ∈ F.own.take i ++ [n] → y ≠ n → y ∈ F.own.take i := fun {y} m c => (List.mem_append.mp m).resolve_right fun m => c (List.mem_singleton.mp m)
        dsimp only at e
        by_cases c1 : y = n
        · by_cases c2 : z = n
          · rw [c1, c2]
          · rw [if_pos c1, if_neg c2] at e
            rw [e, (had z (old hz c2)).1] at np
            cases np
        · by_cases c2 : z = n
          · rw [if_neg c1, if_pos c2] at e
            rw [← e, (had y (old hy c1)).1] at np
            cases np
          · rw [if_neg c1, if_neg c2] at e
            exact inj y (old hy c1) z (old hz c2) e
    rintro H5 ⟨adr, sn, s5⟩
    rw [List.length_map, List.take_length] at sn
    refine ⟨(by show 0 ≤ sizeLine; decide), fun tl ntl => ?_⟩
    have s6 : Same H5 (upd H5 tl (.lst [])) := same_new ntl
    refine ⟨eD, H4, bd, pl, D2, tl, pv, os, wk, adr, rfl, s14 _ _ hbd, hbf.keep (TK.same s14), s14 _ _ hpl, alp.imp fun _ _ z => z.same s14, pm, oo, x1.trans (ext_same s14), tabG_same tg1 s14, s5.trans s6, sn.same s6, nD2, same_none s5 ntl, upd_same, fun z hz e => ?_⟩
    have := (sn.2.1 z hz).1
    rw [e, ntl] at this
    cases this
  case tail2 =>
    rintro D' σ' H1 ⟨eD, H2, bd, pl, sd, tl, pv, os, wk, adr, rfl, hbd, hbf, hpl, alp, pm, oo, x2, tg2, s2, sn, nsd, ntl, htl, atl⟩
    have k2 := tk_ext x2
    replace e1 := k2 _ _ e1
    replace e6 := k2 _ _ e6
    have li := ok.li
    have lr := ok.lr
    have lo := ok.lo
    obtain ⟨rv2, hra, alr⟩ := hrs.ext x2
    have lrv2 := alr.length
    have los := pm.length_eq
    have lpv := alp.length
    have ndi := (List.nodup_append.mp ok.nd).1
    have ndr := (List.nodup_append.mp ok.nd).2.1
    have insO : ∀ z ∈ F.ins, z ∈ F.own := fun z hz => List.mem_append.mpr (.inl hz)
    have osO : ∀ p ∈ os, p.1 ∈ F.own := fun p hp => List.mem_append.mpr (.inr (List.mem_map.mpr ⟨p, pm.mem_iff.mp hp, rfl⟩))
    have ndo : (os.map (·.1)).Nodup := (pm.map _).nodup_iff.mpr ndr
    have dis : ∀ p ∈ os, p.1 ∉ F.ins := fun p hp m => (List.nodup_append.mp ok.nd).2.2 _ m _ (List.mem_map.mpr ⟨p, pm.mem_iff.mp hp, rfl⟩) rfl
    have ran : ∀ (n : Nat) (z : Str), (List.range n).map (hh z) ++ [hh z n] = (List.range (n + 1)).map (hh z) := fun n z => by rw [List.range_succ, List.map_append]; rfl
    let Pv : Nat → L2.St → Hp → Prop := fun i σ H5 => ∃ (v8 v12 v13 v14 v15 : Option V) (tv : List V), σ = sg bd pl v8 none (some (.ref sd)) (some (.ref tl)) v12 v13 v14 v15 ∧ Same H2 H5 ∧ SnAt H2 H5 sd F.own adr (fun z => (List.range i).map (hh z)) ∧ H5 tl = some (.lst tv) ∧ All2 (RwAt H5) tv (toldF F hh i)
    refine or_enum (p := ra) (xs := rv2) (fun Q q => ⟨_, rfl, q⟩) (hra.imp (s2 _ _) (s2 _ _)) fun J gj sj yj => for_it (J := J) (n := rv2.length) Pv ⟨none, none, none, none, none, [], rfl, s2, sn.congr fun z _ => rfl, htl, .nil⟩ (fun i σ H5 hi ⟨_, _, _, _, _, _, _, s5, _⟩ => gj i H5 (by rcases hra with e | e <;> rw [s5 _ _ e, s2 _ _ e]) hi) (fun σ H5 ⟨_, _, _, _, _, _, _, s5, _⟩ => sj H5 (by rcases hra with e | e <;> rw [s5 _ _ e, s2 _ _ e])) ?_ ?_
    · rintro i x σ H5 H6 hi ⟨v8, v12, v13, v14, v15, tv, rfl, s5, sn5, htl5, alt⟩ yy
      obtain ⟨T1, y, rfl, nT, rfl, ey⟩ := yj i H5 _ _ (by rcases hra with e | e <;> rw [s5 _ _ e, s2 _ _ e]) yy
      obtain ⟨row, hrow, t, rfl, et⟩ := alr.getL ey
      have s6 : Same H5 (upd H5 T1 (.tup [V.int ((i : Nat) : Int), V.ref t])) := same_new nT
      have hT1 : (upd H5 T1 (.tup [V.int ((i : Nat) : Int), V.ref t])) T1 = some (.tup [V.int ((i : Nat) : Int), V.ref t]) := upd_same
      generalize upd H5 T1 (.tup [V.int ((i : Nat) : Int), V.ref t]) = H6 at s6 hT1 ⊢
      refine ⟨T1, _, rfl, SqT.of hT1, rfl, _, _, rfl, _, _, rfl, rfl, ?_⟩
      have s26 := s5.trans s6
      have rl := rlen row (List.mem_of_getElem? hrow)
      have row_at : ∀ (k : Nat) (z : Str), F.ins[k]? = some z → row[k]? = some (hh z i) := fun k z e => by
        have kl : k < row.length := by rw [rl]; exact (List.getElem?_eq_some_iff.mp e).1
        rw [sy.inn k z i (by omega) e]
        show _ = some ((rows.getD i []).getD k 0)
        rw [List.getD_eq_getElem?_getD, List.getD_eq_getElem?_getD, hrow]
        show _ = some (row[k]?.getD 0)
        rw [List.getElem?_eq_getElem kl]
        rfl
      have til : i < 100 := by omega
      let Pz : Nat → L2.St → Hp → Prop := fun k σ H7 => ∃ (v8 v14 v15 : Option V), σ = sg bd pl v8 none (some (.ref sd)) (some (.ref tl)) (some (nV i)) (some (.ref t)) v14 v15 ∧ Same H2 H7 ∧ SnAt H2 H7 sd F.own adr (fun z => (List.range (if z ∈ F.ins.take k then i + 1 else i)).map (hh z)) ∧ H7 tl = some (.lst tv) ∧ All2 (RwAt H7) tv (toldF F hh i)
      refine ⟨_, rfl, _, rfl, a1, t, _, _, rfl, .inr ⟨SqT.of (s26 _ _ e1), SqT.of (s26 _ _ et), for_it (J := RZ.ItzT K a1 t) (n := F.ins.length) Pz ⟨v8, v14, v15, rfl, s26, (sn5.same s6).congr fun z _ => by rw [List.take_zero, if_neg (fun y => nomatch y)], s6 _ _ htl5, alt.imp fun _ _ z => z.keep (TK.same s6)⟩ (fun k σ H7 hk ⟨_, _, _, _, s7, _⟩ => ⟨_, _, _, _, SqT.of (s7 _ _ e1), SqT.of (s7 _ _ et), List.getElem?_eq_getElem (by rw [List.length_map]; exact hk), List.getElem?_eq_getElem (by rw [List.length_map, rl]; exact hk)⟩) (fun σ H7 ⟨_, _, _, _, s7, _⟩ => ⟨_, _, SqT.of (s7 _ _ e1), SqT.of (s7 _ _ et), .inl (by rw [List.length_map]; exact Nat.le_refl _)⟩) ?_ ?_⟩⟩
      · rintro k x σ H7 H8 hk ⟨v8, v14, v15, rfl, s7, sn7, htl7, alt7⟩ ⟨T2, x1, y1, rfl, nT2, rfl, g1, g2⟩
        obtain ⟨z, hz⟩ : ∃ z, F.ins[k]? = some z := ⟨F.ins[k], List.getElem?_eq_getElem hk⟩
        have zO := insO z (List.mem_of_getElem? hz)
        have k1 := g1 _ (SqT.of (s7 _ _ e1))
        have k2' := g2 _ (SqT.of (s7 _ _ et))
        rw [List.getElem?_map, hz] at k1
        rw [List.getElem?_map, row_at k z hz] at k2'
        obtain rfl := Option.some.inj k1
        obtain rfl := Option.some.inj k2'
        have s8 : Same H7 (upd H7 T2 (.tup [V.str z, V.int (hh z i)])) := same_new nT2
        have hT2 : (upd H7 T2 (.tup [V.str z, V.int (hh z i)])) T2 = some (.tup [V.str z, V.int (hh z i)]) := upd_same
        generalize upd H7 T2 (.tup [V.str z, V.int (hh z i)]) = H8 at s8 hT2 ⊢
        have sn8 := sn7.same s8
        have g3 := (sn8.2.1 z zO).1
        have zn : z ∉ F.ins.take k := fun m => by
          obtain ⟨j, hj, ej⟩ := List.mem_take_iff_getElem.mp m
          have := nodup_get ndi hz (List.getElem?_eq_some_iff.mpr ⟨by omega, ej⟩)
          omega
        have tk : F.ins.take (k + 1) = F.ins.take k ++ [z] := by rw [List.take_add_one, hz]; rfl
        refine ⟨T2, _, rfl, SqT.of hT2, rfl, _, _, rfl, _, _, rfl, rfl, ?_⟩
        refine ⟨_, rfl, _, rfl, sd, _, rfl, sn8.get zO, .inl ⟨rfl, _, SqL.of g3⟩, _, rfl, adr z, _, _, rfl, rfl, g3, small1000 (by rw [List.length_map, List.length_map, List.length_range]; split <;> omega), ?_⟩
        have kk : TK H8 (upd H8 (adr z) (.lst (((List.range (if z ∈ F.ins.take k then i + 1 else i)).map (hh z)).map V.int ++ [V.int (hh z i)]))) := TK.lst g3
        refine ⟨_, _, _, rfl, Same.own (s7.trans s8) (sn.2.1 z zO).2, (sn8.push zO _).congr fun y hy => ?_, by rw [upd_ne (atl z zO).symm]; exact s8 _ _ htl7, alt7.imp fun _ _ u => (u.keep (TK.same s8)).keep kk⟩
        by_cases c : y = z
        · subst c
          rw [if_pos rfl, if_neg zn, if_pos (by rw [tk]; exact List.mem_append.mpr (.inr (List.mem_singleton.mpr rfl)))]
          exact ran i y
        · rw [if_neg c]
          have m : y ∈ F.ins.take (k + 1) ↔ y ∈ F.ins.take k := by
            rw [tk, List.mem_append, List.mem_singleton]
            exact ⟨fun y => y.resolve_right c, .inl⟩
          by_cases c2 : y ∈ F.ins.take k
          · rw [if_pos c2, if_pos (m.mpr c2)]
          · rw [if_neg c2, if_neg fun y => c2 (m.mp y)]
      rintro σ H7 ⟨v8, v14, v15, rfl, s7, sn7, htl7, alt7⟩
      rw [List.take_length] at sn7
      let Pp : Nat → L2.St → Hp → Prop := fun k σ H9 => ∃ (v8 v14 v15 : Option V), σ = sg bd pl v8 none (some (.ref sd)) (some (.ref tl)) (some (nV i)) (some (.ref t)) v14 v15 ∧ Same H2 H9 ∧ SnAt H2 H9 sd F.own adr (fun z => (List.range (if z ∈ F.ins ∨ z ∈ (os.take k).map (·.1) then i + 1 else i)).map (hh z)) ∧ H9 tl = some (.lst tv) ∧ All2 (RwAt H9) tv (toldF F hh i)
      refine ⟨_, rfl, pl, rfl, ⟨_, SqL.of (s7 _ _ hpl)⟩, for_list (K := K) (a := pl) (xs := pv) Pp ⟨v8, v14, v15, rfl, s7, sn7.congr fun z _ => ?_, htl7, alt7⟩ (fun k σ H9 _ ⟨_, _, _, _, s9, _⟩ => SqL.of (s9 _ _ hpl)) ?_ ?_⟩
      · have e : (z ∈ F.ins ∨ z ∈ (os.take 0).map (·.1)) ↔ z ∈ F.ins := ⟨fun y => y.resolve_right (fun m => by cases m), .inl⟩
        by_cases c : z ∈ F.ins
        · rw [if_pos c, if_pos (e.mpr c)]
        · rw [if_neg c, if_neg fun y => c (e.mp y)]
      · rintro k x σ H9 hx ⟨v8, v14, v15, rfl, s9, sn9, htl9, alt9⟩
        obtain ⟨p, hp, hpx⟩ := alp.getL hx
        obtain ⟨a, l, tvp, rfl, ea, el, _, alt2⟩ := hpx.same s9
        have pm2 := List.mem_of_getElem? hp
        have prs := pm.mem_iff.mp pm2
        have pO := osO p pm2
        have g3 := (sn9.2.1 p.1 pO).1
        have hnn : (os.map (·.1))[k]? = some p.1 := by rw [List.getElem?_map, hp]; rfl
        have zn : ¬ (p.1 ∈ F.ins ∨ p.1 ∈ (os.take k).map (·.1)) := fun m => by
          rcases m with m | m
          · exact dis p pm2 m
          · rw [List.map_take] at m
            obtain ⟨j, hj, ej⟩ := List.mem_take_iff_getElem.mp m
            have := nodup_get ndo hnn (List.getElem?_eq_some_iff.mpr ⟨by omega, ej⟩)
            omega
        have tk : (os.take (k + 1)).map (·.1) = (os.take k).map (·.1) ++ [p.1] := by rw [List.take_add_one, hp, List.map_append]; rfl
        obtain ⟨t1, t2, t3⟩ := ok.tr p prs
        refine ⟨a, _, rfl, SqT.of ea, rfl, _, _, rfl, _, _, rfl, rfl, ?_⟩
        refine ⟨_, rfl, _, rfl, sd, _, rfl, sn9.get pO, .inl ⟨rfl, _, SqL.of g3⟩, _, rfl, _, rfl, _, rfl, _, rfl, l, sd, bd, tvp, p.2, _, wk, F, hh, i, rfl, el, alt2, t2, t1, sn9.1, fun q hq => ?_, s9 _ _ hbd, hbf.keep (TK.same s9), fun H10 s10 => ?_⟩
        · have qO := t3 q hq
          refine ⟨adr q.1, _, by rw [stV_val, if_pos qO], (sn9.2.1 q.1 qO).1, fun le => ?_⟩
          have lt : i - q.2 < (if q.1 ∈ F.ins ∨ q.1 ∈ (os.take k).map (·.1) then i + 1 else i) := by
            by_cases q0 : q.2 = 0
            · rw [if_pos (oo k p hp q hq q0)]
              omega
            · split <;> omega
          rw [List.getElem?_map, List.getElem?_range lt]
          rfl
        rw [← sy.rul p prs i (by omega)]
        have g4 := s10 _ _ g3
        have kk : TK H10 (upd H10 (adr p.1) (.lst (((List.range (if p.1 ∈ F.ins ∨ p.1 ∈ (os.take k).map (·.1) then i + 1 else i)).map (hh p.1)).map V.int ++ [V.int (hh p.1 i)]))) := TK.lst g4
        refine ⟨adr p.1, _, _, rfl, rfl, g4, small1000 (by rw [List.length_map, List.length_map, List.length_range]; split <;> omega), ?_⟩
        refine ⟨_, _, _, rfl, Same.own (s9.trans s10) (sn.2.1 p.1 pO).2, ((sn9.same s10).push pO _).congr fun y hy => ?_, by rw [upd_ne (atl p.1 pO).symm]; exact s10 _ _ htl9, alt9.imp fun _ _ u => (u.keep (TK.same s10)).keep kk⟩
        by_cases c : y = p.1
        · subst c
          rw [if_pos rfl, if_neg zn, if_pos (by rw [tk]; exact .inr (List.mem_append.mpr (.inr (List.mem_singleton.mpr rfl))))]
          exact ran i p.1
        · rw [if_neg c]
          have m : (y ∈ F.ins ∨ y ∈ (os.take (k + 1)).map (·.1)) ↔ (y ∈ F.ins ∨ y ∈ (os.take k).map (·.1)) := by
            rw [tk, List.mem_append, List.mem_singleton]
            exact ⟨fun z => z.imp id fun z => z.resolve_right c, fun z => z.imp id .inl⟩
          by_cases c2 : y ∈ F.ins ∨ y ∈ (os.take k).map (·.1)
          · rw [if_pos c2, if_pos (m.mpr c2)]
          · rw [if_neg c2, if_neg fun y => c2 (m.mp y)]
      rintro σ H9 ⟨v8, v14, v15, rfl, s9, sn9, htl9, alt9⟩
      rw [lpv, List.take_length] at sn9
      have sn9 := sn9.congr (hist' := fun z => (List.range (i + 1)).map (hh z)) fun z hz => by
        have : z ∈ F.ins ∨ z ∈ os.map (·.1) := (List.mem_append.mp hz).imp id fun m => (pm.map (·.1)).mem_iff.mpr m
        rw [if_pos this]
      refine ⟨_, rfl, .inl ⟨rfl, _, SqL.of htl9⟩, ?_⟩
      refine ⟨_, rfl, a4, rfl, ⟨_, SqT.of (s9 _ _ e6)⟩, fun C nC => ?_⟩
      refine lc_tup (K := K) (a := a4) (xs := F.outs.map V.str) (fun k H10 => H10 C = some (.lst (((F.outs.take k).map fun z => hh z i).map V.int)) ∧ Same H9 H10) ⟨upd_same, same_new nC⟩ (fun k H10 _ ⟨_, s10⟩ => SqT.of (s10 _ _ (s9 _ _ e6))) ?_ ?_
      · rintro k v H10 hx ⟨hC, s10⟩
        rw [List.getElem?_map] at hx
        cases hn : F.outs[k]? with
        | none => rw [hn] at hx; cases hx
        | some z =>
        rw [hn] at hx
        obtain rfl : V.str z = v := Option.some.inj hx
        have zO := ok.oo z (List.mem_of_getElem? hn)
        have sn10 := sn9.same s10
        have g3 := (sn10.2.1 z zO).1
        refine ⟨rfl, yes_in ⟨_, rfl, _, rfl, sd, _, rfl, sn10.get zO, ?_⟩⟩
        refine ⟨_, rfl, adr z, _, ((i : Nat) : Int), .int (hh z i), rfl, rfl, SqL.of g3, atI_nat (by rw [List.getElem?_map, List.getElem?_map, List.getElem?_range (Nat.lt_succ_self i)]; rfl), _, hC, small1000 (by rw [List.length_map, List.length_map, List.length_take]; omega), ?_, Same.own s10 nC⟩
        rw [upd_same, List.take_add_one, hn, List.map_append, List.map_append]
        rfl
      rintro H10 ⟨hC, s10⟩
      rw [List.length_map, List.take_length] at hC
      refine ⟨C, _, rfl, .inl ⟨SqL.of hC, fun tp ntp => ?_⟩⟩
      have s11 : Same H10 (upd H10 tp (.tup ((F.outs.map fun z => hh z i).map V.int))) := same_new ntp
      have htp : (upd H10 tp (.tup ((F.outs.map fun z => hh z i).map V.int))) tp = some (.tup ((F.outs.map fun z => hh z i).map V.int)) := upd_same
      generalize upd H10 tp (.tup ((F.outs.map fun z => hh z i).map V.int)) = H11 at s11 htp ⊢
      have s91 := s10.trans s11
      have htl11 := s91 _ _ htl9
      have ltv := alt9.length
      have kk : TK H11 (upd H11 tl (.lst (tv ++ [.ref tp]))) := TK.lst htl11
      refine ⟨tl, _, _, rfl, rfl, htl11, small1000 (by rw [ltv, List.length_map, List.length_range]; omega), ?_⟩
      refine ⟨_, _, _, _, _, _, rfl, Same.own (s9.trans s91) ntl, ?_, upd_same, ?_⟩
      · have sn11 := sn9.same s91
        have sdt : sd ≠ tl := fun z => by rw [← z, sn11.1] at htl11; cases htl11
        exact ⟨by rw [upd_ne sdt]; exact sn11.1, fun z hz => ⟨by rw [upd_ne (atl z hz)]; exact (sn11.2.1 z hz).1, (sn11.2.1 z hz).2⟩, sn11.2.2⟩
      · have e : toldF F hh (i + 1) = toldF F hh i ++ [F.outs.map fun z => hh z i] := by
          unfold toldF
          rw [List.range_succ, List.map_append]; rfl
        rw [e]
        exact (alt9.imp fun _ _ u => (u.keep (TK.same s91)).keep kk).snoc ⟨tp, rfl, kk _ _ htp⟩
    · rintro σ H5 ⟨v8, v12, v13, v14, v15, tv, rfl, s5, sn5, htl5, alt⟩
      rw [← lrv2] at q
      refine ⟨_, rfl, ?_⟩
      rw [eD]
      exact q tl tv H5 (NoT.of x2 ntl) htl5 alt (x2.trans (ext_same s5)) (tabG_same tg2 s5)
  refine ⟨_, rfl, r, _, rfl, SqT.of e0, rfl, _, _, rfl, _, _, rfl, _, _, rfl, _, _, rfl, rfl, ?_⟩
  obtain ⟨ps, kvs, rfl, prd, hbf⟩ := was_dict (K := K) e3 ok.kn
  refine ⟨_, rfl, a2, ob, ps, kvs, rfl, nod, e2, prd, fun bd nbd => ?_⟩
  have s1 : Same H (upd H bd (.dK (mergeK [] kvs))) := same_new nbd
  have hbd : (upd H bd (.dK (mergeK [] kvs))) bd = some (.dK (mergeK [] kvs)) := upd_same
  generalize upd H bd (.dK (mergeK [] kvs)) = H1 at s1 hbd ⊢
  replace hbf := hbf.keep (TK.same s1)
  have pin : ∀ p ∈ F.rules, ∀ q ∈ p.2.leans, q.1 ∈ F.ins ∨ q.1 ∈ F.rules.map (·.1) := fun p hp q hq => List.mem_append.mp ((ok.tr p hp).2.2 q hq)
  refine ⟨_, rfl, a3, rv, F.rules, F.ins, rk, rfl, s1 _ _ e4, e5.imp fun _ _ z => z.keep (TK.same s1), Nat.le_trans ok.lr (by decide), fun p hp => (ok.tr p hp).1, (List.nodup_append.mp ok.nd).2.1, hrk, pin, tabG_same tg s1, fun ol lv os H2 nol hol aO pm oo x2 tg2 => ?_⟩
  have lol := aO.length
  have los := pm.length_eq
  have lr := ok.lr
  refine ⟨ol, rfl, ⟨_, SqL.of hol⟩, fun D nD => ?_⟩
  refine lc_list (K := K) (a := ol) (xs := lv) (fun i H9 => ∃ pv, H9 D = some (.lst pv) ∧ All2 (PlAt D H9) pv (os.take i) ∧ Same H2 H9) ⟨[], upd_same, .nil, same_new nD⟩ (fun i H9 _ ⟨_, _, _, s9⟩ => SqL.of (s9 _ _ hol)) ?_ ?_
  · rintro j z H9 hz ⟨pv, hD, aP, s9⟩
    obtain ⟨u, hu, hzu⟩ := aO.getL hz
    have um := pm.mem_iff.mp (List.mem_of_getElem? hu)
    obtain ⟨b, c, rfl, hb, hc⟩ := hzu.keep (TK.same s9)
    refine ⟨b, _, rfl, SqT.of hb, rfl, _, _, rfl, _, _, rfl, rfl, rfl, yes_in ⟨_, rfl, _, rfl, c, u.2, rfl, hc, Nat.le_trans (ok.tr u um).1 (by decide), fun p1 tv H10 n1 h1 al s10 => ⟨(by show 2 ≤ sizeLine; decide), fun tp ntp => ?_⟩⟩⟩
    have s11 : Same H10 (upd H10 tp (.tup [.str u.1, .ref p1])) := same_new ntp
    have htp : (upd H10 tp (.tup [.str u.1, .ref p1])) tp = some (.tup [.str u.1, .ref p1]) := upd_same
    generalize upd H10 tp (.tup [.str u.1, .ref p1]) = H11 at s11 htp ⊢
    have hD11 := s11 _ _ (s10 _ _ hD)
    have pD : p1 ≠ D := fun z => by rw [z, hD] at n1; cases n1
    have lp := aP.length
    rw [List.length_take] at lp
    have kk : TK H11 (upd H11 D (.lst (pv ++ [.ref tp]))) := TK.lst hD11
    refine ⟨pv, hD11, small1000 (by omega), pv ++ [.ref tp], upd_same, ?_, Same.own (s9.trans (s10.trans s11)) nD⟩
    rw [List.take_add_one, hu]
    refine (aP.imp fun _ _ z => ?_).snoc ⟨tp, p1, tv, rfl, kk _ _ htp, by rw [upd_ne pD]; exact s11 _ _ h1, pD, al.imp fun _ _ z => (z.keep (TK.same s11)).keep kk⟩
    obtain ⟨a, l, tv, g1, g2, g3, g4, g5⟩ := z.same (s10.trans s11)
    exact ⟨a, l, tv, g1, kk _ _ g2, by rw [upd_ne g4]; exact g3, g4, g5.imp fun _ _ z => z.keep kk⟩
  rintro H9 ⟨pv, hD, aP, s9⟩
  rw [lol, List.take_length] at aP
  have x9 := (ext_same s1).trans (x2.trans (ext_same s9))
  have k9 := tk_ext (x2.trans (ext_same s9))
  refine ⟨rfl, bd, D, pv, os, _, rfl, s9 _ _ (x2 _ _ hbd fun ps z => nomatch z), hbf.keep k9, hD, aP, pm, oo, x9, tabG_same tg2 s9⟩
end
/-! ### what the law makes of a tree -/
def Tr.valO (look : Str → Nat → Option Int) : Tr → Option Int
  | .nm n k => look n k
  | .no i => some i
  | .tm k t => match t.valO look with
    | some x => some (k * x)
    | none => none
  | .o2 w a b => match a.valO look, b.valO look with
    | some x, some y => some (mk2 w.s x y)
    | _, _ => none
  | .o3 a b c => match a.valO look, b.valO look, c.valO look with
    | some x, some y, some z => some (if x = 0 then z else y)
    | _, _, _ => none
theorem valO_some {look : Str → Nat → Option Int} {l2 : Str → Nat → Int} : ∀ (t : Tr), (∀ q ∈ t.leans, ∀ x, look q.1 q.2 = some x → x = l2 q.1 q.2) → ∀ x, t.valO look = some x → x = t.val l2 := by
  intro t
  induction t with
  | nm n k => exact fun h x e => h (n, k) (List.mem_singleton.mpr rfl) x e
  | no i => exact fun _ x e => (Option.some.inj e).symm
  | tm k t ih =>
    intro h x e
    simp only [Tr.valO] at e
    split at e
    · rename_i y ey
      rw [← Option.some.inj e, ih h y ey]; rfl
    · cases e
  | o2 w a b i1 i2 =>
    intro h x e
    simp only [Tr.valO] at e
    split at e
    · rename_i y z ey ez
      rw [← Option.some.inj e, i1 (fun q m => h q (List.mem_append.mpr (.inl m))) y ey, i2 (fun q m => h q (List.mem_append.mpr (.inr m))) z ez]; rfl
    · cases e
  | o3 a b c i1 i2 i3 =>
    intro h x e
    simp only [Tr.valO] at e
    split at e
    · rename_i y z u ey ez eu
      rw [← Option.some.inj e, i1 (fun q m => h q (List.mem_append.mpr (.inl (List.mem_append.mpr (.inl m))))) y ey, i2 (fun q m => h q (List.mem_append.mpr (.inl (List.mem_append.mpr (.inr m))))) z ez, i3 (fun q m => h q (List.mem_append.mpr (.inr m))) u eu]; rfl
    · cases e
theorem valO_ne {look : Str → Nat → Option Int} : ∀ (t : Tr), (∀ q ∈ t.leans, look q.1 q.2 ≠ none) → t.valO look ≠ none := by
  intro t
  induction t with
  | nm n k => exact fun h => h (n, k) (List.mem_singleton.mpr rfl)
  | no i => exact fun _ e => nomatch e
  | tm k t ih =>
    intro h e
    simp only [Tr.valO] at e
    split at e
    · cases e
    · rename_i n; exact ih h n
  | o2 w a b i1 i2 =>
    intro h e
    have h1 := i1 fun q m => h q (List.mem_append.mpr (.inl m))
    have h2 := i2 fun q m => h q (List.mem_append.mpr (.inr m))
    simp only [Tr.valO] at e
    cases e1 : a.valO look with
    | none => exact h1 e1
    | some x =>
      cases e2 : b.valO look with
      | none => exact h2 e2
      | some y => rw [e1, e2] at e; cases e
  | o3 a b c i1 i2 i3 =>
    intro h e
    have h1 := i1 fun q m => h q (List.mem_append.mpr (.inl (List.mem_append.mpr (.inl m))))
    have h2 := i2 fun q m => h q (List.mem_append.mpr (.inl (List.mem_append.mpr (.inr m))))
    have h3 := i3 fun q m => h q (List.mem_append.mpr (.inr m))
    simp only [Tr.valO] at e
    cases e1 : a.valO look with
    | none => exact h1 e1
    | some x =>
      cases e2 : b.valO look with
      | none => exact h2 e2
      | some y =>
        cases e3 : c.valO look with
        | none => exact h3 e3
        | some z => rw [e1, e2, e3] at e; cases e
def onI : Option Int → V
  | some i => .int i
  | none => .non
abbrev kv5 (a b : Int) : List (Key × V) := [(.inr "sum", .int (a + b)), (.inr "gap", .int (a - b)), (.inr "below", .int (if a < b then 1 else 0)), (.inr "most", .int (if b > a then b else a)), (.inr "least", .int (if b < a then b else a))]
theorem five_val {wd : Str} (h : wd = "sum" ∨ wd = "gap" ∨ wd = "below" ∨ wd = "most" ∨ wd = "least") (n a b c : Int) : valV (mergeK [] (kv5 a b)) (.inr wd) = some (.int (mk wd n a b c)) := by
  rcases h with e | e | e | e | e <;> subst e <;> rfl
theorem mk_two (w : W2) (a b : Int) : mk w.s 0 a b 0 = mk2 w.s a b := by
  unfold mk; rw [if_neg (by cases w <;> decide +kernel), if_neg (by cases w <;> decide +kernel), if_neg (by cases w <;> decide +kernel), if_neg (by cases w <;> decide +kernel)]
theorem w2_five (w : W2) : w.s = "sum" ∨ w.s = "gap" ∨ w.s = "below" ∨ w.s = "most" ∨ w.s = "least" := by cases w <;> simp [W2.s]
/-- what the law has told of names: at bell b, name n -/
def CeAt (H : Hp) (dv : List V) (cell : Nat → Str → Option Int) : Prop := ∀ b, b < dv.length → ∃ (d : Addr) (kvs : List (Key × V)), dv[b]? = some (.ref d) ∧ H d = some (.dK kvs) ∧ ∀ n, valV kvs (Sum.inr n) = (cell b n).map V.int
theorem CeAt.same {H H' : Hp} {dv : List V} {cell : Nat → Str → Option Int} (h : CeAt H dv cell) (s : Same H H') : CeAt H' dv cell := fun b hb => by
  obtain ⟨d, kvs, e1, e2, e3⟩ := h b hb
  exact ⟨d, kvs, e1, s _ _ e2, e3⟩
def lookL (F : Fm) (cell : Nat → Str → Option Int) (b : Nat) (n : Str) (k : Nat) : Option Int := if k ≤ b then cell (b - k) n else some ((bfr F n).getD (k - b - 1) 0)
section
variable {P : Program} {w : World} {K : PySem.W.Frag} {mg : Str → Option Value} {base : Heap}
def spV (K : PySem.W.Frag) : Nat → Sp
  | 0 => fun _ _ _ _ => False
  | n + 1 => fun vs H Q _ => ∃ (v : V) (t : Tr) (b : Nat) (tl wd : Addr) (dv : List V) (wk : List (Key × V)) (F : Fm) (cell : Nat → Str → Option Int), vs = [v, nV b, .ref tl, .ref wd] ∧ TrAt H v t ∧ t.dep ≤ n + 1 ∧ t.small ∧ (∀ q ∈ t.leans, q.2 ≤ 6) ∧ H tl = some (.lst dv) ∧ dv.length = b + 1 ∧ CeAt H dv cell ∧ H wd = some (.dK wk) ∧ BfAt H wk F ∧ (∀ n, (bfr F n).length ≤ 100) ∧
    ∀ H', Same H H' → Q (onI (t.valO (lookL F cell b))) H'
theorem value_step {f : Addr} {fd : FuncData} (T : Top w K mg) (n : Nat) (below : ∀ (f : Addr) (fd : FuncData), Fun K "_law_value" "_law_value" s_law_value f fd → FnOk P w K mg base CX0 (n + 1) f fd ["_law_tree_here", "_law_at", "_law_told", "_law_was"] (spV K n)) (F : Fun K "_law_value" "_law_value" s_law_value f fd) :
    FnOk P w K mg base CX0 (n + 2) f fd ["_law_tree_here", "_law_at", "_law_told", "_law_was"] (spV K (n + 1)) := by
  obtain ⟨f_law_value, fd_law_value, F_law_value, b_law_value, m_law_value⟩ := T.d_law_value
  have G_law_value := below f_law_value fd_law_value F_law_value
  obtain ⟨f_law_parts, fd_law_parts, F_law_parts, b_law_parts, m_law_parts⟩ := T.d_law_parts
  have G_law_parts := ok_law_parts (P := P) (w := w) (base := base) F_law_parts T
  refine F.ok sc_law_value (fun vs H Q E h => ?_) (fun cdv A outer s H vs Q E hr h => ?_)
  · obtain ⟨v, t, b, tl, wd, dv, wk, Fm, cell, rfl, _⟩ := h
    rfl
  obtain ⟨v, t, b, tl, wd, dv, wk, Fo, cell, rfl, ht, hdep, sm, l6, htl, ldv, hce, hwd, hbf, lbf, q⟩ := h
  obtain ⟨a, ks, rfl, ha, ak⟩ := ht.op
  obtain ⟨r, er, sort⟩ := t.hd_wd
  have ha0 := ha
  rw [er, List.cons_append] at ha
  refine ⟨_, (pss_cons (ps_if (pt_cmpR op_eq (pe_ix (ix_tupK K rfl) (pv 0) pe_int (fun _ _ => rfl)) pe_str (nomark _)) (pss_one (ps_ret (pe_ix (ix_tupK K rfl) (pv 0) pe_int (fun _ _ => rfl)))) pss_nil)
      (pss_cons (ps_if (pt_cmpR op_eq (pe_ix (ix_tupK K rfl) (pv 0) pe_int (fun _ _ => rfl)) pe_str (nomark _)) (pss_cons (ps_set (i := 4) sc_law_value.nd rfl (Or.inl rfl) (pe_op op_sub (pv 1) (pe_ix (ix_tupK K rfl) (pv 0) pe_int (fun _ _ => rfl))))
      (pss_cons (ps_if (pt_cmpR op_ge (pv 4) pe_int (nomark _)) (pss_one (ps_ret (pe_dget2 (hu_of hr) (pe_ix (ix_listK K rfl) (pv 2) (pv 4) (fun _ _ => rfl)) (pe_ix (ix_tupK K rfl) (pv 0) pe_int (fun _ _ => rfl)) pe_non ⟨by rfl, by rfl, by rfl, by rfl⟩))) pss_nil)
      (pss_one (ps_ret (pe_ix (ix_listK K rfl) (pe_op op_cat (pe_callTy (call_list_ofK K rfl) (by rfl) T.m_list (by decide +kernel) (pa_cons (pe_dget2 (hu_of hr) (pv 3) (pe_ix (ix_tupK K rfl) (pv 0) pe_int (fun _ _ => rfl)) (pe_tup pa_nil) ⟨by rfl, by rfl, by rfl, by rfl⟩) pa_nil)) (pe_op op_rep (pe_lst (pa_cons pe_int pa_nil)) pe_int)) (pe_op op_sub (pe_un un_neg pe_int) (pv 4)) (fun _ _ => rfl)))))) pss_nil)
      (pss_cons (ps_setLc (i := 5) (own := [("_law_part", 6)]) (g := gName 6) (tt := tYes) (by rfl) sc_law_value.nd rfl rfl (sw_true rfl rfl rfl (by decide +kernel)) (pi_listK K rfl (pe_call G_law_parts (hr.mono (by omega)) (by rfl) m_law_parts F_law_parts.kp b_law_parts .nil pass0 (pa_cons (pv 0) pa_nil))) (blkOk_by (own := [("_law_part", 6)]) (N := N_law_value) (sc := defScope s_law_value) (by decide +kernel)) (fun _ _ _ _ _ => (pg_name (i := 6) sc_law_value.nd rfl (Or.inl rfl))) (fun _ _ _ _ _ => pts_nil) (fun _ _ _ _ _ => (pe_call G_law_value (hr.mono (Nat.le_refl _)) (by rfl) m_law_value F_law_value.kp b_law_value .nil pass0 (pa_cons (pv 6) (pa_cons (pv 1) (pa_cons (pv 2) (pa_cons (pv 3) pa_nil)))))))
      (pss_cons (ps_if (pt_cmpR (op_in_seqK K rfl) pe_non (pv 5) (by with_unfolding_all rfl)) (pss_one (ps_ret pe_non)) pss_nil)
      (pss_cons (ps_if (pt_cmpR op_eq (pe_ix (ix_tupK K rfl) (pv 0) pe_int (fun _ _ => rfl)) pe_str (nomark _)) (pss_one (ps_ret (pe_op op_mul (pe_ix (ix_tupK K rfl) (pv 0) pe_int (fun _ _ => rfl)) (pe_ix (ix_listK K rfl) (pv 5) pe_int (fun _ _ => rfl))))) pss_nil)
      (pss_cons (ps_if (pt_cmpR op_eq (pe_ix (ix_tupK K rfl) (pv 0) pe_int (fun _ _ => rfl)) pe_str (nomark _)) (pss_one (ps_ret (pe_ix (ix_listK K rfl) (pe_lst (pa_cons (pe_ix (ix_listK K rfl) (pv 5) pe_int (fun _ _ => rfl)) (pa_cons (pe_ix (ix_listK K rfl) (pv 5) pe_int (fun _ _ => rfl)) pa_nil))) (pe_callTy call_int1 (by rfl) T.m_int (by decide +kernel) (pa_cons (pe_cmpR op_ne (pe_ix (ix_listK K rfl) (pv 5) pe_int (fun _ _ => rfl)) pe_int (nomark _)) pa_nil)) (fun _ _ => rfl)))) pss_nil)
      (pss_cons (ps_asg (pv 5) (pg_unlK K rfl rfl (pgs_cons (pg_name (i := 7) sc_law_value.nd rfl (Or.inl rfl)) (pgs_cons (pg_name (i := 8) sc_law_value.nd rfl (Or.inl rfl)) pgs_nil))))
      (pss_cons (ps_set (i := 9) sc_law_value.nd rfl (Or.inl rfl) (pe_disp (pps_cons pe_str (pe_op op_add (pv 7) (pv 8)) (pps_cons pe_str (pe_op op_sub (pv 7) (pv 8)) (pps_cons pe_str (pe_callTy call_int1 (by rfl) T.m_int (by decide +kernel) (pa_cons (pe_cmpR op_lt (pv 7) (pv 8) (nomark _)) pa_nil)) (pps_cons pe_str (pe_callB (call_max2 rfl) (by rfl) T.m_max (by decide +kernel) (pa_cons (pv 7) (pa_cons (pv 8) pa_nil))) (pps_cons pe_str (pe_callB (call_min2 rfl) (by rfl) T.m_min (by decide +kernel) (pa_cons (pv 7) (pa_cons (pv 8) pa_nil))) pps_nil))))) (by rfl) (by rfl) (fun z => by cases z) (by decide)))
      (pss_one (ps_ret (pe_dget (hu_of hr) (pv 9) (pe_ix (ix_tupK K rfl) (pv 0) pe_int (fun _ _ => rfl)) (fun _ _ => rfl)))))))))))), ?_⟩
  refine ⟨_, rfl, a, _, _, _, rfl, rfl, SqT.of ha, atI_nat (j := 0) rfl, rfl, _, rfl, if_str (fun w1 => ?_) (fun w1 => ?_)⟩
  · have un : t.isNo = true := by rw [t.wd_no, decide_eq_true w1]
    cases t with
    | no i =>
      have ha0 : H a = some (.tup ([.str "number", .int i] ++ ks)) := ha0
      exact ⟨_, rfl, a, _, _, _, rfl, rfl, SqT.of ha0, atI_nat (j := 1) rfl, q H (Same.refl _)⟩
    | _ => cases un
  refine ⟨_, rfl, a, _, _, _, rfl, rfl, SqT.of ha, atI_nat (j := 0) rfl, rfl, _, rfl, if_str (fun w2 => ?_) (fun w2 => ?_)⟩
  · have un : t.isNm = true := by rw [t.wd_nm, decide_eq_true w2]
    cases t with
    | nm nn k =>
      have ha0 : H a = some (.tup ([.str "name", .str nn, nV k] ++ ks)) := ha0
      have k6 : k ≤ 6 := l6 (nn, k) (List.mem_singleton.mpr rfl)
      have q : ∀ H', Same H H' → Q (onI (lookL Fo cell b nn k)) H' := q
      unfold lookL at q
      refine ⟨_, rfl, _, rfl, a, _, _, _, rfl, rfl, SqT.of ha0, atI_nat (j := 2) rfl, _, _, rfl, rfl, ?_⟩
      refine ⟨_, rfl, _, _, rfl, rfl, _, rfl, if_bl (fun c => ?_) (fun c => ?_)⟩
      · have kb : k ≤ b := by have := of_decide_eq_true c; omega
        rw [if_pos kb] at q
        obtain ⟨d, kvs, g1, g2, g3⟩ := hce (b - k) (by omega)
        have ei : ((b : Nat) : Int) - ((k : Nat) : Int) = ((b - k : Nat) : Int) := by omega
        refine ⟨_, rfl, _, rfl, tl, _, ((b : Nat) : Int) - ((k : Nat) : Int), .ref d, rfl, rfl, SqL.of htl, by rw [ei]; exact atI_nat g1, d, rfl, .inl ⟨_, .inl g2⟩, _, rfl, a, _, _, _, rfl, rfl, SqT.of ha0, atI_nat (j := 1) rfl, _, DGet.k (k := Sum.inr nn) g2, ?_⟩
        rw [g3 nn]
        have := q H (Same.refl _)
        cases e : cell (b - k) nn <;> rw [e] at this <;> exact this
      · have kb : ¬ k ≤ b := by have := of_decide_eq_false c; omega
        rw [if_neg kb] at q
        refine ⟨_, rfl, wd, rfl, .inl ⟨_, .inl hwd⟩, _, rfl, a, _, _, _, rfl, rfl, SqT.of ha0, atI_nat (j := 1) rfl, (by show 0 ≤ sizeLine; decide), fun ep nep => ⟨valV wk (Sum.inr nn), DGet.k (k := Sum.inr nn) ((same_new nep) _ _ hwd), ?_⟩⟩
        have s6 : Same H (upd H ep (.tup [])) := same_new nep
        obtain ⟨p2, ep1, hp1⟩ : ∃ p, ((valV wk (Sum.inr nn)).getD (.ref ep)) = .ref p ∧ (upd H ep (.tup [])) p = some (.tup ((bfr Fo nn).map V.int)) := by
          rcases hbf nn with ⟨z1, z2⟩ | ⟨p, z1, z2⟩
          · rw [z1, z2]
            exact ⟨ep, rfl, upd_same⟩
          · rw [z1]
            exact ⟨p, rfl, s6 _ _ z2⟩
        generalize upd H ep (.tup []) = H6 at s6 hp1 ⊢
        refine ⟨p2, _, (by rw [ep1]), .inr (SqT.of hp1), fun lp nlp => ?_⟩
        have s7 : Same H6 (upd H6 lp (.lst ((bfr Fo nn).map V.int))) := same_new nlp
        have hlp : (upd H6 lp (.lst ((bfr Fo nn).map V.int))) lp = some (.lst ((bfr Fo nn).map V.int)) := upd_same
        generalize upd H6 lp (.lst ((bfr Fo nn).map V.int)) = H7 at s7 hlp ⊢
        refine ⟨(by show 1 ≤ sizeLine; decide), fun zp nzp => ?_⟩
        have s8 : Same H7 (upd H7 zp (.lst [V.int 0])) := same_new nzp
        have hzp : (upd H7 zp (.lst [V.int 0])) zp = some (.lst [V.int 0]) := upd_same
        generalize upd H7 zp (.lst [V.int 0]) = H8 at s8 hzp ⊢
        refine ⟨zp, 9, _, rfl, rfl, hzp, by decide, by decide, by decide, fun yp nyp => ?_⟩
        have s9 : Same H8 (upd H8 yp (.lst (List.replicate (9 : Int).toNat [V.int 0]).flatten)) := same_new nyp
        have hyp : (upd H8 yp (.lst (List.replicate (9 : Int).toNat [V.int 0]).flatten)) yp = some (.lst ((List.replicate 9 (0 : Int)).map V.int)) := upd_same
        generalize upd H8 yp (.lst (List.replicate (9 : Int).toNat [V.int 0]).flatten) = H9 at s9 hyp ⊢
        have lb := lbf nn
        refine ⟨lp, yp, _, _, rfl, rfl, s9 _ _ (s8 _ _ hlp), hyp, little (by rw [List.length_map, List.length_map, List.length_replicate]; omega), fun rp nrp => ?_⟩
        have s10 : Same H9 (upd H9 rp (.lst ((bfr Fo nn).map V.int ++ (List.replicate 9 (0 : Int)).map V.int))) := same_new nrp
        have hrp : (upd H9 rp (.lst ((bfr Fo nn).map V.int ++ (List.replicate 9 (0 : Int)).map V.int))) rp = some (.lst ((bfr Fo nn ++ List.replicate 9 (0 : Int)).map V.int)) := by
          rw [upd_same, List.map_append]
        generalize upd H9 rp (.lst ((bfr Fo nn).map V.int ++ (List.replicate 9 (0 : Int)).map V.int)) = H10 at s10 hrp ⊢
        have ei : -1 - (((b : Nat) : Int) - ((k : Nat) : Int)) = ((k - b - 1 : Nat) : Int) := by omega
        refine ⟨_, rfl, _, rfl, _, _, rfl, rfl, rp, _, -1 - (((b : Nat) : Int) - ((k : Nat) : Int)), .int ((bfr Fo nn).getD (k - b - 1) 0), rfl, rfl, SqL.of hrp, ?_, q _ (s6.trans (s7.trans (s8.trans (s9.trans s10))))⟩
        rw [ei, at_getD (by rw [List.length_append, List.length_replicate]; omega)]
        congr 2
        rw [List.getD_eq_getElem?_getD, List.getD_eq_getElem?_getD]
        by_cases c2 : k - b - 1 < (bfr Fo nn).length
        · rw [List.getElem?_append_left c2]
        · rw [List.getElem?_append_right (by omega), List.getElem?_eq_none (Nat.le_of_not_lt c2), List.getElem?_replicate]
          split <;> rfl
    | _ => cases un
  have un : t.isNm = false := by rw [t.wd_nm, decide_eq_false w2]
  refine ⟨_, rfl, .ref a, t, rfl, ht, fun p2 l2 H2 n2 h2 al2 s2 => ?_⟩
  refine ⟨p2, rfl, ⟨_, SqL.of h2⟩, fun D nD => ?_⟩
  refine lc_list (K := K) (a := p2) (xs := l2) (fun i H9 => H9 D = some (.lst ((t.kids.take i).map fun u => onI (u.valO (lookL Fo cell b)))) ∧ Same H2 H9) ⟨upd_same, same_new nD⟩ (fun i H9 _ ⟨_, s9⟩ => SqL.of (s9 _ _ h2)) ?_ ?_
  · rintro j z H9 hz ⟨hD, s9⟩
    obtain ⟨u, hu, tu⟩ := al2.getL hz
    have um := List.mem_of_getElem? hu
    have ud := Tr.dep_kid um
    obtain ⟨m, rfl⟩ : ∃ m, n = m + 1 := by
      cases n with
      | zero =>
        have : 1 ≤ u.dep := by cases u <;> simp [Tr.dep]
        omega
      | succ m => exact ⟨m, rfl⟩
    have s29 := s2.trans s9
    have lk := t.leans_kids un
    have us : u.small := by
      cases t with
      | nm n k => cases um
      | no i => cases um
      | tm k t => rw [List.mem_singleton.mp um]; exact sm.2
      | o2 w x y =>
        simp only [Tr.kids, List.mem_cons, List.not_mem_nil, or_false] at um
        rcases um with rfl | rfl
        · exact sm.1
        · exact sm.2
      | o3 x y z =>
        simp only [Tr.kids, List.mem_cons, List.not_mem_nil, or_false] at um
        rcases um with rfl | rfl | rfl
        · exact sm.1
        · exact sm.2.1
        · exact sm.2.2
    refine ⟨rfl, yes_in ⟨_, rfl, _, rfl, _, rfl, _, rfl, z, u, b, tl, wd, dv, wk, Fo, cell, rfl, tu.keep (TK.same s9), by omega, us, fun q hq => l6 q (by rw [lk]; exact List.mem_flatMap.mpr ⟨u, um, hq⟩), s29 _ _ htl, ldv, hce.same s29, s29 _ _ hwd, hbf.keep (TK.same s29), lbf, fun H10 s10 => ⟨_, s10 _ _ hD, ?_, ?_, Same.own (s9.trans s10) nD⟩⟩⟩
    · rw [List.length_map, List.length_take]
      have := t.kids_len
      exact small1000 (by omega)
    · rw [upd_same, List.take_add_one, hu, List.map_append]
      rfl
  rintro H9 ⟨hD, s9⟩
  rw [al2.length, List.take_length] at hD
  have s29 := s2.trans s9
  replace ha := s29 _ _ ha
  replace ha0 := s29 _ _ ha0
  cases t with
  | nm nn k => cases un
  | no i => exact absurd rfl w1
  | tm k u =>
    have k9 : (-9 : Int) ≤ k ∧ k ≤ 9 := sm.1
    have ha0 : H9 a = some (.tup ([.str "times", .int k] ++ ks)) := ha0
    have hD : H9 D = some (.lst [onI (u.valO (lookL Fo cell b))]) := hD
    cases e : u.valO (lookL Fo cell b) with
    | none =>
      rw [e] at hD
      replace hD : H9 D = some (.lst [V.non]) := hD
      simp only [Tr.valO, e] at q
      exact ⟨_, rfl, D, _, rfl, .inl (SqL.of hD), rfl, rfl, _, rfl, if_bl (fun _ => q _ s29) (fun z => absurd z (by decide))⟩
    | some x =>
      rw [e] at hD
      replace hD : H9 D = some (.lst [V.int x]) := hD
      simp only [Tr.valO, e] at q
      refine ⟨_, rfl, D, _, rfl, .inl (SqL.of hD), rfl, rfl, _, rfl, if_bl (fun z => absurd z Bool.false_ne_true) (fun _ => ?_)⟩
      refine ⟨_, rfl, a, _, _, _, rfl, rfl, SqT.of ha0, atI_nat (j := 0) rfl, rfl, _, rfl, if_str (fun _ => ?_) (fun z => absurd rfl z)⟩
      exact ⟨_, rfl, a, _, _, _, rfl, rfl, SqT.of ha0, atI_nat (j := 1) rfl, _, rfl, D, _, _, _, rfl, rfl, SqL.of hD, atI_nat (j := 0) rfl, _, _, rfl, rfl, .inl ⟨by omega, by omega⟩, q _ s29⟩
  | o2 w x y =>
    have ha0 : H9 a = some (.tup ([.str w.s] ++ ks)) := ha0
    have hD : H9 D = some (.lst [onI (x.valO (lookL Fo cell b)), onI (y.valO (lookL Fo cell b))]) := hD
    cases e1 : x.valO (lookL Fo cell b) with
    | none =>
      rw [e1] at hD
      replace hD : H9 D = some (.lst [V.non, onI (y.valO (lookL Fo cell b))]) := hD
      simp only [Tr.valO, e1] at q
      cases e2 : y.valO (lookL Fo cell b) with
      | none =>
        rw [e2] at hD
        replace hD : H9 D = some (.lst [V.non, V.non]) := hD
        exact ⟨_, rfl, D, _, rfl, .inl (SqL.of hD), rfl, rfl, _, rfl, if_bl (fun _ => q _ s29) (fun z => absurd z (by decide))⟩
      | some j =>
        rw [e2] at hD
        replace hD : H9 D = some (.lst [V.non, V.int j]) := hD
        exact ⟨_, rfl, D, _, rfl, .inl (SqL.of hD), rfl, rfl, _, rfl, if_bl (fun _ => q _ s29) (fun z => absurd z (fun y => Bool.noConfusion y))⟩
    | some i =>
      cases e2 : y.valO (lookL Fo cell b) with
      | none =>
        rw [e1, e2] at hD
        replace hD : H9 D = some (.lst [V.int i, V.non]) := hD
        simp only [Tr.valO, e1, e2] at q
        exact ⟨_, rfl, D, _, rfl, .inl (SqL.of hD), rfl, rfl, _, rfl, if_bl (fun _ => q _ s29) (fun z => absurd z (fun y => Bool.noConfusion y))⟩
      | some j =>
        rw [e1, e2] at hD
        replace hD : H9 D = some (.lst [V.int i, V.int j]) := hD
        simp only [Tr.valO, e1, e2] at q
        refine ⟨_, rfl, D, _, rfl, .inl (SqL.of hD), rfl, rfl, _, rfl, if_bl (fun z => absurd z Bool.false_ne_true) (fun _ => ?_)⟩
        refine ⟨_, rfl, a, _, _, _, rfl, rfl, SqT.of ha0, atI_nat (j := 0) rfl, rfl, _, rfl, if_str (fun z => absurd z (by cases w <;> decide +kernel)) (fun _ => ?_)⟩
        refine ⟨_, rfl, a, _, _, _, rfl, rfl, SqT.of ha0, atI_nat (j := 0) rfl, rfl, _, rfl, if_str (fun z => absurd z (by cases w <;> decide +kernel)) (fun _ => ?_)⟩
        refine ⟨_, rfl, D, _, rfl, SqL.of hD, rfl, _, _, rfl, _, _, rfl, rfl, ?_⟩
        refine fun d nd => ⟨_, rfl, _, rfl, _, _, rfl, rfl, _, rfl, _, rfl, _, _, rfl, rfl, _, rfl, _, rfl, _, _, rfl, rfl, .inr ⟨_, rfl, _, rfl, _, rfl, _, _, rfl, _, rfl, _, rfl, _, _, rfl, upd_same, kv5 i j, ?_, (by show 5 ≤ 15; decide), ?_⟩⟩
        · by_cases z : i < j
          · simp [z, kV]
          · simp [z, kV]
        have s1 : Same H9 (upd (upd H9 d (.dK [])) d (.dK (mergeK [] (kv5 i j)))) := by rw [upd_upd]; exact same_new nd
        refine ⟨_, rfl, _, rfl, a, _, _, _, rfl, rfl, SqT.of (s1 _ _ ha0), atI_nat (j := 0) rfl, d, .int (mk2 w.s i j), rfl, ?_, q _ (s29.trans s1)⟩
        have := DGet.k (k := Sum.inr w.s) (upd_same (H := upd H9 d (.dK [])) (a := d) (o := .dK (mergeK [] (kv5 i j))))
        rw [five_val (w2_five w) 0 i j 0, mk_two] at this
        exact this
  | o3 x y z =>
    have ha0 : H9 a = some (.tup ([.str "pick"] ++ ks)) := ha0
    have hD : H9 D = some (.lst [onI (x.valO (lookL Fo cell b)), onI (y.valO (lookL Fo cell b)), onI (z.valO (lookL Fo cell b))]) := hD
    have q : ∀ H', Same H H' → Q (onI (match x.valO (lookL Fo cell b), y.valO (lookL Fo cell b), z.valO (lookL Fo cell b) with
      | some x, some y, some z => some (if x = 0 then z else y)
      | _, _, _ => none)) H' := q
    generalize x.valO (lookL Fo cell b) = X1 at hD q
    generalize y.valO (lookL Fo cell b) = X2 at hD q
    generalize z.valO (lookL Fo cell b) = X3 at hD q
    cases X1 with
    | none =>
      cases X2 <;> cases X3 <;> exact ⟨_, rfl, D, _, rfl, .inl (SqL.of hD), rfl, rfl, _, rfl, if_bl (fun _ => q _ s29) (fun z => absurd z (fun y => Bool.noConfusion y))⟩
    | some i1 =>
    cases X2 with
    | none =>
      cases X3 <;> exact ⟨_, rfl, D, _, rfl, .inl (SqL.of hD), rfl, rfl, _, rfl, if_bl (fun _ => q _ s29) (fun z => absurd z (fun y => Bool.noConfusion y))⟩
    | some i2 =>
    cases X3 with
    | none => exact ⟨_, rfl, D, _, rfl, .inl (SqL.of hD), rfl, rfl, _, rfl, if_bl (fun _ => q _ s29) (fun z => absurd z (fun y => Bool.noConfusion y))⟩
    | some i3 =>
    replace hD : H9 D = some (.lst [V.int i1, V.int i2, V.int i3]) := hD
    replace q : ∀ H', Same H H' → Q (.int (if i1 = 0 then i3 else i2)) H' := q
    refine ⟨_, rfl, D, _, rfl, .inl (SqL.of hD), rfl, rfl, _, rfl, if_bl (fun z => absurd z Bool.false_ne_true) (fun _ => ?_)⟩
    refine ⟨_, rfl, a, _, _, _, rfl, rfl, SqT.of ha0, atI_nat (j := 0) rfl, rfl, _, rfl, if_str (fun z => absurd z (by decide +kernel)) (fun _ => ?_)⟩
    refine ⟨_, rfl, a, _, _, _, rfl, rfl, SqT.of ha0, atI_nat (j := 0) rfl, rfl, _, rfl, if_str (fun _ => ?_) (fun z => absurd rfl z)⟩
    refine ⟨_, rfl, D, _, _, _, rfl, rfl, SqL.of hD, atI_nat (j := 2) rfl, _, rfl, D, _, _, _, rfl, rfl, SqL.of hD, atI_nat (j := 1) rfl, (by show 2 ≤ sizeLine; decide), fun p np => ?_⟩
    have s1 := same_new (o := .lst [V.int i3, V.int i2]) np
    have q := q _ (s29.trans s1)
    by_cases z : i1 = 0
    · rw [if_pos z] at q
      refine ⟨_, rfl, D, _, _, _, rfl, rfl, SqL.of (s1 _ _ hD), atI_nat (j := 0) rfl, rfl, .inr ⟨_, rfl, p, _, _, .int i3, rfl, rfl, SqL.of upd_same, ?_, q⟩⟩
      rw [z]
      rfl
    · rw [if_neg z] at q
      refine ⟨_, rfl, D, _, _, _, rfl, rfl, SqL.of (s1 _ _ hD), atI_nat (j := 0) rfl, rfl, .inr ⟨_, rfl, p, _, _, .int i2, rfl, rfl, SqL.of upd_same, ?_, q⟩⟩
      rw [show (!decide (V.int i1 = V.int 0)) = true by rw [decide_eq_false fun y => z (V.int.inj y)]; rfl]
      rfl
theorem value_all (T : Top w K mg) : ∀ (n : Nat) (f : Addr) (fd : FuncData), Fun K "_law_value" "_law_value" s_law_value f fd → FnOk P w K mg base CX0 (n + 1) f fd ["_law_tree_here", "_law_at", "_law_told", "_law_was"] (spV K n)
  | 0, f, fd, F => by
    refine F.ok sc_law_value (fun vs H Q E h => h.elim) (fun cdv A outer s H vs Q E hr h => h.elim)
  | n + 1, f, fd, F => value_step T n (value_all T n) F
abbrev sp_law_value (K : PySem.W.Frag) : Sp := spV K 10
theorem ok_law_value {f : Addr} {fd : FuncData} (F : Fun K "_law_value" "_law_value" s_law_value f fd) (T : Top w K mg) : FnOk P w K mg base CX0 11 f fd ["_law_tree_here", "_law_at", "_law_told", "_law_was"] (sp_law_value K) := value_all T 10 f fd F
end
/-! ### what the law says of formulas -/
theorem filter_lt {α : Type} {f g : α → Bool} : ∀ {l : List α}, (∀ x ∈ l, f x = true → g x = true) → (∃ x ∈ l, g x = true ∧ f x = false) → (l.filter f).length < (l.filter g).length
  | [], _, h => by obtain ⟨x, m, _⟩ := h; cases m
  | a :: r, h, e => by
    have le : ∀ {m : List α}, (∀ x ∈ m, f x = true → g x = true) → (m.filter f).length ≤ (m.filter g).length := by
      intro m
      induction m with
      | nil => intro _; exact Nat.le_refl _
      | cons b s ih =>
        intro k
        have i := ih fun x hx => k x (List.mem_cons_of_mem _ hx)
        rw [List.filter_cons, List.filter_cons]
        by_cases c : f b = true
        · rw [if_pos c, if_pos (k b (List.mem_cons_self ..) c)]
          simp only [List.length_cons]; omega
        · rw [if_neg c]
          split
          · simp only [List.length_cons]; omega
          · exact i
    have hr := fun x hx => h x (List.mem_cons_of_mem _ hx)
    rw [List.filter_cons, List.filter_cons]
    by_cases c : f a = true
    · rw [if_pos c, if_pos (h a (List.mem_cons_self ..) c)]
      obtain ⟨x, m, gx, fx⟩ := e
      have m2 : x ∈ r := (List.mem_cons.mp m).resolve_left fun z => by rw [z, c] at fx; cases fx
      have := filter_lt hr ⟨x, m2, gx, fx⟩
      simp only [List.length_cons]; omega
    · rw [if_neg c]
      by_cases d : g a = true
      · rw [if_pos d]
        have := le hr
        simp only [List.length_cons]; omega
      · rw [if_neg d]
        obtain ⟨x, m, gx, fx⟩ := e
        have m2 : x ∈ r := (List.mem_cons.mp m).resolve_left fun z => by rw [z] at gx; exact d gx
        exact filter_lt hr ⟨x, m2, gx, fx⟩
/-- how many rules stand below a rule -/
def cntR (rk : Str → Nat) (rules : List (Str × Tr)) (z : Str) : Nat := (rules.filter fun p => decide (rk p.1 < rk z)).length
theorem cnt_lt {rk : Str → Nat} {rules : List (Str × Tr)} {y : Str × Tr} {z : Str} (m : y ∈ rules) (h : rk y.1 < rk z) : cntR rk rules y.1 < cntR rk rules z :=
  filter_lt (fun x _ e => decide_eq_true (Nat.lt_trans (of_decide_eq_true e) h)) ⟨y, m, decide_eq_true h, decide_eq_false (Nat.lt_irrefl _)⟩
theorem cnt_all {rk : Str → Nat} {rules : List (Str × Tr)} {y : Str × Tr} (m : y ∈ rules) : cntR rk rules y.1 < rules.length := by
  have := filter_lt (f := fun p : Str × Tr => decide (rk p.1 < rk y.1)) (g := fun _ => true) (l := rules) (fun _ _ _ => rfl) ⟨y, m, rfl, decide_eq_false (Nat.lt_irrefl _)⟩
  rwa [List.filter_eq_self.mpr fun _ _ => rfl] at this
theorem zip_stV {f : Str → Int} : ∀ {ns : List Str} {row : List Int}, row.length = ns.length → (∀ (k : Nat) (z : Str), ns[k]? = some z → row[k]? = some (f z)) → (ns.map (Sum.inr : Str → Key)).zip (row.map V.int) = stV (fun n => .int (f n)) ns
  | [], _, _, _ => rfl
  | z :: ns, [], e, _ => nomatch e
  | z :: ns, x :: row, e, h => by
    have h0 : some x = some (f z) := h 0 z rfl
    show (Sum.inr z, V.int x) :: _ = (Sum.inr z, V.int (f z)) :: _
    rw [Option.some.inj h0]
    congr 1
    exact zip_stV (Nat.succ.inj e) fun k y ek => h (k + 1) y ek
/-- what the law asks more of formulas -/
structure LdOk (F : Fm) : Prop where
  sd : SdOk F
  dp : ∀ p ∈ F.rules, p.2.dep ≤ 10 ∧ ∀ q ∈ p.2.leans, q.2 ≤ 6
  bf : ∀ n, (bfr F n).length ≤ 100
/-- what is told of the bells that are done -/
def DnAt (H : Hp) (dv : List V) (own : List Str) (hh : Str → Nat → Int) : Prop := ∀ b, b < dv.length → ∃ (d : Addr) (ns : List Str), dv[b]? = some (.ref d) ∧ H d = some (.dK (stV (fun n => .int (hh n b)) ns)) ∧ ∀ n, n ∈ ns ↔ n ∈ own
theorem pair_same {K : PySem.W.Frag} {H H' : Hp} (s : Same H H') {ps : List Addr} {kvs : List (Key × V)} (h : Paired (fun p kv => SqT K H p [kV kv.1, kv.2]) ps kvs) : Paired (fun p kv => SqT K H' p [kV kv.1, kv.2]) ps kvs := by
  induction h with
  | nil => exact .nil
  | cons h _ ih => exact .cons (same_seqT s h) ih
theorem stV_nodup {tf : Str → V} {ns : List Str} (nd : ns.Nodup) : ((stV tf ns).map (·.1)).Nodup := by
  unfold stV
  rw [List.map_map]
  exact List.Pairwise.map _ (fun a b h z => h (Sum.inr.inj z)) nd
section
variable {P : Program} {w : World} {K : PySem.W.Frag} {mg : Str → Option Value} {base : Heap}
def sp_law_said (K : PySem.W.Frag) : Sp := fun vs H Q _ => ∃ (r ra : Addr) (F : Fm) (rows : List (List Int)) (h : Str → Nat → Int), vs = [.ref r, .ref ra] ∧ FmAtF H r F ∧ LdOk F ∧ RsAt H ra rows ∧ (∀ x ∈ rows, x.length = F.ins.length) ∧ rows.length ≤ 100 ∧ Says F rows.length (rwF rows) h ∧
  ∀ (p : Addr) (l : List V) (H' : Hp), H p = none → H' p = some (.lst l) → All2 (RwAt H') l (toldF F h rows.length) → Same H H' → Q (.ref p) H'
theorem ok_law_said {f : Addr} {fd : FuncData} (F : Fun K "_law_said" "_law_said" s_law_said f fd) (T : Top w K mg) : FnOk P w K mg base CX0 12 f fd ["_law_formulas_here", "_law_rows"] (sp_law_said K) := by
  obtain ⟨f_law_value, fd_law_value, F_law_value, b_law_value, m_law_value⟩ := T.d_law_value
  have G_law_value := ok_law_value (P := P) (w := w) (base := base) F_law_value T
  refine F.ok sc_law_said (fun vs H Q E h => ?_) (fun cdv A outer s H vs Q E hr h => ?_)
  · obtain ⟨r, ra, F, rows, h, rfl, _⟩ := h
    rfl
  obtain ⟨r, ra, F, rows, hh, rfl, hF, okL, hrs, rlen, lrows, sy, q⟩ := h
  have ok := okL.sd
  obtain ⟨a1, a2, a3, a4, ob, wv, rv, nod, e0, e1, e2, e3, e4, e5, e6⟩ := hF
  obtain ⟨rk, hrk⟩ := ok.rk
  have li := ok.li
  have lr := ok.lr
  have lo := ok.lo
  have lrv := e5.length
  have ndi := (List.nodup_append.mp ok.nd).1
  have insO : ∀ z ∈ F.ins, z ∈ F.own := fun z hz => List.mem_append.mpr (.inl hz)
  have rulO : ∀ p ∈ F.rules, p.1 ∈ F.own := fun p hp => List.mem_append.mpr (.inr (List.mem_map.mpr ⟨p, hp, rfl⟩))
  have lown : F.own.length ≤ 100 := by
    unfold Fm.own
    rw [List.length_append, List.length_map]
    omega
  let sg : Addr → Addr → Option V → Option V → Option V → Option V → Option V → Option V → L2.St := fun tl kd v8 v9 v10 v11 v12 v13 => [some (.ref r), some (.ref ra), some (.ref a1), some (.ref a2), some (.ref a3), some (.ref a4), some (.ref tl), some (.ref kd), v8, v9, v10, v11, v12, v13, none]
  obtain ⟨ps, kvs, rfl, prd, hbf⟩ := was_dict (K := K) e3 ok.kn
  obtain ⟨wk, hwk⟩ : ∃ wk, wk = mergeK [] kvs := ⟨_, rfl⟩
  rw [← hwk] at hbf
  let R1 : TS := fun D' σ' H' => D'.rt = Q ∧ ∃ (tl kd : Addr), σ' = sg tl kd none none none none none none ∧ H tl = none ∧ H' tl = some (.lst []) ∧ H' kd = some (.dK wk) ∧ Same H H'
  let R2 : TS := fun D' σ' H' => D'.rt = Q ∧ ∃ (tl kd : Addr) (dv : List V) (v8 v9 v10 v11 v12 v13 : Option V), σ' = sg tl kd v8 v9 v10 v11 v12 v13 ∧ H' tl = some (.lst dv) ∧ dv.length = rows.length ∧ DnAt H' dv F.own hh ∧ Same H H'
  refine ⟨_, (pss_cons (ps_asg (pv 0) (pg_tupK K rfl rfl (pgs_cons (pg_name (i := 2) sc_law_said.nd rfl (Or.inl rfl)) (pgs_cons (pg_name (i := 3) sc_law_said.nd rfl (Or.inl rfl)) (pgs_cons (pg_name (i := 4) sc_law_said.nd rfl (Or.inl rfl)) (pgs_cons (pg_name (i := 5) sc_law_said.nd rfl (Or.inr rfl)) pgs_nil))))))
      (pss_cons (ps_set (i := 6) sc_law_said.nd rfl (Or.inl rfl) (pe_lst pa_nil))
      (pss_cons (ps_set (i := 7) sc_law_said.nd rfl (Or.inl rfl) (pe_callTy (call_dictPT K rfl rfl) (by rfl) T.m_dict (by decide +kernel) (pa_cons (pv 3) pa_nil)))
      (PSs.to (pss_cons (ps_for PassesOwn.never rfl (pi_or (pi_enum (by rfl) T.m_enumerate (pa_cons (pv 1) pa_nil)) (pi_enumT K rfl (by rfl) T.m_enumerate (pa_cons (pv 1) pa_nil))) (pg_tupK K rfl rfl (pgs_cons (pg_name (i := 8) sc_law_said.nd rfl (Or.inl rfl)) (pgs_cons (pg_name (i := 9) sc_law_said.nd rfl (Or.inl rfl)) pgs_nil)))
        (pss_cons (ps_expr (pe_bmK K rfl PySem.F.plainAttrs_list PySem.F.slot_list_append PySem.F.type_list_append mt_append (pv 6) (pa_cons (pe_dictZipTT K rfl rfl (by rfl) T.m_dict (by rfl) T.m_zip (pa_cons (pv 2) (pa_cons (pv 9) pa_nil))) pa_nil)))
      (pss_one (ps_for PassesOwn.never rfl (pi_tupK K rfl (pv 4)) (pg_name (i := 10) sc_law_said.nd rfl (Or.inl rfl))
        (pss_one (ps_for PassesOwn.never rfl (pi_tupK K rfl (pv 4)) (pg_tupK K rfl rfl (pgs_cons (pg_name (i := 11) sc_law_said.nd rfl (Or.inl rfl)) (pgs_cons (pg_name (i := 12) sc_law_said.nd rfl (Or.inl rfl)) pgs_nil)))
        (pss_one (ps_if (pt_cmp (pc_dnotin (hu_of hr) (pv 11) (pe_ix (ix_listK K rfl) (pv 6) (pv 8) (fun _ _ => rfl))) (by with_unfolding_all rfl)) (pss_cons (ps_set (i := 13) sc_law_said.nd rfl (Or.inl rfl) (pe_call G_law_value (hr.mono (by decide)) (by rfl) m_law_value F_law_value.kp b_law_value .nil pass0 (pa_cons (pv 12) (pa_cons (pv 8) (pa_cons (pv 6) (pa_cons (pv 7) pa_nil))))))
      (pss_one (ps_if (pt_cmpR op_notN (pv 13) pe_non (nomark _)) (pss_one (ps_dput (hu_of hr) (pe_ix (ix_listK K rfl) (pv 6) (pv 8) (fun _ _ => rfl)) (pv 11) (pv 13) (by rfl))) pss_nil))) pss_nil))))))))
      (PSs.to (pss_one (ps_ret (pe_lc (own := [("_law_now", 14)]) (g := gName 14) (tt := tYes) (by rfl) sc_law_said.nd (pi_listK K rfl (pv 6)) (blkOk_by (own := [("_law_now", 14)]) (N := N_law_said) (sc := defScope s_law_said) (by decide +kernel)) (fun _ _ _ _ _ => (pg_name (i := 14) sc_law_said.nd rfl (Or.inr rfl))) (fun _ _ _ _ _ => pts_nil) (fun _ _ _ _ _ => (pe_callTy (call_tuple_ofK K rfl) (by rfl) T.m_tuple (by decide +kernel) (pa_cons (pe_lc (own := [("_law_name", 11)]) (g := gName 11) (tt := tYes) (by rfl) sc_law_said.nd (pi_tupK K rfl (pv 5)) (blkOk_by (own := [("_law_name", 11)]) (N := N_law_said) (sc := { kind := .function, names := [(".0", .local), ("_law_now", .cell), ("tuple", .globalImplicit), ("_law_outs", .cell)], isGenerator := false, isCoroutine := false }) (by decide +kernel)) (fun _ _ _ _ _ => (pg_name (i := 11) sc_law_said.nd rfl (Or.inl rfl))) (fun _ _ _ _ _ => pts_nil) (fun _ _ _ _ _ => (pe_dget (hu_of hr) (pv 14) (pv 11) (fun _ _ => rfl)))) pa_nil)))))) R2 ?tail2)) R1 ?tail1)))), ?_⟩
  case tail2 =>
    rintro D' σ' H1 ⟨eD, tl, kd, dv, v8, v9, v10, v11, v12, v13, rfl, htl, ldv, dn, s1⟩
    refine ⟨_, rfl, tl, rfl, ⟨_, SqL.of htl⟩, fun D nD => ?_⟩
    refine lc_list (K := K) (a := tl) (xs := dv) (fun k H9 => ∃ tv, H9 D = some (.lst tv) ∧ All2 (RwAt H9) tv (toldF F hh k) ∧ Same H1 H9) ⟨[], upd_same, .nil, same_new nD⟩ (fun k H9 _ ⟨_, _, _, s9⟩ => SqL.of (s9 _ _ htl)) ?_ ?_
    · rintro k z H9 hz ⟨tv, hD, alt, s9⟩
      have kl := (List.getElem?_eq_some_iff.mp hz).1
      obtain ⟨d, ns, g1, g2, g3⟩ := dn k kl
      rw [g1] at hz
      obtain rfl := Option.some.inj hz
      have g29 := s9 _ _ g2
      refine ⟨rfl, yes_in ?_⟩
      refine ⟨_, rfl, a4, rfl, ⟨_, SqT.of (s9 _ _ (s1 _ _ e6))⟩, fun C nC => ?_⟩
      refine lc_tup (K := K) (a := a4) (xs := F.outs.map V.str) (fun m H10 => H10 C = some (.lst (((F.outs.take m).map fun z => hh z k).map V.int)) ∧ Same H9 H10) ⟨upd_same, same_new nC⟩ (fun m H10 _ ⟨_, s10⟩ => SqT.of (s10 _ _ (s9 _ _ (s1 _ _ e6)))) ?_ ?_
      · rintro m v H10 hx ⟨hC, s10⟩
        rw [List.getElem?_map] at hx
        cases hn : F.outs[m]? with
        | none => rw [hn] at hx; cases hx
        | some z =>
        rw [hn] at hx
        obtain rfl : V.str z = v := Option.some.inj hx
        have zO := (g3 z).mpr (ok.oo z (List.mem_of_getElem? hn))
        have gd : DGet H10 d (.str z) (some (.int (hh z k))) := by
          have := DGet.k (k := Sum.inr z) (s10 _ _ g29)
          rwa [stV_val, if_pos zO] at this
        refine ⟨rfl, yes_in ⟨_, rfl, _, rfl, d, _, rfl, gd, _, hC, small1000 (by rw [List.length_map, List.length_map, List.length_take]; omega), ?_, Same.own s10 nC⟩⟩
        rw [upd_same, List.take_add_one, hn, List.map_append, List.map_append]
        rfl
      rintro H10 ⟨hC, s10⟩
      rw [List.length_map, List.take_length] at hC
      refine ⟨C, _, rfl, .inl ⟨SqL.of hC, fun tp ntp => ?_⟩⟩
      have s11 : Same H10 (upd H10 tp (.tup ((F.outs.map fun z => hh z k).map V.int))) := same_new ntp
      have htp : (upd H10 tp (.tup ((F.outs.map fun z => hh z k).map V.int))) tp = some (.tup ((F.outs.map fun z => hh z k).map V.int)) := upd_same
      generalize upd H10 tp (.tup ((F.outs.map fun z => hh z k).map V.int)) = H11 at s11 htp ⊢
      have s91 := s10.trans s11
      have hD11 := s91 _ _ hD
      have ltv := alt.length
      have kk : TK H11 (upd H11 D (.lst (tv ++ [.ref tp]))) := TK.lst hD11
      refine ⟨tv, hD11, small1000 (by rw [ltv, List.length_map, List.length_range]; omega), tv ++ [.ref tp], upd_same, ?_, Same.own (s9.trans s91) nD⟩
      have e : toldF F hh (k + 1) = toldF F hh k ++ [F.outs.map fun z => hh z k] := by
        unfold toldF
        rw [List.range_succ, List.map_append]; rfl
      rw [e]
      exact (alt.imp fun _ _ u => (u.keep (TK.same s91)).keep kk).snoc ⟨tp, rfl, kk _ _ htp⟩
    rintro H9 ⟨tv, hD, alt, s9⟩
    rw [ldv] at alt
    rw [eD]
    exact q D tv H9 (same_none s1 nD) hD alt (s1.trans s9)
  case tail1 =>
    rintro D' σ' H1 ⟨eD, tl, kd, rfl, ntl, htl, hkd, s1⟩
    obtain ⟨rv2, hra, alr⟩ := hrs
    have lrv2 := alr.length
    have hk : ∀ {H5 : Hp}, Same H H5 → H5 ra = some (.lst rv2) ∨ H5 ra = some (.tup rv2) := fun s => hra.imp (s _ _) (s _ _)
    let Pv : Nat → L2.St → Hp → Prop := fun i σ H5 => ∃ (v8 v9 v10 v11 v12 v13 : Option V) (dv : List V), σ = sg tl kd v8 v9 v10 v11 v12 v13 ∧ H5 tl = some (.lst dv) ∧ dv.length = i ∧ DnAt H5 dv F.own hh ∧ Same H H5 ∧ H5 kd = some (.dK wk)
    have raE : ∀ {H5 : Hp}, Same H H5 → H5 ra = H1 ra := fun s => by rcases hra with e | e <;> rw [s _ _ e, s1 _ _ e]
    refine or_enum (p := ra) (xs := rv2) (fun Q q => ⟨_, rfl, q⟩) (hk s1) fun J gj sj yj => for_it (J := J) (n := rv2.length) Pv ⟨none, none, none, none, none, none, [], rfl, htl, rfl, (fun b hb => absurd hb (Nat.not_lt_zero _)), s1, hkd⟩ (fun i σ H5 hi ⟨_, _, _, _, _, _, _, _, _, _, _, s5, _⟩ => gj i H5 (raE s5) hi) (fun σ H5 ⟨_, _, _, _, _, _, _, _, _, _, _, s5, _⟩ => sj H5 (raE s5)) ?_ ?_
    · rintro i x σ H5 H6 hi ⟨v8, v9, v10, v11, v12, v13, dv, rfl, htl5, ldv, dn5, s5, hkd5⟩ yy
      obtain ⟨T1, y, rfl, nT, rfl, ey⟩ := yj i H5 _ _ (raE s5) yy
      obtain ⟨row, hrow, t, rfl, et⟩ := alr.getL ey
      have s6 : Same H5 (upd H5 T1 (.tup [V.int ((i : Nat) : Int), V.ref t])) := same_new nT
      have hT1 : (upd H5 T1 (.tup [V.int ((i : Nat) : Int), V.ref t])) T1 = some (.tup [V.int ((i : Nat) : Int), V.ref t]) := upd_same
      generalize upd H5 T1 (.tup [V.int ((i : Nat) : Int), V.ref t]) = H6 at s6 hT1 ⊢
      refine ⟨T1, _, rfl, SqT.of hT1, rfl, _, _, rfl, _, _, rfl, rfl, ?_⟩
      have sH6 := s5.trans s6
      have rl := rlen row (List.mem_of_getElem? hrow)
      have row_at : ∀ (k : Nat) (z : Str), F.ins[k]? = some z → row[k]? = some (hh z i) := fun k z e => by
        have kl : k < row.length := by rw [rl]; exact (List.getElem?_eq_some_iff.mp e).1
        rw [sy.inn k z i (by omega) e]
        show _ = some ((rows.getD i []).getD k 0)
        rw [List.getD_eq_getElem?_getD, List.getD_eq_getElem?_getD, hrow]
        show _ = some (row[k]?.getD 0)
        rw [List.getElem?_eq_getElem kl]
        rfl
      have htl6 := s6 _ _ htl5
      refine ⟨_, rfl, .inl ⟨rfl, _, SqL.of htl6⟩, ?_⟩
      refine ⟨_, rfl, _, rfl, a1, t, F.ins.map Sum.inr, _, rfl, SqT.of (by rw [List.map_map]; exact sH6 _ _ e1), SqT.of (sH6 _ _ et), fun d nd => ?_⟩
      have eK : mergeK [] ((F.ins.map (Sum.inr : Str → Key)).zip (row.map V.int)) = stV (fun n => .int (hh n i)) F.ins := by
        rw [zip_stV rl row_at, merge_new _ [] (stV_nodup ndi) (fun _ _ => rfl), List.nil_append]
      rw [eK]
      have s7 : Same H6 (upd H6 d (.dK (stV (fun n => .int (hh n i)) F.ins))) := same_new nd
      have hd7 : (upd H6 d (.dK (stV (fun n => .int (hh n i)) F.ins))) d = some (.dK (stV (fun n => .int (hh n i)) F.ins)) := upd_same
      have ndH : H d = none := same_none sH6 nd
      generalize upd H6 d (.dK (stV (fun n => .int (hh n i)) F.ins)) = H7 at s7 hd7 ⊢
      have htl7 := s7 _ _ htl6
      have dtl : d ≠ tl := fun z => by rw [z, htl7] at hd7; cases hd7
      refine ⟨tl, _, _, rfl, rfl, htl7, small1000 (by omega), ?_⟩
      have s67 := s6.trans s7
      have s8 : Same H (upd H7 tl (.lst (dv ++ [.ref d]))) := Same.own (sH6.trans s7) ntl
      have htl8 : (upd H7 tl (.lst (dv ++ [.ref d]))) tl = some (.lst (dv ++ [.ref d])) := upd_same
      have hd8 : (upd H7 tl (.lst (dv ++ [.ref d]))) d = some (.dK (stV (fun n => .int (hh n i)) F.ins)) := by rw [upd_ne dtl]; exact hd7
      have hkd8 : (upd H7 tl (.lst (dv ++ [.ref d]))) kd = some (.dK wk) := by
        have e := s67 _ _ hkd5
        rw [upd_ne (fun z => by rw [z, htl7] at e; cases e)]
        exact e
      have dn8 : DnAt (upd H7 tl (.lst (dv ++ [.ref d]))) dv F.own hh := fun b hb => by
        obtain ⟨d2, ns2, g1, g2, g3⟩ := dn5 b hb
        have e := s67 _ _ g2
        exact ⟨d2, ns2, g1, by rw [upd_ne (fun z => by rw [z, htl7] at e; cases e)]; exact e, g3⟩
      have old : ∀ b, b < dv.length → dv[b]? ≠ some (.ref d) := fun b hb z => by
        obtain ⟨d2, ns2, g1, g2, _⟩ := dn5 b hb
        rw [g1] at z
        have z := V.ref.inj (Option.some.inj z)
        have e := s6 _ _ g2
        rw [z, nd] at e
        cases e
      have kdd : kd ≠ d := fun z => by have e := s6 _ _ hkd5; rw [z, nd] at e; cases e
      generalize upd H7 tl (.lst (dv ++ [.ref d])) = H8 at s8 htl8 hd8 hkd8 dn8 ⊢
      have sB : ∀ {H9 : Hp}, But d H8 H9 → Same H H9 := fun B b o e => B b o (s8 b o e) (fun z => by rw [z, ndH] at e; cases e)
      let Pr : (Str × Tr → Prop) → L2.St → Hp → Prop := fun G σ H9 => ∃ (v10 v11 v12 v13 : Option V) (ns : List Str), σ = sg tl kd (some (nV i)) (some (.ref t)) v10 v11 v12 v13 ∧ H9 d = some (.dK (stV (fun n => .int (hh n i)) ns)) ∧ But d H8 H9 ∧ ns.Nodup ∧ (∀ n ∈ ns, n ∈ F.own) ∧ (∀ n ∈ F.ins, n ∈ ns) ∧ ∀ p ∈ F.rules, G p → p.1 ∈ ns
      refine ⟨_, rfl, a3, rfl, ⟨_, SqT.of (s8 _ _ e4)⟩, for_tup (K := K) (a := a3) (xs := rv) (fun m σ H9 => Pr (fun p => cntR rk F.rules p.1 < m) σ H9) ⟨v10, v11, v12, v13, F.ins, rfl, hd8, But.refl, ndi, insO, fun n hn => hn, fun p _ hp => absurd hp (Nat.not_lt_zero _)⟩ (fun m σ H9 _ ⟨_, _, _, _, _, _, _, B, _⟩ => SqT.of (sB B _ _ e4)) ?_ ?_⟩
      · rintro m y2 σ H9 hm ⟨v10, v11, v12, v13, ns, rfl, hd9, B9, nns, nso, nsi, nsr⟩
        refine ⟨_, rfl, a3, rfl, ⟨_, SqT.of (sB B9 _ _ e4)⟩, for_tup (K := K) (a := a3) (xs := rv) (fun j σ H9 => Pr (fun p => cntR rk F.rules p.1 < m ∨ (cntR rk F.rules p.1 < m + 1 ∧ p ∈ F.rules.take j)) σ H9) ⟨_, v11, v12, v13, ns, rfl, hd9, B9, nns, nso, nsi, fun p hp g => nsr p hp (g.resolve_right fun z => by have := z.2; rw [List.take_zero] at this; cases this)⟩ (fun m σ H9 _ ⟨_, _, _, _, _, _, _, B, _⟩ => SqT.of (sB B _ _ e4)) ?_ ?_⟩
        · rintro j y3 σ H10 hj ⟨v10, v11, v12, v13, ns, rfl, hd10, B10, nns, nso, nsi, nsr⟩
          obtain ⟨p, hp, hpx⟩ := e5.getL hj
          have pm := List.mem_of_getElem? hp
          obtain ⟨a, x, rfl, ea, hx⟩ := hpx.keep (TK.same (sB B10))
          have tk : F.rules.take (j + 1) = F.rules.take j ++ [p] := by rw [List.take_add_one, hp]; rfl
          obtain ⟨t1, t2, t3⟩ := ok.tr p pm
          obtain ⟨t4, t5⟩ := okL.dp p pm
          have htl10 := B10 _ _ htl8 dtl.symm
          have hat : atI (dv ++ [V.ref d]) ((i : Nat) : Int) = some (.ref d) := atI_nat (by rw [List.getElem?_append_right (by omega), ldv, Nat.sub_self]; rfl)
          have lns : ns.length ≤ 100 := Nat.le_trans (few_in nns nso) lown
          refine ⟨a, _, rfl, SqT.of ea, rfl, _, _, rfl, _, _, rfl, rfl, ?_⟩
          have gd := DGet.k (k := Sum.inr p.1) hd10
          rw [stV_val] at gd
          have more : ∀ (ns2 : List Str), (∀ n ∈ ns, n ∈ ns2) → ((cntR rk F.rules p.1 < m ∨ cntR rk F.rules p.1 < m + 1) → p.1 ∈ ns2) → ∀ p2 ∈ F.rules, (cntR rk F.rules p2.1 < m ∨ (cntR rk F.rules p2.1 < m + 1 ∧ p2 ∈ F.rules.take (j + 1))) → p2.1 ∈ ns2 := fun ns2 sub now p2 h2 g => by
            rcases g with g | ⟨g1, g2⟩
            · exact sub _ (nsr p2 h2 (.inl g))
            · rw [tk] at g2
              rcases List.mem_append.mp g2 with g2 | g2
              · exact sub _ (nsr p2 h2 (.inr ⟨g1, g2⟩))
              · rw [List.mem_singleton.mp g2] at g1 ⊢
                exact now (.inr g1)
          by_cases c1 : p.1 ∈ ns
          · rw [if_pos c1] at gd
            refine ⟨_, rfl, _, rfl, _, rfl, tl, _, ((i : Nat) : Int), .ref d, rfl, rfl, SqL.of htl10, hat, d, _, rfl, gd, _, rfl, if_bl (fun z => nomatch z) (fun _ => ?_)⟩
            exact ⟨_, _, _, _, ns, rfl, hd10, B10, nns, nso, nsi, more ns (fun _ h => h) fun _ => c1⟩
          rw [if_neg c1] at gd
          refine ⟨_, rfl, _, rfl, _, rfl, tl, _, ((i : Nat) : Int), .ref d, rfl, rfl, SqL.of htl10, hat, d, _, rfl, gd, _, rfl, if_bl (fun _ => ?_) (fun z => nomatch z)⟩
          obtain ⟨cell, hcell⟩ : ∃ cell : Nat → Str → Option Int, cell = fun b n => if b < i then (if n ∈ F.own then some (hh n b) else none) else (if n ∈ ns then some (hh n i) else none) := ⟨_, rfl⟩
          have ce : CeAt H10 (dv ++ [V.ref d]) cell := fun b hb => by
            by_cases c : b < dv.length
            · obtain ⟨d2, ns2, g1, g2, g3⟩ := dn8 b c
              have ne : d2 ≠ d := fun z => old b c (by rw [g1, z])
              refine ⟨d2, _, by rw [List.getElem?_append_left c]; exact g1, B10 _ _ g2 ne, fun n => ?_⟩
              rw [stV_val, hcell]
              show _ = Option.map V.int (if b < i then _ else _)
              rw [if_pos (show b < i by omega)]
              by_cases c2 : n ∈ F.own
              · rw [if_pos c2, if_pos ((g3 n).mpr c2)]; rfl
              · rw [if_neg c2, if_neg fun z => c2 ((g3 n).mp z)]; rfl
            · rw [List.length_append] at hb
              have hb : b < dv.length + 1 := hb
              obtain rfl : b = i := by omega
              refine ⟨d, _, by rw [List.getElem?_append_right (by omega), ldv, Nat.sub_self]; rfl, hd10, fun n => ?_⟩
              rw [stV_val, hcell]
              show _ = Option.map V.int (if b < b then _ else _)
              rw [if_neg (Nat.lt_irrefl _)]
              split <;> rfl
          have lk : ∀ q ∈ p.2.leans, ∀ x, lookL F cell i q.1 q.2 = some x → x = lookF F hh i q.1 q.2 := fun q hq x ex => by
            have qO := t3 q hq
            unfold lookL at ex
            unfold lookF
            by_cases c : q.2 ≤ i
            · rw [if_pos c] at ex ⊢
              rw [hcell] at ex
              replace ex : (if i - q.2 < i then (if q.1 ∈ F.own then some (hh q.1 (i - q.2)) else none) else (if q.1 ∈ ns then some (hh q.1 i) else none)) = some x := ex
              by_cases c2 : i - q.2 < i
              · rw [if_pos c2, if_pos qO] at ex
                exact (Option.some.inj ex).symm
              · rw [if_neg c2] at ex
                have : i - q.2 = i := by omega
                rw [this]
                by_cases c3 : q.1 ∈ ns
                · rw [if_pos c3] at ex
                  exact (Option.some.inj ex).symm
                · rw [if_neg c3] at ex; cases ex
            · rw [if_neg c] at ex ⊢
              exact (Option.some.inj ex).symm
          have hbf10 : BfAt H10 wk F := hbf.keep (TK.same (sB B10))
          refine ⟨_, rfl, _, rfl, _, rfl, _, rfl, x, p.2, i, tl, kd, dv ++ [.ref d], wk, F, cell, rfl, hx, t4, t2, t5, htl10, by rw [List.length_append, ldv]; rfl, ce, B10 _ _ hkd8 kdd, hbf10, okL.bf, fun H11 s11 => ?_⟩
          cases e : p.2.valO (lookL F cell i) with
          | none =>
            refine ⟨_, rfl, rfl, _, rfl, if_bl (fun z => nomatch z) (fun _ => ?_)⟩
            refine ⟨_, _, _, _, ns, rfl, s11 _ _ hd10, B10.same s11, nns, nso, nsi, more ns (fun _ h => h) fun g => ?_⟩
            exfalso
            refine valO_ne p.2 (fun q hq z => ?_) e
            have qO := t3 q hq
            unfold lookL at z
            by_cases c : q.2 ≤ i
            · rw [if_pos c, hcell] at z
              replace z : (if i - q.2 < i then (if q.1 ∈ F.own then some (hh q.1 (i - q.2)) else none) else (if q.1 ∈ ns then some (hh q.1 i) else none)) = none := z
              by_cases c2 : i - q.2 < i
              · rw [if_pos c2, if_pos qO] at z; cases z
              · rw [if_neg c2] at z
                have c3 : q.1 ∈ ns := by
                  rcases List.mem_append.mp qO with h | h
                  · exact nsi _ h
                  · obtain ⟨p2, h2, e2⟩ := List.mem_map.mp h
                    by_cases q0 : q.2 = 0
                    · have lt := hrk p pm q hq q0
                      rw [← e2] at lt ⊢
                      have := cnt_lt (z := p.1) h2 lt
                      exact nsr p2 h2 (.inl (by omega))
                    · have h5 := t5 q hq
                      by_cases i0 : i = 0
                      · omega
                      · omega
                rw [if_pos c3] at z; cases z
            · rw [if_neg c] at z; cases z
          | some v =>
            have ev : v = hh p.1 i := by
              rw [sy.rul p pm i (by omega)]
              exact valO_some p.2 lk v e
            subst ev
            refine ⟨_, rfl, rfl, _, rfl, if_bl (fun _ => ?_) (fun z => nomatch z)⟩
            have hd11 := s11 _ _ hd10
            refine ⟨_, rfl, _, rfl, _, rfl, tl, _, ((i : Nat) : Int), .ref d, rfl, rfl, SqL.of (s11 _ _ htl10), hat, _, rfl, d, _, rfl, DPut.k (k := Sum.inr p.1) hd11 (by unfold stV; rw [List.length_map]; exact small1000 (by omega)), ?_⟩
            have pe : putK (stV (fun n => V.int (hh n i)) ns) (Sum.inr p.1) (onI (some (hh p.1 i))) = stV (fun n => V.int (hh n i)) (ns ++ [p.1]) := by
              rw [stV_put _ c1]
              refine List.map_congr_left fun y _ => ?_
              show ((Sum.inr y : Key), (if y = p.1 then V.int (hh p.1 i) else V.int (hh y i))) = (Sum.inr y, V.int (hh y i))
              by_cases z : y = p.1
              · rw [if_pos z, z]
              · rw [if_neg z]
            rw [pe]
            refine ⟨_, _, _, _, ns ++ [p.1], rfl, upd_same, (B10.same s11).upd, ?_, fun n hn => ?_, fun n hn => List.mem_append.mpr (.inl (nsi n hn)), more _ (fun _ h => List.mem_append.mpr (.inl h)) fun _ => List.mem_append.mpr (.inr (List.mem_singleton.mpr rfl))⟩
            · exact List.nodup_append.mpr ⟨nns, by simp, fun a ha b hb e => c1 (by rw [List.mem_singleton.mp hb] at e; rw [← e]; exact ha)⟩
            · rcases List.mem_append.mp hn with h | h
              · exact nso n h
              · rw [List.mem_singleton.mp h]; exact rulO p pm
        · rintro σ H10 ⟨v10, v11, v12, v13, ns, rfl, hd10, B10, nns, nso, nsi, nsr⟩
          rw [lrv, List.take_length] at nsr
          exact ⟨_, _, _, _, ns, rfl, hd10, B10, nns, nso, nsi, fun p hp g => nsr p hp (.inr ⟨g, hp⟩)⟩
      · rintro σ H9 ⟨v10, v11, v12, v13, ns, rfl, hd9, B9, nns, nso, nsi, nsr⟩
        rw [lrv] at nsr
        refine ⟨_, _, _, _, _, _, dv ++ [.ref d], rfl, B9 _ _ htl8 dtl.symm, by rw [List.length_append, ldv]; rfl, fun b hb => ?_, sB B9, B9 _ _ hkd8 kdd⟩
        by_cases c : b < dv.length
        · obtain ⟨d2, ns2, g1, g2, g3⟩ := dn8 b c
          have ne : d2 ≠ d := fun z => old b c (by rw [g1, z])
          exact ⟨d2, ns2, by rw [List.getElem?_append_left c]; exact g1, B9 _ _ g2 ne, g3⟩
        · rw [List.length_append] at hb
          have hb : b < dv.length + 1 := hb
          obtain rfl : b = i := by omega
          refine ⟨d, ns, by rw [List.getElem?_append_right (by omega), ldv, Nat.sub_self]; rfl, hd9, fun n => ⟨nso n, fun hn => ?_⟩⟩
          rcases List.mem_append.mp hn with h | h
          · exact nsi n h
          · obtain ⟨p, hp, rfl⟩ := List.mem_map.mp h
            exact nsr p hp (cnt_all hp)
    · rintro σ H5 ⟨v8, v9, v10, v11, v12, v13, dv, rfl, htl5, ldv, dn5, s5, hkd5⟩
      exact ⟨eD, tl, kd, dv, v8, v9, v10, v11, v12, v13, rfl, htl5, by rw [ldv, lrv2], dn5, s5⟩
  refine ⟨_, rfl, r, _, rfl, SqT.of e0, rfl, _, _, rfl, _, _, rfl, _, _, rfl, _, _, rfl, rfl, ?_⟩
  refine ⟨(by show 0 ≤ sizeLine; decide), fun tl ntl => ?_⟩
  have s0 : Same H (upd H tl (.lst [])) := same_new ntl
  have htl : (upd H tl (.lst [])) tl = some (.lst []) := upd_same
  generalize upd H tl (.lst []) = H0 at s0 htl ⊢
  refine ⟨_, rfl, a2, ob, ps, kvs, rfl, nod, s0 _ _ e2, pair_same s0 prd, fun bd nbd => ?_⟩
  have s1 : Same H0 (upd H0 bd (.dK (mergeK [] kvs))) := same_new nbd
  refine ⟨rfl, tl, bd, rfl, ntl, s1 _ _ htl, by rw [hwk]; exact upd_same, s0.trans s1⟩
end
/-! ### what is told, as data -/
theorem h_small {most : Nat} {F : Fm} (g : GFm most F) (m5 : most ≤ 5) {N : Nat} {rw : Nat → Nat → Int} {h : Str → Nat → Int} (sy : Says F N rw h) (sr : ∀ b i, (rw b i).natAbs ≤ 1000000) : ∀ (b : Nat), b < N → ∀ (n : Str), n ∈ F.own → (h n b).natAbs ≤ 10 ^ (6 + 50 * (b + 1)) := by
  obtain ⟨rk, hrk⟩ := g.rk
  have lr := g.lr
  have mono : ∀ {a c : Nat}, a ≤ c → (10 : Nat) ^ a ≤ 10 ^ c := fun h => Nat.pow_le_pow_right (by decide) h
  have six : (1000000 : Nat) = 10 ^ 6 := by decide
  have bf : ∀ (n : Str) (j : Nat), ((bfr F n).getD j 0).natAbs ≤ 1000000 := fun n j => by
    unfold bfr
    split
    · rename_i p e
      have pm := List.mem_of_find?_eq_some e
      rw [List.getD_eq_getElem?_getD]
      cases c : p.2[j]? with
      | none => decide
      | some x =>
        have := (g.th p pm).2 x (List.mem_of_getElem? c)
        unfold Small at this
        show x.natAbs ≤ _
        omega
    · rw [List.getD_eq_getElem?_getD, List.getElem?_nil]; decide
  intro b
  induction b using Nat.strongRecOn with
  | _ b ihb =>
  intro bN
  have hin : ∀ n ∈ F.ins, (h n b).natAbs ≤ 1000000 := fun n hn => by
    obtain ⟨i, ei⟩ := List.getElem?_of_mem hn
    rw [sy.inn i n b bN ei]
    exact sr b i
  have rule : ∀ (c : Nat) (p : Str × Tr), p ∈ F.rules → cntR rk F.rules p.1 = c → (h p.1 b).natAbs ≤ 10 ^ (6 + 50 * b + 10 * (c + 1)) := by
    intro c
    induction c using Nat.strongRecOn with
    | _ c ihc =>
    intro p hp ec
    obtain ⟨t1, t2, t3⟩ := g.tr p hp
    rw [sy.rul p hp b bN]
    have key := val_grows (look := lookF F h b) (M := 10 ^ (6 + 50 * b + 10 * c)) (by rw [six]; exact mono (by omega)) t2 fun q hq => by
      obtain ⟨qO, q6⟩ := t3 q hq
      unfold lookF
      by_cases k : q.2 ≤ b
      · rw [if_pos k]
        by_cases q0 : q.2 = 0
        · rw [q0, Nat.sub_zero]
          rcases List.mem_append.mp qO with m | m
          · exact Nat.le_trans (hin _ m) (by rw [six]; exact mono (by omega))
          · obtain ⟨p2, h2, e2⟩ := List.mem_map.mp m
            have lt := hrk p hp q hq q0
            rw [← e2] at lt ⊢
            have cl := cnt_lt (z := p.1) h2 lt
            rw [ec] at cl
            exact Nat.le_trans (ihc _ cl p2 h2 rfl) (mono (by omega))
        · exact Nat.le_trans (ihb (b - q.2) (by omega) (by omega) q.1 qO) (mono (by omega))
      · rw [if_neg k]
        exact Nat.le_trans (bf _ _) (by rw [six]; exact mono (by omega))
    refine Nat.le_trans key ?_
    rw [← Nat.pow_add]
    exact mono (by omega)
  intro n hn
  rcases List.mem_append.mp hn with m | m
  · exact Nat.le_trans (hin n m) (by rw [six]; exact mono (by omega))
  · obtain ⟨p, hp, rfl⟩ := List.mem_map.mp m
    have := cnt_all (rk := rk) hp
    exact Nat.le_trans (rule _ p hp rfl) (mono (by omega))
abbrev rowsD (m : List (List Int)) : PyData := .list (m.map fun r => .tuple (r.map PyData.int))
/-- rows of numbers that can be shown -/
theorem rows_say {m : List (List Int)} (l1 : m.length ≤ 20) (l2 : ∀ r ∈ m, r.length ≤ 20 ∧ ∀ x ∈ r, x.natAbs ≤ 10 ^ 506) : SayD (rowsD m) := by
  have big : ∀ x : Int, x.natAbs ≤ 10 ^ 506 → x.natAbs.log2 < 1920 ∧ (PyData.shown (.int x)).length ≤ 508 := fun x hx => by
    refine ⟨?_, ?_⟩
    · by_cases z : x.natAbs = 0
      · rw [z]; decide
      · exact (Nat.log2_lt z).mpr (Nat.lt_of_le_of_lt hx (by decide +kernel))
    · have e := PySem.int_text_length_le10 (a := x) (k := 507) (by decide) (Nat.lt_of_le_of_lt hx (by decide +kernel))
      show (Str.ofString (toString x)).length ≤ 508
      rw [PySem.ofString_length]
      exact e
  have intsH : ∀ r : List Int, (∀ x ∈ r, x.natAbs ≤ 10 ^ 506) → PyData.showableAll (r.map PyData.int) = true ∧ PyData.hasDictAll (r.map PyData.int) = false ∧ PyData.depthAll (r.map PyData.int) ≤ 1 ∧ ((PyData.shownAll (r.map PyData.int)).map (·.length)).sum ≤ 508 * r.length := by
    intro r
    induction r with
    | nil => intro _; exact ⟨by simp [PyData.showableAll], by simp [PyData.hasDictAll], by simp [PyData.depthAll], by simp [PyData.shownAll]⟩
    | cons x r ih =>
      intro h
      obtain ⟨i1, i2, i3, i4⟩ := ih fun y hy => h y (List.mem_cons_of_mem _ hy)
      obtain ⟨b1, b2⟩ := big x (h x (List.mem_cons_self ..))
      refine ⟨?_, ?_, ?_, ?_⟩
      · simp only [List.map_cons, PyData.showableAll, PyData.showable, i1, Bool.and_true, decide_eq_true_eq]
        exact b1
      · simp only [List.map_cons, PyData.hasDictAll, PyData.hasDict, i2, Bool.or_false]
      · simp only [List.map_cons, PyData.depthAll, PyData.depth]
        omega
      · simp only [List.map_cons, PyData.shownAll, List.sum_cons, List.length_cons]
        omega
  have rows : ∀ m : List (List Int), (∀ r ∈ m, r.length ≤ 20 ∧ ∀ x ∈ r, x.natAbs ≤ 10 ^ 506) → PyData.showableAll (m.map fun r => .tuple (r.map PyData.int)) = true ∧ PyData.hasDictAll (m.map fun r => .tuple (r.map PyData.int)) = false ∧ PyData.depthAll (m.map fun r => .tuple (r.map PyData.int)) ≤ 2 ∧ ((PyData.shownAll (m.map fun r => .tuple (r.map PyData.int))).map (·.length)).sum ≤ 11000 * m.length := by
    intro m
    induction m with
    | nil => intro _; exact ⟨by simp [PyData.showableAll], by simp [PyData.hasDictAll], by simp [PyData.depthAll], by simp [PyData.shownAll]⟩
    | cons r m ih =>
      intro h
      obtain ⟨i1, i2, i3, i4⟩ := ih fun y hy => h y (List.mem_cons_of_mem _ hy)
      obtain ⟨h1, h2⟩ := h r (List.mem_cons_self ..)
      obtain ⟨b1, b2, b3, b4⟩ := intsH r h2
      have h3 := tupleText_len_le (PyData.shownAll (r.map PyData.int))
      have h4 := PyData.shownAll_length (r.map PyData.int)
      rw [List.length_map] at h4
      refine ⟨?_, ?_, ?_, ?_⟩
      · simp only [List.map_cons, PyData.showableAll, PyData.showable, i1, b1, Bool.and_true]
      · simp only [List.map_cons, PyData.hasDictAll, PyData.hasDict, i2, b2, Bool.or_false]
      · simp only [List.map_cons, PyData.depthAll, PyData.depth]
        omega
      · simp only [List.map_cons, PyData.shownAll, PyData.shown, List.sum_cons, List.length_cons]
        omega
  obtain ⟨i1, i2, i3, i4⟩ := rows m l2
  refine ⟨by simp only [rowsD, PyData.showable]; exact i1, by simp only [rowsD, PyData.hasDict]; exact i2, by simp only [rowsD, PyData.depth]; omega, ?_⟩
  have h3 := listText_len_le (PyData.shownAll (m.map fun r => .tuple (r.map PyData.int)))
  have h4 := PyData.shownAll_length (m.map fun r : List Int => PyData.tuple (r.map PyData.int))
  rw [List.length_map] at h4
  simp only [rowsD, PyData.shown]
  rw [sizeLine_eq]
  omega
theorem FmAtF.ext {H H' : Hp} {r : Addr} {F : Fm} (h : FmAtF H r F) (x : LamX.ExtN H H') : FmAtF H' r F := by
  obtain ⟨a1, a2, a3, a4, ob, wv, rv, d, e0, e1, e2, e3, e4, e5, e6⟩ := h
  have k := tk_ext x
  exact ⟨a1, a2, a3, a4, ob, wv, rv, d, k _ _ e0, k _ _ e1, x _ _ e2 (fun ps z => nomatch z), e3.imp fun _ _ z => z.keep k, k _ _ e4, e5.imp fun _ _ z => z.keep k, k _ _ e6⟩
theorem FmAtF.but {f : Addr} {H H' : Hp} {r : Addr} {F : Fm} {c : Addr} (h : FmAtF H r F) (hF : Flow H f c) (x : But f H H') : FmAtF H' r F := by
  obtain ⟨a1, a2, a3, a4, ob, wv, rv, d, e0, e1, e2, e3, e4, e5, e6⟩ := h
  have k := TK.but hF x
  have ne : a2 ≠ f := fun z => by
    obtain ⟨ns, i, p, q, r, g, _⟩ := hF
    rw [z, g] at e2; cases e2
  exact ⟨a1, a2, a3, a4, ob, wv, rv, d, k _ _ e0, k _ _ e1, x _ _ e2 ne, e3.imp fun _ _ z => z.keep k, k _ _ e4, e5.imp fun _ _ z => z.keep k, k _ _ e6⟩
theorem FmAtF.dp {K : PySem.W.Frag} {H : Hp} {r : Addr} {F : Fm} (h : FmAtF H r F) : Dp K H (.ref r) (fmD F) := by
  obtain ⟨a1, a2, a3, a4, ob, wv, rv, d, e0, e1, e2, e3, e4, e5, e6⟩ := h
  exact .tup (SqT.of e0) (.cons (.tup (SqT.of e1) (dp_strs _)) (.cons (.tup (SqT.fz e2) (was_dp e3)) (.cons (.tup (SqT.of e4) (rls_dp e5)) (.cons (.tup (SqT.of e6) (dp_strs _)) .nil))))
theorem rws_dp {K : PySem.W.Frag} {H : Hp} {vs : List V} {m : List (List Int)} (a : All2 (RwAt H) vs m) : DpAll K H vs (m.map fun r => .tuple (r.map PyData.int)) := by
  induction a with
  | nil => exact .nil
  | cons h t ih =>
    obtain ⟨p, rfl, e⟩ := h
    exact .cons (.tup (SqT.of e) (dp_ints _)) ih
theorem GFm.ldok {most : Nat} {F : Fm} (g : GFm most F) (m : most ≤ 5) : LdOk F := by
  have li := g.li
  have lr := g.lr
  have lo := g.lo
  refine ⟨⟨by omega, by omega, by omega, g.nd, g.kn, g.oo, fun p hp => ?_, g.rk⟩, fun p hp => ?_, fun n => ?_⟩
  · obtain ⟨t1, t2, t3⟩ := g.tr p hp
    exact ⟨by omega, t2, fun q hq => (t3 q hq).1⟩
  · obtain ⟨t1, t2, t3⟩ := g.tr p hp
    exact ⟨Nat.le_trans p.2.dep_parts t1, fun q hq => (t3 q hq).2⟩
  · unfold bfr
    split
    · rename_i p e
      have := (g.th p (List.mem_of_find?_eq_some e)).1
      omega
    · exact Nat.zero_le _
theorem GFm.neat {most : Nat} {F : Fm} (g : GFm most F) (m : most ≤ 5) : Neat (fmD F) 15 250000 := by
  have ow : ∀ z ∈ F.own, Nm z := fun z hz => (g.wd z hz).1.nm (by decide)
  refine fm_neat ⟨by have := g.li; omega, by have := g.lw; omega, by have := g.lr; omega, by have := g.lo; omega, fun p hp => by have := (g.tr p hp).1; omega⟩ ⟨fun z hz => ow z (List.mem_append.mpr (.inl hz)), fun z hz => ow z (g.oo z hz), fun p hp => ⟨ow _ (g.ko _ (List.mem_map.mpr ⟨p, hp, rfl⟩)), ?_, (g.th p hp).2⟩, fun p hp => ⟨ow _ (List.mem_append.mpr (.inr (List.mem_map.mpr ⟨p, hp, rfl⟩))), (g.tr p hp).2.1, fun q hq => ?_, (g.tr p hp).1⟩⟩
  · have := (g.th p hp).1; omega
  · obtain ⟨h1, h2⟩ := (g.tr p hp).2.2 q hq
    exact ⟨ow _ h1, by omega⟩
theorem All2.tkN {α β : Type} {R : α → β → Prop} : ∀ {as : List α} {bs : List β}, All2 R as bs → ∀ n, All2 R (as.take n) (bs.take n)
  | _, _, .nil, n => by rw [List.take_nil, List.take_nil]; exact .nil
  | _, _, .cons _ _, 0 => .nil
  | _, _, .cons h t, n + 1 => .cons h (t.tkN n)
section
variable {P : Program} {w : World} {K : PySem.W.Frag} {mg : Str → Option Value} {base : Heap}
def sp_law_comes (K : PySem.W.Frag) : Sp := fun vs H Q _ => ∃ (f c r : Addr) (F : Fm) (m : Nat), vs = [.ref f, .ref r, nV m] ∧ FmAtF H r F ∧ F.ins.length ≤ 20 ∧ m ≤ 20 ∧ Flow H f c ∧ ∀ (p : Addr) (l : List V) (rows : List (List Int)) (H' : Hp), H p = none → H' p = some (.lst l) → All2 (RwAt H') l rows → rows.length = m → (∀ x ∈ rows, x.length = F.ins.length ∧ ∀ y ∈ x, Small y) → Flow H' f c → But f H H' → Q (.ref p) H'
theorem ok_law_comes {f : Addr} {fd : FuncData} (F : Fun K "_law_comes" "_law_comes" s_law_comes f fd) (T : Top w K mg) : FnOk P w K mg base CX0 3 f fd ["_law_flow_here", "_law_formulas_here", "_law_many"] (sp_law_comes K) := by
  obtain ⟨f_law_thing, fd_law_thing, F_law_thing, b_law_thing, m_law_thing⟩ := T.d_law_thing
  have G_law_thing := ok_law_thing (P := P) (w := w) (base := base) F_law_thing T
  refine F.ok sc_law_comes (fun vs H Q E h => ?_) (fun cdv A outer s H vs Q E hr h => ?_)
  · obtain ⟨f, c, r, F, m, rfl, _⟩ := h
    rfl
  obtain ⟨f, c, r, F, m, rfl, hF, li, lm, hFl, q⟩ := h
  obtain ⟨a1, a2, a3, a4, ob, wv, rv, nod, e0, e1, _⟩ := hF
  have ef : a1 ≠ f := hFl.tup e1
  have rf : r ≠ f := hFl.tup e0
  refine ⟨_, (pss_one (ps_ret (pe_lc (own := [("_law_k", 4)]) (g := gName 4) (tt := tYes) (by rfl) sc_law_comes.nd (pi_range1 (by rfl) T.m_range (pa_cons (pv 2) pa_nil)) (blkOk_by (own := [("_law_k", 4)]) (N := N_law_comes) (sc := defScope s_law_comes) (by decide +kernel)) (fun _ _ _ _ _ => (pg_name (i := 4) sc_law_comes.nd rfl (Or.inl rfl))) (fun _ _ _ _ _ => pts_nil) (fun _ _ _ _ _ => (pe_callTy (call_tuple_ofK K rfl) (by rfl) T.m_tuple (by decide +kernel) (pa_cons (pe_lc (own := [("_law_name", 3)]) (g := gName 3) (tt := tYes) (by rfl) sc_law_comes.nd (pi_tupK K rfl (pe_ix (ix_tupK K rfl) (pv 1) pe_int (fun _ _ => rfl))) (blkOk_by (own := [("_law_name", 3)]) (N := N_law_comes) (sc := { kind := .function, names := [(".0", .local), ("_law_k", .local), ("tuple", .globalImplicit), ("_law_flow_here", .cell), ("_law_formulas_here", .cell)], isGenerator := false, isCoroutine := false }) (by decide +kernel)) (fun _ _ _ _ _ => (pg_name (i := 3) sc_law_comes.nd rfl (Or.inl rfl))) (fun _ _ _ _ _ => pts_nil) (fun _ _ _ _ _ => (pe_call G_law_thing (hr.mono (by decide)) (by rfl) m_law_thing F_law_thing.kp b_law_thing .nil pass0 (pa_cons (pv 0) pa_nil)))) pa_nil)))))), ?_⟩
  refine ⟨_, rfl, _, rfl, by omega, by omega, fun D nD => ?_⟩
  have Df : D ≠ f := hFl.ne nD
  have Dc : D ≠ c := hFl.nec nD
  refine lc_range (lo := 0) (n := ((m : Nat) : Int).toNat) (fun k H9 => ∃ (l : List V) (rows : List (List Int)), H9 D = some (.lst l) ∧ All2 (RwAt H9) l rows ∧ rows.length = k ∧ (∀ x ∈ rows, x.length = F.ins.length ∧ ∀ y ∈ x, Small y) ∧ Flow H9 f c ∧ But f H H9) ⟨[], [], upd_same, .nil, rfl, (fun _ y => by cases y), hFl.new nD, But.refl.new nD⟩ ?_ ?_
  · rintro k H9 hk ⟨l, rows, hD, al, lr, ok, F9, B9⟩
    have km : k < m := by omega
    refine ⟨rfl, yes_in ?_⟩
    refine ⟨_, rfl, r, _, _, _, rfl, rfl, SqT.of (B9 _ _ e0 rf), atI_nat (j := 0) rfl, a1, rfl, ⟨_, SqT.of (B9 _ _ e1 ef)⟩, fun C nC => ?_⟩
    have Cf : C ≠ f := F9.ne nC
    have Cc : C ≠ c := F9.nec nC
    have CD : C ≠ D := fun z => by rw [z, hD] at nC; cases nC
    refine lc_tup (K := K) (a := a1) (xs := F.ins.map V.str) (fun j H10 => ∃ xs : List Int, H10 C = some (.lst (xs.map V.int)) ∧ xs.length = j ∧ (∀ y ∈ xs, Small y) ∧ Flow H10 f c ∧ But f H9 H10) ⟨[], upd_same, rfl, (fun _ y => by cases y), F9.new nC, But.refl.new nC⟩ (fun j H10 _ ⟨_, _, _, _, _, B⟩ => SqT.of (B _ _ (B9 _ _ e1 ef) ef)) ?_ ?_
    · rintro j v H10 hx ⟨xs, hC, lx, sx, F10, B10⟩
      have jl := (List.getElem?_eq_some_iff.mp hx).1
      rw [List.length_map] at jl
      refine ⟨rfl, yes_in ⟨_, rfl, f, c, rfl, F10, fun y H11 sy F11 B11 => ?_⟩⟩
      refine ⟨_, B11 _ _ hC Cf, by rw [List.length_map]; exact small1000 (by omega), xs ++ [y], by rw [upd_same, List.map_append]; rfl, by rw [List.length_append, lx]; rfl, fun z hz => ?_, F11.lst Cf Cc, (B10.trans B11).own nC⟩
      rcases List.mem_append.mp hz with h | h
      · exact sx z h
      · rw [List.mem_singleton.mp h]; exact sy
    rintro H10 ⟨xs, hC, lx, sx, F10, B10⟩
    rw [List.length_map] at lx
    refine ⟨C, _, rfl, .inl ⟨SqL.of hC, fun tp ntp => ?_⟩⟩
    have s11 : Same H10 (upd H10 tp (.tup (xs.map V.int))) := same_new ntp
    have htp : (upd H10 tp (.tup (xs.map V.int))) tp = some (.tup (xs.map V.int)) := upd_same
    have F11 := F10.new (o := .tup (xs.map V.int)) ntp
    generalize upd H10 tp (.tup (xs.map V.int)) = H11 at s11 htp F11 ⊢
    have hD11 := s11 _ _ (B10 _ _ hD Df)
    have B11 := B10.same s11
    have k1 : TK H9 H11 := TK.but F9 B11
    have k2 : TK H11 (upd H11 D (.lst (l ++ [.ref tp]))) := TK.lst hD11
    have ll := al.length
    refine ⟨l, hD11, small1000 (by omega), l ++ [.ref tp], rows ++ [xs], upd_same, (al.imp fun _ _ z => (z.keep k1).keep k2).snoc ⟨tp, rfl, k2 _ _ htp⟩, by rw [List.length_append, lr]; rfl, fun x hx => ?_, F11.lst Df Dc, (B9.trans B11).own nD⟩
    rcases List.mem_append.mp hx with h | h
    · exact ok x h
    · rw [List.mem_singleton.mp h]; exact ⟨lx, sx⟩
  · rintro H9 ⟨l, rows, hD, al, lr, ok, F9, B9⟩
    exact q D l rows H9 nD hD al (by omega) ok F9 B9
variable {cH PT : Addr} [TH : TabH K mg base cH PT]
include TH
def sp_law_right (K : PySem.W.Frag) (PT : Addr) : Sp := fun vs H Q _ => ∃ (r ra : Addr) (F : Fm) (most many : Nat) (rows : List (List Int)), vs = [.ref r, .ref ra, nV many] ∧ FmAtF H r F ∧ GFm most F ∧ most ≤ 5 ∧ RsAt H ra rows ∧ (∀ x ∈ rows, x.length = F.ins.length ∧ ∀ y ∈ x, Small y) ∧ rows.length ≤ 10 ∧ many ≤ rows.length ∧ GxR.TabG H PT ∧ ∀ H', LamX.ExtN H H' → GxR.TabG H' PT → Q (.bl true) H'
theorem ok_law_right {f : Addr} {fd : FuncData} (F : Fun K "_law_right" "_law_right" s_law_right f fd) (T : Top w K mg) : FnG P w K mg base CX0 13 f fd ["_law_formulas_here", "_law_rows", "_law_many"] (sp_law_right K PT) := by
  obtain ⟨f_law_said, fd_law_said, F_law_said, b_law_said, m_law_said⟩ := T.d_law_said
  have G_law_said := ok_law_said (P := P) (w := w) (base := base) F_law_said T
  obtain ⟨f_said, fd_said, F_said, b_said, m_said⟩ := T.d_said
  have G_said := ok_said (P := P) (w := w) (base := base) F_said T
  refine Fun.okG F sc_law_right (fun vs H Q E h => ?_) (fun cdv A outer s H vs Q E hr hG h => ?_)
  · obtain ⟨r, ra, F, most, many, rows, rfl, _⟩ := h
    rfl
  obtain ⟨r, ra, F, most, many, rows, rfl, hF, g, m5, hR, ok, lr, lm, tg, q⟩ := h
  have ld := g.ldok m5
  have sd := ld.sd
  obtain ⟨rk, hrk⟩ := g.rk
  obtain ⟨hh, sy⟩ := says_ex g.nd rk hrk rows.length (rwF rows)
  have li := g.li
  have lo := g.lo
  have rl : ∀ x ∈ rows, x.length = F.ins.length := fun x hx => (ok x hx).1
  have sy2 : Says F (rows.take many).length (rwF (rows.take many)) hh := by
    have lt : (rows.take many).length = many := by rw [List.length_take]; omega
    refine ⟨fun i n b hb e => ?_, fun p hp b hb => sy.rul p hp b (by omega)⟩
    rw [sy.inn i n b (by omega) e]
    show (rows.getD b []).getD i 0 = ((rows.take many).getD b []).getD i 0
    rw [List.getD_eq_getElem?_getD (l := rows), List.getD_eq_getElem?_getD (l := rows.take many), List.getElem?_take_of_lt (by omega)]
  have sr : ∀ b i, (rwF rows b i).natAbs ≤ 1000000 := fun b i => by
    show ((rows.getD b []).getD i 0).natAbs ≤ _
    rw [List.getD_eq_getElem?_getD, List.getD_eq_getElem?_getD]
    cases e : rows[b]? with
    | none => show ((([] : List Int)[i]?).getD 0).natAbs ≤ _; rw [List.getElem?_nil]; decide
    | some row =>
      show ((row[i]?).getD 0).natAbs ≤ _
      cases e2 : row[i]? with
      | none => decide
      | some x =>
        have := (ok row (List.mem_of_getElem? e)).2 x (List.mem_of_getElem? e2)
        unfold Small at this
        show x.natAbs ≤ _
        omega
  have hsm := h_small g m5 sy sr
  have say : ∀ n, n ≤ rows.length → SayD (rowsD (toldF F hh n)) := fun n hn => rows_say (by rw [List.length_map, List.length_range]; omega) fun x hx => by
    obtain ⟨b, hb, rfl⟩ := List.mem_map.mp hx
    have hb := List.mem_range.mp hb
    refine ⟨by rw [List.length_map]; omega, fun y hy => ?_⟩
    obtain ⟨z, hz, rfl⟩ := List.mem_map.mp hy
    exact Nat.le_trans (hsm b (by omega) z (g.oo z hz)) (Nat.pow_le_pow_right (by decide) (by omega))
  -- the rows as data
  obtain ⟨dR, nR, dpR⟩ : ∃ dR : PyData, Neat dR 16 100000 ∧ ∀ H', LamX.ExtN H H' → Dp K H' (.ref ra) dR := by
    have na : NeatAll (rows.map fun x => PyData.tuple (x.map PyData.int)) 14 (rows.length * 5001) := NeatAll.map fun x hx => by
      obtain ⟨h1, h2⟩ := ok x hx
      exact (Neat.tup (NeatAll.map (f := PyData.int) (dp := 13) (n := 41) fun y hy => Neat.int (by have := h2 y hy; unfold Small at this; omega))).mono (Nat.le_refl _) (by omega)
    obtain ⟨rv, e, al⟩ := hR
    rcases e with e | e
    · exact ⟨.list _, (Neat.lst na).mono (by decide) (by omega), fun H' x => .lst (SqL.of (x _ _ e fun ps z => nomatch z)) (rws_dp (al.imp fun _ _ z => z.keep (tk_ext x)))⟩
    · exact ⟨.tuple _, (Neat.tup na).mono (by decide) (by omega), fun H' x => .tup (SqT.of (x _ _ e fun ps z => nomatch z)) (rws_dp (al.imp fun _ _ z => z.keep (tk_ext x)))⟩
  have both : SayD (.tuple [fmD F, dR]) := (Neat.tup (.cons ((g.neat m5).mono (c := 16) (e := 250000) (by decide) (by decide)) (.cons nR .nil))).sayD (by decide) (by decide)
  obtain ⟨y1, y2, y3, y4⟩ := both
  refine ⟨_, (pss_cons (ps_set (i := 3) sc_law_right.nd rfl (Or.inl rfl) (pe_callB (call_reprG K rfl hG hr.units) (by rfl) T.m_repr (by decide +kernel) (pa_cons (pe_tup (pa_cons (pv 0) (pa_cons (pv 1) pa_nil))) pa_nil)))
      (pss_cons (ps_set (i := 4) sc_law_right.nd rfl (Or.inl rfl) (pe_call G_law_said (hr.mono (by decide)) (by rfl) m_law_said F_law_said.kp b_law_said .nil pass0 (pa_cons (pv 0) (pa_cons (pv 1) pa_nil))))
      (pss_cons (ps_set (i := 5) sc_law_right.nd rfl (Or.inl rfl) (pe_call G_said (hr.mono (by decide)) (by rfl) m_said F_said.kp b_said .nil pass0 (pa_cons (pv 0) (pa_cons (pv 1) pa_nil))))
      (pss_cons (ps_if (PW.pt (pw_or (pt_not (pt_val (pe_callB (call_isiKK K rfl) (by rfl) T.m_isinstance (by decide +kernel) (pa_cons (pv 5) (pa_cons (pe_bltn (v := .ty "list") (by rfl) T.m_list (by decide +kernel) rfl) pa_nil))))) (pw_or1 (pt_cmpR op_ne (pe_callB (call_reprG K rfl hG hr.units) (by rfl) T.m_repr (by decide +kernel) (pa_cons (pv 5) pa_nil)) (pe_callB (call_reprG K rfl hG hr.units) (by rfl) T.m_repr (by decide +kernel) (pa_cons (pv 4) pa_nil)) (nomark _))))) (pss_one (ps_ret pe_bl)) pss_nil)
      (pss_cons (ps_expr (pe_bmK K rfl PySem.F.plainAttrs_list PySem.F.slot_list_append PySem.F.type_list_append mt_append (pv 5) (pa_cons (pe_tup pa_nil) pa_nil)))
      (pss_cons (ps_if (pt_cmpR op_ne (pe_callB (call_reprG K rfl hG hr.units) (by rfl) T.m_repr (by decide +kernel) (pa_cons (pe_call G_said (hr.mono (by decide)) (by rfl) m_said F_said.kp b_said .nil pass0 (pa_cons (pv 0) (pa_cons (pe_slice (SlR.or (sl_listK K rfl) (sl_tupAK K rfl)) (pv 1) po_none (po_some (pv 2))) pa_nil))) pa_nil)) (pe_callB (call_reprG K rfl hG hr.units) (by rfl) T.m_repr (by decide +kernel) (pa_cons (pe_slice (sl_listK K rfl) (pv 4) po_none (po_some (pv 2))) pa_nil)) (nomark _)) (pss_one (ps_ret pe_bl)) pss_nil)
      (pss_one (ps_ret (pe_and (pe_cmpR op_eq (pe_callB (call_reprG K rfl hG hr.units) (by rfl) T.m_repr (by decide +kernel) (pa_cons (pe_call G_said (hr.mono (by decide)) (by rfl) m_said F_said.kp b_said .nil pass0 (pa_cons (pv 0) (pa_cons (pv 1) pa_nil))) pa_nil)) (pe_callB (call_reprG K rfl hG hr.units) (by rfl) T.m_repr (by decide +kernel) (pa_cons (pv 4) pa_nil)) (nomark _)) (pe_one (pe_cmpR op_eq (pe_callB (call_reprG K rfl hG hr.units) (by rfl) T.m_repr (by decide +kernel) (pa_cons (pe_tup (pa_cons (pv 0) (pa_cons (pv 1) pa_nil))) pa_nil)) (pv 3) (nomark _)))))))))))), ?_⟩
  refine ⟨_, rfl, _, rfl, (by show 2 ≤ sizeLine; decide), fun p0 np0 => ?_⟩
  have s0 : Same H (upd H p0 (.tup [.ref r, .ref ra])) := same_new np0
  have hp0 : (upd H p0 (.tup [.ref r, .ref ra])) p0 = some (.tup [.ref r, .ref ra]) := upd_same
  generalize upd H p0 (.tup [.ref r, .ref ra]) = H0 at s0 hp0 ⊢
  have x0 := ext_same s0
  refine ⟨.ref p0, _, rfl, .tup (SqT.of hp0) (.cons ((hF.ext x0).dp) (.cons (dpR _ x0) .nil)), y1, y2, y3, y4, ?_⟩
  refine ⟨_, rfl, _, rfl, r, ra, F, rows, hh, rfl, hF.ext x0, ld, hR.ext x0, rl, by omega, sy, fun pd ld1 H1 nd hd ad s1 => ?_⟩
  have x1 := x0.trans (ext_same s1)
  have tg1 := tabG_same (tabG_same tg s0) s1
  refine ⟨_, rfl, _, rfl, r, ra, F, rows, hh, rfl, hF.ext x1, sd, hR.ext x1, rl, by omega, sy, tg1, fun pf lf H2 nf hf af x2 tg2 => ?_⟩
  have hd2 := x2 _ _ hd (fun ps z => nomatch z)
  have ad2 := ad.imp fun _ _ z => z.keep (tk_ext x2)
  obtain ⟨z1, z2, z3, z4⟩ := say rows.length (Nat.le_refl _)
  have x12 := x1.trans x2
  refine ⟨_, rfl, _, _, _, _, true, rfl, .ty "list", .base (.lst hf), kit_ty (by decide +kernel), _, rfl, if_bl (fun z => nomatch z) (fun _ => ?_)⟩
  refine ⟨_, rfl, .ref pf, _, rfl, .lst (SqL.of hf) (rws_dp af), z1, z2, z3, z4, _, rfl, .ref pd, _, rfl, .lst (SqL.of hd2) (rws_dp ad2), z1, z2, z3, z4, rfl, _, rfl, ?_⟩
  rw [decide_eq_true rfl]
  refine if_bl (fun z => nomatch z) (fun _ => ?_)
  -- found.append(())
  have laf := af.length
  refine ⟨_, rfl, .inl ⟨rfl, _, SqL.of hf⟩, (by show 0 ≤ sizeLine; decide), fun ep nep => ?_⟩
  have s3 : Same H2 (upd H2 ep (.tup [])) := same_new nep
  generalize upd H2 ep (.tup []) = H3 at s3 ⊢
  have hf3 := s3 _ _ hf
  refine ⟨pf, _, _, rfl, rfl, hf3, small1000 (by rw [laf, List.length_map, List.length_range]; omega), ?_⟩
  have pt : pf ≠ PT := tabG_ne2 tg2 hf (fun ps z => nomatch z)
  have x4 : LamX.ExtN H1 (upd H3 pf (.lst (lf ++ [.ref ep]))) := nf.own (x2.trans (ext_same s3))
  have tg4 : GxR.TabG (upd H3 pf (.lst (lf ++ [.ref ep]))) PT := tabG_upd (tabG_same tg2 s3) pt
  generalize upd H3 pf (.lst (lf ++ [.ref ep])) = H4 at x4 tg4 ⊢
  have x14 := x1.trans x4
  have hd4 := x4 _ _ hd (fun ps z => nomatch z)
  have ad4 := ad.imp fun _ _ z => z.keep (tk_ext x4)
  -- said of fewer rows
  have lad := ad.length
  rw [List.length_map, List.length_range] at lad
  have dm : SayD (rowsD (toldF F hh many)) := say many lm
  obtain ⟨w1, w2, w3, w4⟩ := dm
  have lt : (rows.take many).length = many := by rw [List.length_take]; omega
  have tkm : (toldF F hh rows.length).take many = toldF F hh many := by
    unfold toldF
    rw [← List.map_take, List.take_range, Nat.min_eq_left lm]
  obtain ⟨rv, hra, alr⟩ := hR.ext x14
  have lrv := alr.length
  have cutR : cutV rv none (some ((many : Nat) : Int)) = rv.take many := cut_take _ _
  refine ⟨_, rfl, ?_⟩
  dsimp only [tNoPart]
  refine ⟨_, rfl, ?_⟩
  dsimp only [tNoPart]
  refine ⟨_, rfl, _, rfl, ?_⟩
  rcases hra with e | e
  · refine .inl ⟨ra, rv, rfl, SqL.of e, fun sa nsa => ?_⟩
    rw [cutR]
    have s5 : Same H4 (upd H4 sa (.lst (rv.take many))) := same_new nsa
    have hsa : (upd H4 sa (.lst (rv.take many))) sa = some (.lst (rv.take many)) := upd_same
    generalize upd H4 sa (.lst (rv.take many)) = H5 at s5 hsa ⊢
    have x5 := ext_same s5
    have tg5 := tabG_same tg4 s5
    have hs5 : RsAt H5 sa (rows.take many) := ⟨_, .inl hsa, (alr.tkN many).imp fun _ _ z => z.keep (TK.same s5)⟩
    refine ⟨r, sa, F, rows.take many, hh, rfl, hF.ext (x14.trans x5), sd, hs5, fun x hx => rl x (List.mem_of_mem_take hx), by rw [lt]; omega, sy2, tg5, fun p6 l6 H6 n6 h6 a6 x6 tg6 => ?_⟩
    rw [lt] at a6
    have x46 := x5.trans x6
    have hd6 := x46 _ _ hd4 (fun ps z => nomatch z)
    have ad6 := ad4.imp fun _ _ z => z.keep (tk_ext x46)
    refine ⟨.ref p6, _, rfl, .lst (SqL.of h6) (rws_dp a6), w1, w2, w3, w4, ?_⟩
    refine ⟨_, rfl, ?_⟩
    dsimp only [tNoPart]
    refine ⟨_, rfl, _, rfl, pd, _, rfl, SqL.of hd6, fun dp ndp => ?_⟩
    rw [cut_take]
    have s7 : Same H6 (upd H6 dp (.lst (ld1.take many))) := same_new ndp
    have hdp : (upd H6 dp (.lst (ld1.take many))) dp = some (.lst (ld1.take many)) := upd_same
    generalize upd H6 dp (.lst (ld1.take many)) = H7 at s7 hdp ⊢
    have a7 := (ad6.tkN many).imp fun _ _ z => z.keep (TK.same s7)
    rw [tkm] at a7
    refine ⟨.ref dp, _, rfl, .lst (SqL.of hdp) (rws_dp a7), w1, w2, w3, w4, rfl, _, rfl, ?_⟩
    rw [decide_eq_true rfl]
    refine if_bl (fun z => nomatch z) (fun _ => ?_)
    have x17 := x14.trans (x46.trans (ext_same s7))
    have tg7 := tabG_same tg6 s7
    refine ⟨_, rfl, _, rfl, r, ra, F, rows, hh, rfl, hF.ext x17, sd, hR.ext x17, rl, by omega, sy, tg7, fun p8 l8 H8 n8 h8 a8 x8 tg8 => ?_⟩
    have hd8 := x8 _ _ (s7 _ _ hd6) (fun ps z => nomatch z)
    have ad8 := ad6.imp fun _ _ z => z.keep (tk_ext ((ext_same s7).trans x8))
    refine ⟨.ref p8, _, rfl, .lst (SqL.of h8) (rws_dp a8), z1, z2, z3, z4, _, rfl, .ref pd, _, rfl, .lst (SqL.of hd8) (rws_dp ad8), z1, z2, z3, z4, rfl, _, rfl, ?_⟩
    rw [decide_eq_true rfl]
    refine if_bl (fun _ => ?_) (fun z => nomatch z)
    refine ⟨_, rfl, _, rfl, (by show 2 ≤ sizeLine; decide), fun p9 np9 => ?_⟩
    have s9 : Same H8 (upd H8 p9 (.tup [.ref r, .ref ra])) := same_new np9
    have hp9 : (upd H8 p9 (.tup [.ref r, .ref ra])) p9 = some (.tup [.ref r, .ref ra]) := upd_same
    generalize upd H8 p9 (.tup [.ref r, .ref ra]) = H9 at s9 hp9 ⊢
    have x19 := x17.trans (x8.trans (ext_same s9))
    refine ⟨.ref p9, _, rfl, .tup (SqT.of hp9) (.cons ((hF.ext x19).dp) (.cons (dpR _ x19) .nil)), y1, y2, y3, y4, _, rfl, rfl, ?_⟩
    rw [decide_eq_true rfl]
    exact q _ x19 (tabG_same tg8 s9)
  · refine .inr ⟨ra, rv, rfl, SqT.of e, fun wh => ?_, fun _ sa nsa => ?_⟩
    · have wm : many = rows.length := by
        have h2 := wh.2
        rw [← lrv]
        simp only [HT.sIx] at h2
        split at h2 <;> omega
      have x5 : LamX.ExtN H4 H4 := ext_same (Same.refl _)
      have tg5 : GxR.TabG H4 PT := tg4
      have hs5 : RsAt H4 ra (rows.take many) := by rw [wm, List.take_length]; exact ⟨_, .inr e, alr⟩
      refine ⟨r, ra, F, rows.take many, hh, rfl, hF.ext (x14.trans x5), sd, hs5, fun x hx => rl x (List.mem_of_mem_take hx), by rw [lt]; omega, sy2, tg5, fun p6 l6 H6 n6 h6 a6 x6 tg6 => ?_⟩
      rw [lt] at a6
      have x46 := x5.trans x6
      have hd6 := x46 _ _ hd4 (fun ps z => nomatch z)
      have ad6 := ad4.imp fun _ _ z => z.keep (tk_ext x46)
      refine ⟨.ref p6, _, rfl, .lst (SqL.of h6) (rws_dp a6), w1, w2, w3, w4, ?_⟩
      refine ⟨_, rfl, ?_⟩
      dsimp only [tNoPart]
      refine ⟨_, rfl, _, rfl, pd, _, rfl, SqL.of hd6, fun dp ndp => ?_⟩
      rw [cut_take]
      have s7 : Same H6 (upd H6 dp (.lst (ld1.take many))) := same_new ndp
      have hdp : (upd H6 dp (.lst (ld1.take many))) dp = some (.lst (ld1.take many)) := upd_same
      generalize upd H6 dp (.lst (ld1.take many)) = H7 at s7 hdp ⊢
      have a7 := (ad6.tkN many).imp fun _ _ z => z.keep (TK.same s7)
      rw [tkm] at a7
      refine ⟨.ref dp, _, rfl, .lst (SqL.of hdp) (rws_dp a7), w1, w2, w3, w4, rfl, _, rfl, ?_⟩
      rw [decide_eq_true rfl]
      refine if_bl (fun z => nomatch z) (fun _ => ?_)
      have x17 := x14.trans (x46.trans (ext_same s7))
      have tg7 := tabG_same tg6 s7
      refine ⟨_, rfl, _, rfl, r, ra, F, rows, hh, rfl, hF.ext x17, sd, hR.ext x17, rl, by omega, sy, tg7, fun p8 l8 H8 n8 h8 a8 x8 tg8 => ?_⟩
      have hd8 := x8 _ _ (s7 _ _ hd6) (fun ps z => nomatch z)
      have ad8 := ad6.imp fun _ _ z => z.keep (tk_ext ((ext_same s7).trans x8))
      refine ⟨.ref p8, _, rfl, .lst (SqL.of h8) (rws_dp a8), z1, z2, z3, z4, _, rfl, .ref pd, _, rfl, .lst (SqL.of hd8) (rws_dp ad8), z1, z2, z3, z4, rfl, _, rfl, ?_⟩
      rw [decide_eq_true rfl]
      refine if_bl (fun _ => ?_) (fun z => nomatch z)
      refine ⟨_, rfl, _, rfl, (by show 2 ≤ sizeLine; decide), fun p9 np9 => ?_⟩
      have s9 : Same H8 (upd H8 p9 (.tup [.ref r, .ref ra])) := same_new np9
      have hp9 : (upd H8 p9 (.tup [.ref r, .ref ra])) p9 = some (.tup [.ref r, .ref ra]) := upd_same
      generalize upd H8 p9 (.tup [.ref r, .ref ra]) = H9 at s9 hp9 ⊢
      have x19 := x17.trans (x8.trans (ext_same s9))
      refine ⟨.ref p9, _, rfl, .tup (SqT.of hp9) (.cons ((hF.ext x19).dp) (.cons (dpR _ x19) .nil)), y1, y2, y3, y4, _, rfl, rfl, ?_⟩
      rw [decide_eq_true rfl]
      exact q _ x19 (tabG_same tg8 s9)
    · rw [cutR]
      have s5 : Same H4 (upd H4 sa (.tup (rv.take many))) := same_new nsa
      have hsa : (upd H4 sa (.tup (rv.take many))) sa = some (.tup (rv.take many)) := upd_same
      generalize upd H4 sa (.tup (rv.take many)) = H5 at s5 hsa ⊢
      have x5 := ext_same s5
      have tg5 := tabG_same tg4 s5
      have hs5 : RsAt H5 sa (rows.take many) := ⟨_, .inr hsa, (alr.tkN many).imp fun _ _ z => z.keep (TK.same s5)⟩
      refine ⟨r, sa, F, rows.take many, hh, rfl, hF.ext (x14.trans x5), sd, hs5, fun x hx => rl x (List.mem_of_mem_take hx), by rw [lt]; omega, sy2, tg5, fun p6 l6 H6 n6 h6 a6 x6 tg6 => ?_⟩
      rw [lt] at a6
      have x46 := x5.trans x6
      have hd6 := x46 _ _ hd4 (fun ps z => nomatch z)
      have ad6 := ad4.imp fun _ _ z => z.keep (tk_ext x46)
      refine ⟨.ref p6, _, rfl, .lst (SqL.of h6) (rws_dp a6), w1, w2, w3, w4, ?_⟩
      refine ⟨_, rfl, ?_⟩
      dsimp only [tNoPart]
      refine ⟨_, rfl, _, rfl, pd, _, rfl, SqL.of hd6, fun dp ndp => ?_⟩
      rw [cut_take]
      have s7 : Same H6 (upd H6 dp (.lst (ld1.take many))) := same_new ndp
      have hdp : (upd H6 dp (.lst (ld1.take many))) dp = some (.lst (ld1.take many)) := upd_same
      generalize upd H6 dp (.lst (ld1.take many)) = H7 at s7 hdp ⊢
      have a7 := (ad6.tkN many).imp fun _ _ z => z.keep (TK.same s7)
      rw [tkm] at a7
      refine ⟨.ref dp, _, rfl, .lst (SqL.of hdp) (rws_dp a7), w1, w2, w3, w4, rfl, _, rfl, ?_⟩
      rw [decide_eq_true rfl]
      refine if_bl (fun z => nomatch z) (fun _ => ?_)
      have x17 := x14.trans (x46.trans (ext_same s7))
      have tg7 := tabG_same tg6 s7
      refine ⟨_, rfl, _, rfl, r, ra, F, rows, hh, rfl, hF.ext x17, sd, hR.ext x17, rl, by omega, sy, tg7, fun p8 l8 H8 n8 h8 a8 x8 tg8 => ?_⟩
      have hd8 := x8 _ _ (s7 _ _ hd6) (fun ps z => nomatch z)
      have ad8 := ad6.imp fun _ _ z => z.keep (tk_ext ((ext_same s7).trans x8))
      refine ⟨.ref p8, _, rfl, .lst (SqL.of h8) (rws_dp a8), z1, z2, z3, z4, _, rfl, .ref pd, _, rfl, .lst (SqL.of hd8) (rws_dp ad8), z1, z2, z3, z4, rfl, _, rfl, ?_⟩
      rw [decide_eq_true rfl]
      refine if_bl (fun _ => ?_) (fun z => nomatch z)
      refine ⟨_, rfl, _, rfl, (by show 2 ≤ sizeLine; decide), fun p9 np9 => ?_⟩
      have s9 : Same H8 (upd H8 p9 (.tup [.ref r, .ref ra])) := same_new np9
      have hp9 : (upd H8 p9 (.tup [.ref r, .ref ra])) p9 = some (.tup [.ref r, .ref ra]) := upd_same
      generalize upd H8 p9 (.tup [.ref r, .ref ra]) = H9 at s9 hp9 ⊢
      have x19 := x17.trans (x8.trans (ext_same s9))
      refine ⟨.ref p9, _, rfl, .tup (SqT.of hp9) (.cons ((hF.ext x19).dp) (.cons (dpR _ x19) .nil)), y1, y2, y3, y4, _, rfl, rfl, ?_⟩
      rw [decide_eq_true rfl]
      exact q _ x19 (tabG_same tg8 s9)
def sp_law (K : PySem.W.Frag) (PT : Addr) : Sp := fun vs H Q _ => ∃ (a : Addr) (ns : List Int), vs = [.ref a] ∧ SqL K H a (ns.map V.int) ∧ ns.length ≤ 63 ∧ GxR.TabG H PT ∧ ∀ H', Q (.bl true) H'
theorem ok_law {f : Addr} {fd : FuncData} (F : Fun K "law" "law" s_law f fd) (T : Top w K mg) : FnG P w K mg base CX0 14 f fd ["_law_script"] (sp_law K PT) := by
  obtain ⟨f_law_flow, fd_law_flow, F_law_flow, b_law_flow, m_law_flow⟩ := T.d_law_flow
  have G_law_flow := ok_law_flow (P := P) (w := w) (base := base) F_law_flow T
  obtain ⟨f_law_formulas, fd_law_formulas, F_law_formulas, b_law_formulas, m_law_formulas⟩ := T.d_law_formulas
  have G_law_formulas := ok_law_formulas (P := P) (w := w) (base := base) F_law_formulas T
  obtain ⟨f_law_comes, fd_law_comes, F_law_comes, b_law_comes, m_law_comes⟩ := T.d_law_comes
  have G_law_comes := ok_law_comes (P := P) (w := w) (base := base) F_law_comes T
  obtain ⟨f_law_pick, fd_law_pick, F_law_pick, b_law_pick, m_law_pick⟩ := T.d_law_pick
  have G_law_pick := ok_law_pick (P := P) (w := w) (base := base) F_law_pick T
  obtain ⟨f_law_right, fd_law_right, F_law_right, b_law_right, m_law_right⟩ := T.d_law_right
  have G_law_right := ok_law_right (P := P) (w := w) (base := base) F_law_right T
  refine Fun.okG F sc_law (fun vs H Q E h => ?_) (fun cdv A outer s H vs Q E hr hG h => ?_)
  · obtain ⟨a, ns, rfl, _⟩ := h
    rfl
  obtain ⟨a, ns, rfl, hS, hlen, tb0, q⟩ := h
  refine ⟨_, (pss_cons (ps_set (i := 1) sc_law.nd rfl (Or.inl rfl) (pe_call G_law_flow (hr.mono (by decide)) (by rfl) m_law_flow F_law_flow.kp b_law_flow .nil pass0 (pa_cons (pv 0) pa_nil)))
      (pss_cons (ps_set (i := 2) sc_law.nd rfl (Or.inl rfl) (pe_call G_law_formulas (hr.mono (by decide)) (by rfl) m_law_formulas F_law_formulas.kp b_law_formulas .nil pass0 (pa_cons (pv 1) (pa_cons pe_int pa_nil))))
      (pss_cons (ps_set (i := 3) sc_law.nd rfl (Or.inl rfl) (pe_call G_law_formulas (hr.mono (by decide)) (by rfl) m_law_formulas F_law_formulas.kp b_law_formulas .nil pass0 (pa_cons (pv 1) (pa_cons pe_int pa_nil))))
      (pss_cons (ps_set (i := 4) sc_law.nd rfl (Or.inl rfl) (pe_call G_law_comes (hr.mono (by decide)) (by rfl) m_law_comes F_law_comes.kp b_law_comes .nil pass0 (pa_cons (pv 1) (pa_cons (pv 2) (pa_cons (pe_call G_law_pick (hr.mono (by decide)) (by rfl) m_law_pick F_law_pick.kp b_law_pick .nil pass0 (pa_cons (pv 1) (pa_cons pe_int pa_nil))) pa_nil)))))
      (pss_cons (ps_set (i := 5) sc_law.nd rfl (Or.inl rfl) (pe_callTy (call_tuple_ofK K rfl) (by rfl) T.m_tuple (by decide +kernel) (pa_cons (pe_call G_law_comes (hr.mono (by decide)) (by rfl) m_law_comes F_law_comes.kp b_law_comes .nil pass0 (pa_cons (pv 1) (pa_cons (pv 3) (pa_cons (pe_op op_add pe_int (pe_call G_law_pick (hr.mono (by decide)) (by rfl) m_law_pick F_law_pick.kp b_law_pick .nil pass0 (pa_cons (pv 1) (pa_cons pe_int pa_nil)))) pa_nil)))) pa_nil)))
      (pss_cons (ps_set (i := 6) sc_law.nd rfl (Or.inl rfl) (pe_call G_law_pick (hr.mono (by decide)) (by rfl) m_law_pick F_law_pick.kp b_law_pick .nil pass0 (pa_cons (pv 1) (pa_cons (pe_op op_add (pe_callB (call_len_seqK K rfl) (by rfl) T.m_len (by decide +kernel) (pa_cons (pv 4) pa_nil)) pe_int) pa_nil))))
      (pss_cons (ps_if (PW.pt (pw_or (pt_not (pt_val (pe_callG G_law_right (hr.mono (by decide)) hG (by rfl) m_law_right F_law_right.kp b_law_right .nil pass0 (pa_cons (pv 2) (pa_cons (pv 4) (pa_cons (pv 6) pa_nil)))))) (pw_or1 (pt_not (pt_val (pe_callG G_law_right (hr.mono (by decide)) hG (by rfl) m_law_right F_law_right.kp b_law_right .nil pass0 (pa_cons (pv 3) (pa_cons (pv 5) (pa_cons pe_int pa_nil))))))))) (pss_one (ps_ret pe_bl)) pss_nil)
      (pss_one (ps_ret (pe_callG G_law_right (hr.mono (by decide)) hG (by rfl) m_law_right F_law_right.kp b_law_right .nil pass0 (pa_cons (pv 2) (pa_cons (pe_callTy (call_tuple_ofK K rfl) (by rfl) T.m_tuple (by decide +kernel) (pa_cons (pv 4) pa_nil)) (pa_cons (pv 6) pa_nil))))))))))))), ?_⟩
  refine ⟨_, rfl, a, ns, rfl, hS, fun f c H1 nf nc F1 s1 => ?_⟩
  refine ⟨_, rfl, f, c, 5, rfl, by decide, F1, fun r1 G1 H2 hR1 g1 F2 B2 => ?_⟩
  refine ⟨_, rfl, f, c, 2, rfl, by decide, F2, fun r2 G2 H3 hR2 g2 F3 B3 => ?_⟩
  refine ⟨_, rfl, _, rfl, _, rfl, f, c, 11, rfl, by decide, by decide, F3, fun u H4 u0 u1 F4 B4 => ?_⟩
  obtain ⟨m, rfl⟩ : ∃ m : Nat, u = ((m : Nat) : Int) := ⟨u.toNat, by omega⟩
  have hR14 := (hR1.but F2 B3).but F3 B4
  have hR24 := hR2.but F3 B4
  refine ⟨f, c, r1, G1, m, rfl, hR14, by have := g1.li; omega, by omega, F4, fun pr lr rows H5 npr hpr ar lrows okr F5 B5 => ?_⟩
  have prf := F4.ne npr
  refine ⟨_, rfl, _, rfl, _, rfl, f, c, 4, rfl, by decide, by decide, F5, fun u2 H6 u20 u21 F6 B6 => ⟨_, _, rfl, rfl, ?_⟩⟩
  obtain ⟨m2, em2⟩ : ∃ m2 : Nat, 1 + u2 = ((m2 : Nat) : Int) := ⟨(1 + u2).toNat, by omega⟩
  have hR16 := (hR14.but F4 B5).but F5 B6
  have hR26 := (hR24.but F4 B5).but F5 B6
  refine ⟨f, c, r2, G2, m2, (by show [V.ref f, V.ref r2, V.int (1 + u2)] = [V.ref f, V.ref r2, V.int ((m2 : Nat) : Int)]; rw [em2]), hR26, by have := g2.li; omega, by omega, F6, fun pm lm rows2 H7 npm hpm am lrows2 okm F7 B7 => ?_⟩
  refine ⟨pm, _, rfl, .inl ⟨SqL.of hpm, fun tp ntp => ?_⟩⟩
  have s8 : Same H7 (upd H7 tp (.tup lm)) := same_new ntp
  have htp : (upd H7 tp (.tup lm)) tp = some (.tup lm) := upd_same
  have F8 := F7.new (o := .tup lm) ntp
  generalize upd H7 tp (.tup lm) = H8 at s8 htp F8 ⊢
  have B58 := (B6.trans B7).same s8
  have hpr8 := B58 _ _ hpr prf
  have ar8 := ar.imp fun _ _ z => z.keep (TK.but F5 B58)
  have am8 := am.imp fun _ _ z => z.keep (TK.same s8)
  have lar := ar.length
  refine ⟨_, rfl, _, rfl, pr, _, rfl, .inl (SqL.of hpr8), _, _, rfl, rfl, f, c, ((rows.length + 1 : Nat) : Int), by rw [← lar]; rfl, by omega, log_small (by omega), F8, fun u3 H9 u30 u31 F9 B9 => ?_⟩
  obtain ⟨many, rfl⟩ : ∃ k : Nat, u3 = ((k : Nat) : Int) := ⟨u3.toNat, by omega⟩
  have hR18 := (hR16.but F6 B7).same s8
  have hR28 := (hR26.but F6 B7).same s8
  have hR19 := hR18.but F8 B9
  have hR29 := hR28.but F8 B9
  have tpf : tp ≠ f := F7.ne ntp
  have rs1 : RsAt H9 pr rows := ⟨_, .inl (B9 _ _ hpr8 prf), ar8.imp fun _ _ z => z.keep (TK.but F8 B9)⟩
  have rs2 : RsAt H9 tp rows2 := ⟨_, .inr (B9 _ _ htp tpf), am8.imp fun _ _ z => z.keep (TK.but F8 B9)⟩
  have tb9 : GxR.TabG H9 PT := by
    obtain ⟨ps, e, z⟩ := tb0
    have B19 : But f H1 H9 := (((((B2.trans B3).trans B4).trans B5).trans B58)).trans B9
    refine ⟨ps, B19 _ _ (s1 _ _ e) (fun y => ?_), z⟩
    have := s1 _ _ e
    obtain ⟨ns', i', p', q', r', g1', _⟩ := F1
    rw [y, g1'] at this
    cases this
  refine ⟨_, rfl, _, rfl, _, rfl, r1, pr, G1, 5, many, rows, rfl, hR19, g1, by decide, rs1, okr, by omega, by omega, tb9, fun H10 x10 tb10 => ⟨_, rfl, ?_⟩⟩
  refine if_bl (fun z => nomatch z) (fun _ => ?_)
  refine ⟨_, rfl, _, rfl, r2, tp, G2, 2, 1, rows2, rfl, hR29.ext x10, g2, by decide, rs2.ext x10, okm, by omega, by omega, tb10, fun H11 x11 tb11 => ⟨_, rfl, if_bl (fun z => nomatch z) (fun _ => ?_)⟩⟩
  have x911 := x10.trans x11
  have hpr11 := x911 _ _ (B9 _ _ hpr8 prf) (fun ps z => nomatch z)
  refine ⟨_, rfl, _, rfl, pr, _, rfl, .inl ⟨SqL.of hpr11, fun tp2 ntp2 => ?_⟩⟩
  have s12 : Same H11 (upd H11 tp2 (.tup lr)) := same_new ntp2
  have htp2 : (upd H11 tp2 (.tup lr)) tp2 = some (.tup lr) := upd_same
  generalize upd H11 tp2 (.tup lr) = H12 at s12 htp2 ⊢
  have x12 := x911.trans (ext_same s12)
  exact ⟨_, rfl, r1, tp2, G1, 5, many, rows, rfl, hR19.ext x12, g1, by decide, ⟨_, .inr htp2, (ar8.imp fun _ _ z => z.keep (TK.but F8 B9)).imp fun _ _ z => z.keep (tk_ext x12)⟩, okr, by omega, by omega, tabG_same tb11 s12, fun H13 _ _ => q _⟩
end
theorem fun_of_D {K : PySem.W.Frag} {x q : Str} {st : Stmt} {f : Addr} {fd : FuncData} (D : FunD K x q (defArgs st) (defBody st) (defScope st) [] [] f fd) : Fun K x q st f fd := by
  obtain ⟨⟨oc, od, dV, kV, doc, pm, an, cdv, ct, osl, e, lk, ci, dfl, _⟩, kp⟩ := D
  have z : dV = .none := by
    rcases dfl with ⟨_, h⟩ | ⟨h, _⟩
    · exact h
    · exact absurd rfl h
  subst z
  exact ⟨⟨oc, od, kV, doc, pm, an, cdv, ct, osl, e, lk, ci⟩, kp⟩
def hd_needs : He.DefD := ⟨("needs", none), "needs", "needs", defArgs s_needs, defBody s_needs, defScope s_needs, [], []⟩
def hd_made_by : He.DefD := ⟨("made_by", none), "made_by", "made_by", defArgs s_made_by, defBody s_made_by, defScope s_made_by, [], []⟩
def hd_made_of_two : He.DefD := ⟨("made_of_two", none), "made_of_two", "made_of_two", defArgs s_made_of_two, defBody s_made_of_two, defScope s_made_of_two, [], []⟩
def hd_tree_parts : He.DefD := ⟨("tree_parts", none), "tree_parts", "tree_parts", defArgs s_tree_parts, defBody s_tree_parts, defScope s_tree_parts, [], []⟩
def hd_leanings : He.DefD := ⟨("leanings", none), "leanings", "leanings", defArgs s_leanings, defBody s_leanings, defScope s_leanings, [], []⟩
def hd_part_rule : He.DefD := ⟨("part_rule", none), "part_rule", "part_rule", defArgs s_part_rule, defBody s_part_rule, defScope s_part_rule, [], []⟩
def hd_said : He.DefD := ⟨("said", none), "said", "said", defArgs s_said, defBody s_said, defScope s_said, [], []⟩
def hd_rule_order : He.DefD := ⟨("rule_order", none), "rule_order", "rule_order", defArgs s_rule_order, defBody s_rule_order, defScope s_rule_order, [], []⟩
def hd_hangs_on : He.DefD := ⟨("hangs_on", none), "hangs_on", "hangs_on", defArgs s_hangs_on, defBody s_hangs_on, defScope s_hangs_on, [], []⟩
def hd_tree_thing : He.DefD := ⟨("tree_thing", none), "tree_thing", "tree_thing", defArgs s_tree_thing, defBody s_tree_thing, defScope s_tree_thing, [], []⟩
def hd_thing_at : He.DefD := ⟨("thing_at", none), "thing_at", "thing_at", defArgs s_thing_at, defBody s_thing_at, defScope s_thing_at, [], []⟩
def hd_law_flow : He.DefD := ⟨("_law_flow", none), "_law_flow", "_law_flow", defArgs s_law_flow, defBody s_law_flow, defScope s_law_flow, [], []⟩
def hd_law_pick : He.DefD := ⟨("_law_pick", none), "_law_pick", "_law_pick", defArgs s_law_pick, defBody s_law_pick, defScope s_law_pick, [], []⟩
def hd_law_thing : He.DefD := ⟨("_law_thing", none), "_law_thing", "_law_thing", defArgs s_law_thing, defBody s_law_thing, defScope s_law_thing, [], []⟩
def hd_law_shuffled : He.DefD := ⟨("_law_shuffled", none), "_law_shuffled", "_law_shuffled", defArgs s_law_shuffled, defBody s_law_shuffled, defScope s_law_shuffled, [], []⟩
def hd_law_word : He.DefD := ⟨("_law_word", none), "_law_word", "_law_word", defArgs s_law_word, defBody s_law_word, defScope s_law_word, [], []⟩
def hd_law_taken : He.DefD := ⟨("_law_taken", none), "_law_taken", "_law_taken", defArgs s_law_taken, defBody s_law_taken, defScope s_law_taken, [], []⟩
def hd_law_names : He.DefD := ⟨("_law_names", none), "_law_names", "_law_names", defArgs s_law_names, defBody s_law_names, defScope s_law_names, [], []⟩
def hd_law_leaf : He.DefD := ⟨("_law_leaf", none), "_law_leaf", "_law_leaf", defArgs s_law_leaf, defBody s_law_leaf, defScope s_law_leaf, [], []⟩
def hd_law_tree : He.DefD := ⟨("_law_tree", none), "_law_tree", "_law_tree", defArgs s_law_tree, defBody s_law_tree, defScope s_law_tree, [], []⟩
def hd_law_formulas : He.DefD := ⟨("_law_formulas", none), "_law_formulas", "_law_formulas", defArgs s_law_formulas, defBody s_law_formulas, defScope s_law_formulas, [], []⟩
def hd_law_parts : He.DefD := ⟨("_law_parts", none), "_law_parts", "_law_parts", defArgs s_law_parts, defBody s_law_parts, defScope s_law_parts, [], []⟩
def hd_law_value : He.DefD := ⟨("_law_value", none), "_law_value", "_law_value", defArgs s_law_value, defBody s_law_value, defScope s_law_value, [], []⟩
def hd_law_said : He.DefD := ⟨("_law_said", none), "_law_said", "_law_said", defArgs s_law_said, defBody s_law_said, defScope s_law_said, [], []⟩
def hd_law_comes : He.DefD := ⟨("_law_comes", none), "_law_comes", "_law_comes", defArgs s_law_comes, defBody s_law_comes, defScope s_law_comes, [], []⟩
def hd_law_right : He.DefD := ⟨("_law_right", none), "_law_right", "_law_right", defArgs s_law_right, defBody s_law_right, defScope s_law_right, [], []⟩
def hd_law : He.DefD := ⟨("law", none), "law", "law", defArgs s_law, defBody s_law, defScope s_law, [], []⟩
def hFn : List He.DefD := [hd_needs, hd_made_by, hd_made_of_two, hd_tree_parts, hd_leanings, hd_part_rule, hd_said, hd_rule_order, hd_hangs_on, hd_tree_thing, hd_thing_at, hd_law_flow, hd_law_pick, hd_law_thing, hd_law_shuffled, hd_law_word, hd_law_taken, hd_law_names, hd_law_leaf, hd_law_tree, hd_law_formulas, hd_law_parts, hd_law_value, hd_law_said, hd_law_comes, hd_law_right, hd_law]
def needsL : List (Str × He.Dv) := [("same", .int 1), ("sum", .int 2), ("gap", .int 2), ("below", .int 2), ("most", .int 2), ("least", .int 2), ("pick", .int 3), ("times", .int 1), ("always", .int 0), ("in", .int 0), ("out", .int 1)]
def needsT : He.Tab := (fun K => He.ga K "NEEDS", ["same", "sum", "gap", "below", "most", "least", "pick", "times", "always", "in", "out"])
theorem needs_yes {K : PySem.W.Frag} (h : He.valsB K (He.ga K "NEEDS") needsL = true) {z : Str} (hz : z ∈ eleven) : ∃ t, PySem.W.nsIn K (He.ga K "NEEDS") z = some (some (.int (needN z) t)) := by
  have key : ∀ i : Int, (z, He.Dv.int i) ∈ needsL → ∃ t, PySem.W.nsIn K (He.ga K "NEEDS") z = some (some (.int i t)) := fun i hm => by
    obtain ⟨u, e, r⟩ := He.valsB_ok h hm
    obtain ⟨t, rfl⟩ := r
    exact ⟨t, e⟩
  have key2 : ∀ i : Int, needN z = i → (z, He.Dv.int i) ∈ needsL → ∃ t, PySem.W.nsIn K (He.ga K "NEEDS") z = some (some (.int (needN z) t)) := fun i e hm => by
    rw [e]
    exact key i hm
  unfold needsL at key2
  unfold eleven at hz
  simp only [List.mem_cons, List.not_mem_nil, or_false] at hz
  rcases hz with h | h | h | h | h | h | h | h | h | h | h <;> subst h
  · exact key2 1 (by decide +kernel) (List.mem_cons_self ..)
  · exact key2 2 (by decide +kernel) (List.mem_cons_of_mem _ (List.mem_cons_self ..))
  · exact key2 2 (by decide +kernel) (List.mem_cons_of_mem _ (List.mem_cons_of_mem _ (List.mem_cons_self ..)))
  · exact key2 2 (by decide +kernel) (List.mem_cons_of_mem _ (List.mem_cons_of_mem _ (List.mem_cons_of_mem _ (List.mem_cons_self ..))))
  · exact key2 2 (by decide +kernel) (List.mem_cons_of_mem _ (List.mem_cons_of_mem _ (List.mem_cons_of_mem _ (List.mem_cons_of_mem _ (List.mem_cons_self ..)))))
  · exact key2 2 (by decide +kernel) (List.mem_cons_of_mem _ (List.mem_cons_of_mem _ (List.mem_cons_of_mem _ (List.mem_cons_of_mem _ (List.mem_cons_of_mem _ (List.mem_cons_self ..))))))
  · exact key2 3 (by decide +kernel) (List.mem_cons_of_mem _ (List.mem_cons_of_mem _ (List.mem_cons_of_mem _ (List.mem_cons_of_mem _ (List.mem_cons_of_mem _ (List.mem_cons_of_mem _ (List.mem_cons_self ..)))))))
  · exact key2 1 (by decide +kernel) (List.mem_cons_of_mem _ (List.mem_cons_of_mem _ (List.mem_cons_of_mem _ (List.mem_cons_of_mem _ (List.mem_cons_of_mem _ (List.mem_cons_of_mem _ (List.mem_cons_of_mem _ (List.mem_cons_self ..))))))))
  · exact key2 0 (by decide +kernel) (List.mem_cons_of_mem _ (List.mem_cons_of_mem _ (List.mem_cons_of_mem _ (List.mem_cons_of_mem _ (List.mem_cons_of_mem _ (List.mem_cons_of_mem _ (List.mem_cons_of_mem _ (List.mem_cons_of_mem _ (List.mem_cons_self ..)))))))))
  · exact key2 0 (by decide +kernel) (List.mem_cons_of_mem _ (List.mem_cons_of_mem _ (List.mem_cons_of_mem _ (List.mem_cons_of_mem _ (List.mem_cons_of_mem _ (List.mem_cons_of_mem _ (List.mem_cons_of_mem _ (List.mem_cons_of_mem _ (List.mem_cons_of_mem _ (List.mem_cons_self ..))))))))))
  · exact key2 1 (by decide +kernel) (List.mem_cons_of_mem _ (List.mem_cons_of_mem _ (List.mem_cons_of_mem _ (List.mem_cons_of_mem _ (List.mem_cons_of_mem _ (List.mem_cons_of_mem _ (List.mem_cons_of_mem _ (List.mem_cons_of_mem _ (List.mem_cons_of_mem _ (List.mem_cons_of_mem _ (List.mem_cons_self ..)))))))))))
def hFa : List He.Fa := [.glo "needs", .glo "made_by", .glo "made_of_two", .glo "tree_parts", .glo "leanings", .glo "part_rule", .glo "said", .glo "rule_order", .glo "hangs_on", .glo "tree_thing", .glo "thing_at", .glo "_law_flow", .glo "_law_pick", .glo "_law_thing", .glo "_law_shuffled", .glo "_law_word", .glo "_law_taken", .glo "_law_names", .glo "_law_leaf", .glo "_law_tree", .glo "_law_formulas", .glo "_law_parts", .glo "_law_value", .glo "_law_said", .glo "_law_comes", .glo "_law_right", .glo "law", .free "any", .free "dict", .free "enumerate", .free "int", .free "isinstance", .free "len", .free "list", .free "max", .free "min", .free "range", .free "repr", .free "tuple", .free "zip", .glo "NEEDS"]
def hEx (K : PySem.W.Frag) : Bool := He.valsB K (He.ga K "NEEDS") needsL
def hTf : List (Str × Option Str) := [("hangs_on", none)]
abbrev hR : PySem.W.OpenRow := PySem.W.OpenLaw.row PySem.Challenge.rw_beltshift_k23_what_formulas_say
abbrev hk : PySem.W.Hook := He.hookX 4 hFa hFn [needsT] hTf hEx
def hOb (s : PySem.W.SharedT) : He.AlX := He.obsX 4 hFa hFn [needsT] hTf hEx (HandSHeadRun.getT s)
theorem hOb_eq (s : PySem.W.SharedT) : hOb s = hk.obs s.abs := He.obsX_eq (HandSHeadRun.getT_eq s)
def hN0 : List Str := ["NEEDS", "needs", "made_by", "made_of_two", "tree_parts", "leanings", "part_rule", "said", "rule_order", "hangs_on", "tree_thing", "thing_at", "_law_flow", "_law_pick", "_law_thing", "_law_shuffled", "_law_word", "_law_taken", "_law_names", "_law_leaf", "_law_tree", "_law_formulas", "_law_parts", "_law_value", "_law_said", "_law_comes", "_law_right"]
def hNames : List Str := hN0
set_option maxHeartbeats 0 in
theorem all_mkX {w : World} {K : PySem.W.Frag} {h : Heap} {mg : Str → Option Value} {fa : Addr} (X : K.In h) (G : h.Ns mainGlobals mg) (hfa : mg "law" = some (.ref fa)) (c : He.SaysX hFa hFn [needsT] hTf hEx w h K) : LawAtG PySem.Challenge.rw_beltshift_k23_what_formulas_say w K CX0 14 63 "_law_script" mg fa h := by
  have cd := c.t.d
  obtain ⟨fd0, D0⟩ := cd.def_ 0 (d := hd_needs) rfl
  have F0 : Fun K "needs" "needs" s_needs (He.ga K "needs") fd0 := fun_of_D D0
  have g0 : mg "needs" = some (.ref (He.ga K "needs")) := He.glo_ok X G (cd.fact 0 (f := .glo "needs") rfl)
  have b0 := F0.binds (ps := ["rule"]) fun _ _ _ _ _ _ us hl => match us, hl with | [_], _ => rfl
  obtain ⟨fd1, D1⟩ := cd.def_ 1 (d := hd_made_by) rfl
  have F1 : Fun K "made_by" "made_by" s_made_by (He.ga K "made_by") fd1 := fun_of_D D1
  have g1 : mg "made_by" = some (.ref (He.ga K "made_by")) := He.glo_ok X G (cd.fact 1 (f := .glo "made_by") rfl)
  have b1 := F1.binds (ps := ["rule", "things"]) fun _ _ _ _ _ _ us hl => match us, hl with | [_, _], _ => rfl
  obtain ⟨fd2, D2⟩ := cd.def_ 2 (d := hd_made_of_two) rfl
  have F2 : Fun K "made_of_two" "made_of_two" s_made_of_two (He.ga K "made_of_two") fd2 := fun_of_D D2
  have g2 : mg "made_of_two" = some (.ref (He.ga K "made_of_two")) := He.glo_ok X G (cd.fact 2 (f := .glo "made_of_two") rfl)
  have b2 := F2.binds (ps := ["word", "one", "other"]) fun _ _ _ _ _ _ us hl => match us, hl with | [_, _, _], _ => rfl
  obtain ⟨fd3, D3⟩ := cd.def_ 3 (d := hd_tree_parts) rfl
  have F3 : Fun K "tree_parts" "tree_parts" s_tree_parts (He.ga K "tree_parts") fd3 := fun_of_D D3
  have g3 : mg "tree_parts" = some (.ref (He.ga K "tree_parts")) := He.glo_ok X G (cd.fact 3 (f := .glo "tree_parts") rfl)
  have b3 := F3.binds (ps := ["tree"]) fun _ _ _ _ _ _ us hl => match us, hl with | [_], _ => rfl
  obtain ⟨fd4, D4⟩ := cd.def_ 4 (d := hd_leanings) rfl
  have F4 : Fun K "leanings" "leanings" s_leanings (He.ga K "leanings") fd4 := fun_of_D D4
  have g4 : mg "leanings" = some (.ref (He.ga K "leanings")) := He.glo_ok X G (cd.fact 4 (f := .glo "leanings") rfl)
  have b4 := F4.binds (ps := ["tree"]) fun _ _ _ _ _ _ us hl => match us, hl with | [_], _ => rfl
  obtain ⟨fd5, D5⟩ := cd.def_ 5 (d := hd_part_rule) rfl
  have F5 : Fun K "part_rule" "part_rule" s_part_rule (He.ga K "part_rule") fd5 := fun_of_D D5
  have g5 : mg "part_rule" = some (.ref (He.ga K "part_rule")) := He.glo_ok X G (cd.fact 5 (f := .glo "part_rule") rfl)
  have b5 := F5.binds (ps := ["part"]) fun _ _ _ _ _ _ us hl => match us, hl with | [_], _ => rfl
  obtain ⟨fd6, D6⟩ := cd.def_ 6 (d := hd_said) rfl
  have F6 : Fun K "said" "said" s_said (He.ga K "said") fd6 := fun_of_D D6
  have g6 : mg "said" = some (.ref (He.ga K "said")) := He.glo_ok X G (cd.fact 6 (f := .glo "said") rfl)
  have b6 := F6.binds (ps := ["formulas", "rows"]) fun _ _ _ _ _ _ us hl => match us, hl with | [_, _], _ => rfl
  obtain ⟨fd7, D7⟩ := cd.def_ 7 (d := hd_rule_order) rfl
  have F7 : Fun K "rule_order" "rule_order" s_rule_order (He.ga K "rule_order") fd7 := fun_of_D D7
  have g7 : mg "rule_order" = some (.ref (He.ga K "rule_order")) := He.glo_ok X G (cd.fact 7 (f := .glo "rule_order") rfl)
  have b7 := F7.binds (ps := ["rules"]) fun _ _ _ _ _ _ us hl => match us, hl with | [_], _ => rfl
  obtain ⟨fd8, D8⟩ := cd.def_ 8 (d := hd_hangs_on) rfl
  have F8 : Fun K "hangs_on" "hangs_on" s_hangs_on (He.ga K "hangs_on") fd8 := fun_of_D D8
  have g8 : mg "hangs_on" = some (.ref (He.ga K "hangs_on")) := He.glo_ok X G (cd.fact 8 (f := .glo "hangs_on") rfl)
  have b8 := F8.binds (ps := ["tree", "names"]) fun _ _ _ _ _ _ us hl => match us, hl with | [_, _], _ => rfl
  obtain ⟨fd9, D9⟩ := cd.def_ 9 (d := hd_tree_thing) rfl
  have F9 : Fun K "tree_thing" "tree_thing" s_tree_thing (He.ga K "tree_thing") fd9 := fun_of_D D9
  have g9 : mg "tree_thing" = some (.ref (He.ga K "tree_thing")) := He.glo_ok X G (cd.fact 9 (f := .glo "tree_thing") rfl)
  have b9 := F9.binds (ps := ["parts", "since", "before", "bell"]) fun _ _ _ _ _ _ us hl => match us, hl with | [_, _, _, _], _ => rfl
  obtain ⟨fd10, D10⟩ := cd.def_ 10 (d := hd_thing_at) rfl
  have F10 : Fun K "thing_at" "thing_at" s_thing_at (He.ga K "thing_at") fd10 := fun_of_D D10
  have g10 : mg "thing_at" = some (.ref (He.ga K "thing_at")) := He.glo_ok X G (cd.fact 10 (f := .glo "thing_at") rfl)
  have b10 := F10.binds (ps := ["since", "before", "bell"]) fun _ _ _ _ _ _ us hl => match us, hl with | [_, _, _], _ => rfl
  obtain ⟨fd11, D11⟩ := cd.def_ 11 (d := hd_law_flow) rfl
  have F11 : Fun K "_law_flow" "_law_flow" s_law_flow (He.ga K "_law_flow") fd11 := fun_of_D D11
  have g11 : mg "_law_flow" = some (.ref (He.ga K "_law_flow")) := He.glo_ok X G (cd.fact 11 (f := .glo "_law_flow") rfl)
  have b11 := F11.binds (ps := ["_law_script"]) fun _ _ _ _ _ _ us hl => match us, hl with | [_], _ => rfl
  obtain ⟨fd12, D12⟩ := cd.def_ 12 (d := hd_law_pick) rfl
  have F12 : Fun K "_law_pick" "_law_pick" s_law_pick (He.ga K "_law_pick") fd12 := fun_of_D D12
  have g12 : mg "_law_pick" = some (.ref (He.ga K "_law_pick")) := He.glo_ok X G (cd.fact 12 (f := .glo "_law_pick") rfl)
  have b12 := F12.binds (ps := ["_law_flow_here", "_law_many"]) fun _ _ _ _ _ _ us hl => match us, hl with | [_, _], _ => rfl
  obtain ⟨fd13, D13⟩ := cd.def_ 13 (d := hd_law_thing) rfl
  have F13 : Fun K "_law_thing" "_law_thing" s_law_thing (He.ga K "_law_thing") fd13 := fun_of_D D13
  have g13 : mg "_law_thing" = some (.ref (He.ga K "_law_thing")) := He.glo_ok X G (cd.fact 13 (f := .glo "_law_thing") rfl)
  have b13 := F13.binds (ps := ["_law_flow_here"]) fun _ _ _ _ _ _ us hl => match us, hl with | [_], _ => rfl
  obtain ⟨fd14, D14⟩ := cd.def_ 14 (d := hd_law_shuffled) rfl
  have F14 : Fun K "_law_shuffled" "_law_shuffled" s_law_shuffled (He.ga K "_law_shuffled") fd14 := fun_of_D D14
  have g14 : mg "_law_shuffled" = some (.ref (He.ga K "_law_shuffled")) := He.glo_ok X G (cd.fact 14 (f := .glo "_law_shuffled") rfl)
  have b14 := F14.binds (ps := ["_law_flow_here", "_law_some"]) fun _ _ _ _ _ _ us hl => match us, hl with | [_, _], _ => rfl
  obtain ⟨fd15, D15⟩ := cd.def_ 15 (d := hd_law_word) rfl
  have F15 : Fun K "_law_word" "_law_word" s_law_word (He.ga K "_law_word") fd15 := fun_of_D D15
  have g15 : mg "_law_word" = some (.ref (He.ga K "_law_word")) := He.glo_ok X G (cd.fact 15 (f := .glo "_law_word") rfl)
  have b15 := F15.binds (ps := ["_law_flow_here", "_law_most"]) fun _ _ _ _ _ _ us hl => match us, hl with | [_, _], _ => rfl
  obtain ⟨fd16, D16⟩ := cd.def_ 16 (d := hd_law_taken) rfl
  have F16 : Fun K "_law_taken" "_law_taken" s_law_taken (He.ga K "_law_taken") fd16 := fun_of_D D16
  have g16 : mg "_law_taken" = some (.ref (He.ga K "_law_taken")) := He.glo_ok X G (cd.fact 16 (f := .glo "_law_taken") rfl)
  have b16 := F16.binds (ps := []) fun _ _ _ _ _ _ us hl => match us, hl with | [], _ => rfl
  obtain ⟨fd17, D17⟩ := cd.def_ 17 (d := hd_law_names) rfl
  have F17 : Fun K "_law_names" "_law_names" s_law_names (He.ga K "_law_names") fd17 := fun_of_D D17
  have g17 : mg "_law_names" = some (.ref (He.ga K "_law_names")) := He.glo_ok X G (cd.fact 17 (f := .glo "_law_names") rfl)
  have b17 := F17.binds (ps := ["_law_flow_here", "_law_many"]) fun _ _ _ _ _ _ us hl => match us, hl with | [_, _], _ => rfl
  obtain ⟨fd18, D18⟩ := cd.def_ 18 (d := hd_law_leaf) rfl
  have F18 : Fun K "_law_leaf" "_law_leaf" s_law_leaf (He.ga K "_law_leaf") fd18 := fun_of_D D18
  have g18 : mg "_law_leaf" = some (.ref (He.ga K "_law_leaf")) := He.glo_ok X G (cd.fact 18 (f := .glo "_law_leaf") rfl)
  have b18 := F18.binds (ps := ["_law_flow_here", "_law_now", "_law_names_here"]) fun _ _ _ _ _ _ us hl => match us, hl with | [_, _, _], _ => rfl
  obtain ⟨fd19, D19⟩ := cd.def_ 19 (d := hd_law_tree) rfl
  have F19 : Fun K "_law_tree" "_law_tree" s_law_tree (He.ga K "_law_tree") fd19 := fun_of_D D19
  have g19 : mg "_law_tree" = some (.ref (He.ga K "_law_tree")) := He.glo_ok X G (cd.fact 19 (f := .glo "_law_tree") rfl)
  have b19 := F19.binds (ps := ["_law_flow_here", "_law_room", "_law_now", "_law_names_here"]) fun _ _ _ _ _ _ us hl => match us, hl with | [_, _, _, _], _ => rfl
  obtain ⟨fd20, D20⟩ := cd.def_ 20 (d := hd_law_formulas) rfl
  have F20 : Fun K "_law_formulas" "_law_formulas" s_law_formulas (He.ga K "_law_formulas") fd20 := fun_of_D D20
  have g20 : mg "_law_formulas" = some (.ref (He.ga K "_law_formulas")) := He.glo_ok X G (cd.fact 20 (f := .glo "_law_formulas") rfl)
  have b20 := F20.binds (ps := ["_law_flow_here", "_law_most"]) fun _ _ _ _ _ _ us hl => match us, hl with | [_, _], _ => rfl
  obtain ⟨fd21, D21⟩ := cd.def_ 21 (d := hd_law_parts) rfl
  have F21 : Fun K "_law_parts" "_law_parts" s_law_parts (He.ga K "_law_parts") fd21 := fun_of_D D21
  have g21 : mg "_law_parts" = some (.ref (He.ga K "_law_parts")) := He.glo_ok X G (cd.fact 21 (f := .glo "_law_parts") rfl)
  have b21 := F21.binds (ps := ["_law_tree_here"]) fun _ _ _ _ _ _ us hl => match us, hl with | [_], _ => rfl
  obtain ⟨fd22, D22⟩ := cd.def_ 22 (d := hd_law_value) rfl
  have F22 : Fun K "_law_value" "_law_value" s_law_value (He.ga K "_law_value") fd22 := fun_of_D D22
  have g22 : mg "_law_value" = some (.ref (He.ga K "_law_value")) := He.glo_ok X G (cd.fact 22 (f := .glo "_law_value") rfl)
  have b22 := F22.binds (ps := ["_law_tree_here", "_law_at", "_law_told", "_law_was"]) fun _ _ _ _ _ _ us hl => match us, hl with | [_, _, _, _], _ => rfl
  obtain ⟨fd23, D23⟩ := cd.def_ 23 (d := hd_law_said) rfl
  have F23 : Fun K "_law_said" "_law_said" s_law_said (He.ga K "_law_said") fd23 := fun_of_D D23
  have g23 : mg "_law_said" = some (.ref (He.ga K "_law_said")) := He.glo_ok X G (cd.fact 23 (f := .glo "_law_said") rfl)
  have b23 := F23.binds (ps := ["_law_formulas_here", "_law_rows"]) fun _ _ _ _ _ _ us hl => match us, hl with | [_, _], _ => rfl
  obtain ⟨fd24, D24⟩ := cd.def_ 24 (d := hd_law_comes) rfl
  have F24 : Fun K "_law_comes" "_law_comes" s_law_comes (He.ga K "_law_comes") fd24 := fun_of_D D24
  have g24 : mg "_law_comes" = some (.ref (He.ga K "_law_comes")) := He.glo_ok X G (cd.fact 24 (f := .glo "_law_comes") rfl)
  have b24 := F24.binds (ps := ["_law_flow_here", "_law_formulas_here", "_law_many"]) fun _ _ _ _ _ _ us hl => match us, hl with | [_, _, _], _ => rfl
  obtain ⟨fd25, D25⟩ := cd.def_ 25 (d := hd_law_right) rfl
  have F25 : Fun K "_law_right" "_law_right" s_law_right (He.ga K "_law_right") fd25 := fun_of_D D25
  have g25 : mg "_law_right" = some (.ref (He.ga K "_law_right")) := He.glo_ok X G (cd.fact 25 (f := .glo "_law_right") rfl)
  have b25 := F25.binds (ps := ["_law_formulas_here", "_law_rows", "_law_many"]) fun _ _ _ _ _ _ us hl => match us, hl with | [_, _, _], _ => rfl
  obtain ⟨fd26, D26⟩ := cd.def_ 26 (d := hd_law) rfl
  have F26 : Fun K "law" "law" s_law (He.ga K "law") fd26 := fun_of_D D26
  have g26 : mg "law" = some (.ref (He.ga K "law")) := He.glo_ok X G (cd.fact 26 (f := .glo "law") rfl)
  have ex := c.more
  unfold hEx at ex
  have ex0 := ex
  have T : Top w K mg := ⟨⟨_, fd0, F0, b0, g0⟩, ⟨_, fd1, F1, b1, g1⟩, ⟨_, fd2, F2, b2, g2⟩, ⟨_, fd3, F3, b3, g3⟩, ⟨_, fd4, F4, b4, g4⟩, ⟨_, fd5, F5, b5, g5⟩, ⟨_, fd6, F6, b6, g6⟩, ⟨_, fd7, F7, b7, g7⟩, ⟨_, fd8, F8, b8, g8⟩, ⟨_, fd9, F9, b9, g9⟩, ⟨_, fd10, F10, b10, g10⟩, ⟨_, fd11, F11, b11, g11⟩, ⟨_, fd12, F12, b12, g12⟩, ⟨_, fd13, F13, b13, g13⟩, ⟨_, fd14, F14, b14, g14⟩, ⟨_, fd15, F15, b15, g15⟩, ⟨_, fd16, F16, b16, g16⟩, ⟨_, fd17, F17, b17, g17⟩, ⟨_, fd18, F18, b18, g18⟩, ⟨_, fd19, F19, b19, g19⟩, ⟨_, fd20, F20, b20, g20⟩, ⟨_, fd21, F21, b21, g21⟩, ⟨_, fd22, F22, b22, g22⟩, ⟨_, fd23, F23, b23, g23⟩, ⟨_, fd24, F24, b24, g24⟩, ⟨_, fd25, F25, b25, g25⟩, He.free_ok X G (cd.fact 27 (f := .free "any") rfl), He.free_ok X G (cd.fact 28 (f := .free "dict") rfl), He.free_ok X G (cd.fact 29 (f := .free "enumerate") rfl), He.free_ok X G (cd.fact 30 (f := .free "int") rfl), He.free_ok X G (cd.fact 31 (f := .free "isinstance") rfl), He.free_ok X G (cd.fact 32 (f := .free "len") rfl), He.free_ok X G (cd.fact 33 (f := .free "list") rfl), He.free_ok X G (cd.fact 34 (f := .free "max") rfl), He.free_ok X G (cd.fact 35 (f := .free "min") rfl), He.free_ok X G (cd.fact 36 (f := .free "range") rfl), He.free_ok X G (cd.fact 37 (f := .free "repr") rfl), He.free_ok X G (cd.fact 38 (f := .free "tuple") rfl), He.free_ok X G (cd.fact 39 (f := .free "zip") rfl), ⟨_, He.glo_ok X G (cd.fact 40 (f := .glo "NEEDS") rfl), ⟨c.t.tab 0 (t := needsT), fun z hz => needs_yes ex0 hz⟩⟩⟩
  have e := hfa.symm.trans g26
  cases e
  have law_b : ∀ (s : Shared) (v : Value), BindsTo s fd26 ⟨[v], []⟩ [("_law_script", v)] := fun s v => by
    obtain ⟨_, _, _, _, _, _, _, _, _, rfl, _, _⟩ := F26.ex
    exact .of_eq rfl
  refine ⟨fd26, [He.cT K ("hangs_on", none)], sp_law K (He.cT K ("hangs_on", none)).2, fun p hp => ?_, fun p hp => ?_, fun p hp => ?_, law_b, fun H a ns hl _ hT hS => ⟨a, ns, rfl, hS, hl, ⟨#[], hT _ (List.mem_cons_self ..), trivial⟩, fun _ => rfl⟩, fun base _ _ TB => ?_⟩
  · have hin : ∀ p ∈ [He.cT K ("hangs_on", none)], ∃ q ∈ hTf, p = He.cT K q := fun p hp => by
      rcases List.mem_cons.mp hp with rfl | hp
      · exact ⟨_, List.mem_cons_self .., rfl⟩
      cases hp
    obtain ⟨q, hq, rfl⟩ := hin p hp
    exact c.empty _ hq
  · have hin : ∀ p ∈ [He.cT K ("hangs_on", none)], ∃ q ∈ hTf, p = He.cT K q := fun p hp => by
      rcases List.mem_cons.mp hp with rfl | hp
      · exact ⟨_, List.mem_cons_self .., rfl⟩
      cases hp
    obtain ⟨q, hq, rfl⟩ := hin p hp
    exact c.out _ hq
  · have hin : ∀ p ∈ [He.cT K ("hangs_on", none)], ∃ q ∈ hTf, p = He.cT K q := fun p hp => by
      rcases List.mem_cons.mp hp with rfl | hp
      · exact ⟨_, List.mem_cons_self .., rfl⟩
      cases hp
    obtain ⟨q, hq, rfl⟩ := hin p hp
    exact PySem.W.codeHd_of_K X (c.hd _ hq)
  have TB0 := TB _ (List.mem_cons_self ..)
  have TC0 : GxR.TabB base mg (He.codeOf K ("hangs_on", none)) (He.tabOf K (He.codeOf K ("hangs_on", none))) := ⟨TB0.code, TB0.bm, TB0.gP⟩
  haveI : TabH K mg base _ _ := ⟨TC0, fun f fd F m => by
    have e := m.symm.trans g8
    cases e
    obtain ⟨_, _, _, _, _, _, cdv, _, _, rfl, lk, ci⟩ := F.ex
    obtain ⟨c0, rfl⟩ := He.codeIn_ref ci
    exact congrArg Value.ref (He.codeOf_eq (p := ("hangs_on", none)) lk rfl).symm⟩
  exact ok_law F26 T
end Mine
open PySem PySem.W PySem.Calls PyProof.Rows
set_option maxRecDepth 100000 in
set_option maxHeartbeats 0 in
theorem PySem.Challenge.cw_beltshift_k23_what_formulas_say_holds : PySem.Challenge.rw_beltshift_k23_what_formulas_say.Holds := by
  w_on; o_law
  o_head Mine.hk
  case hw => w_witness2
  case hc =>
    refine Mine.walkGT (l := PySem.Challenge.rw_beltshift_k23_what_formulas_say) (n := 63) (k := 14) (x := "_law_script") (CX := fun _ => L2.CX0) rfl (by decide) (by kernel_rfl) ⟨rfl, by decide, by decide⟩ ?F (fun _ _ _ _ _ z => z)
    intro w mg fa h Y G hmg0
    obtain ⟨K, KX, c⟩ := Y
    have hmg : mg ("law" : PySem.Str) = some (.ref fa) := by
      have e : (HandSHeadRun.topDef Mine.hR.prog 31).name = ("law" : PySem.Str) := by kernel_rfl
      rw [← e]
      exact hmg0
    exact ⟨K, KX, Mine.all_mkX KX G hmg c⟩
