import PyProof.Rows.All
import Wide.All
import OpenK.AllK
import Wide.FinOn
import HandS.ForMost
import HandS.AnyAll
import HandS.IsInst
import HandS.EndTab
import HandS.Head0
import HandS.Head1
import HandS.Head2
import HandS.HeadEnd
import HandS.HeadHook4
import HandS.HeadWalk
import HandS.SortKw
import PyProof.WalkInts
import HandS.Defaults
import HandS.TupAny
import HandS.BoundList
import HandS.Deep
import HandS.Style
import PySem.Challenge.RW_faultsheaves_k21_tests_judged
set_option Elab.async false
set_option linter.all false
set_option maxRecDepth 100000
set_option maxHeartbeats 16000000
/-! The text by places; what is kept of a heap; the pot and its digits. -/
namespace Fs
open PySem L2
def top (i : Nat) : Stmt := PySem.Challenge.pw_faultsheaves_k21_tests_judged.main.body.getD i (.Pass ⟨0, 0, 0, 0⟩)

/-! ### heaps -/
/-- all that was tracked stands, but at the places of ex -/
def Keep (ex : List Addr) (H H' : Hp) : Prop := ∀ b o, b ∉ ex → H b = some o → H' b = some o
theorem Keep.refl (ex : List Addr) (H : Hp) : Keep ex H H := fun _ _ _ h => h
theorem Keep.trans {ex : List Addr} {H H1 H2 : Hp} (a : Keep ex H H1) (b : Keep ex H1 H2) : Keep ex H H2 := fun c o n h => b c o n (a c o n h)
theorem Keep.more {ex ex' : List Addr} {H H' : Hp} (a : Keep ex H H') (h : ∀ b, b ∈ ex → b ∈ ex') : Keep ex' H H' := fun c o n q => a c o (fun z => n (h c z)) q
theorem Keep.at {ex : List Addr} {H H' : Hp} (a : Keep ex H H') {b : Addr} {o : HO} (h : H b = some o) (n : b ∉ ex) : H' b = some o := a b o n h
theorem Keep.new {ex : List Addr} {H : Hp} {p : Addr} {o : HO} (h : H p = none) : Keep ex H (upd H p o) := fun b u _ q => by
  rw [upd_ne (ne_of_none q h)]
  exact q
theorem Keep.own {ex : List Addr} {H : Hp} {p : Addr} {o : HO} (h : p ∈ ex) : Keep ex H (upd H p o) := fun b u n q => by
  rw [upd_ne (fun z => n (by rw [z]; exact h))]
  exact q
theorem Keep.newTo {ex : List Addr} {H H1 : Hp} {p : Addr} {o : HO} (a : Keep ex H H1) (h : H1 p = none) : Keep ex H (upd H1 p o) := a.trans (.new h)
theorem Keep.ownTo {ex : List Addr} {H H1 : Hp} {p : Addr} {o : HO} (a : Keep ex H H1) (h : p ∈ ex) : Keep ex H (upd H1 p o) := a.trans (.own h)
theorem Keep.ne {ex : List Addr} {H H' : Hp} (a : Keep ex H H') {b p : Addr} {o : HO} (h : H b = some o) (n : b ∉ ex) (hp : H' p = none) : b ≠ p := ne_of_none (a.at h n) hp
theorem Keep.free {ex : List Addr} {H H' : Hp} (a : Keep ex H H') {p : Addr} (hp : H' p = none) (n : p ∉ ex) : H p = none := by
  cases q : H p with
  | none => rfl
  | some o =>
    rw [a p o n q] at hp
    cases hp
theorem Keep.seq {K : PySem.W.Frag} {ex : List Addr} {H H' : Hp} {a : Addr} {xs : List V} (e : Keep ex H H') (n : a ∉ ex) (h : SqL K H a xs) : SqL K H' a xs := by
  rcases h with (h | ⟨o, h⟩) | h
  · exact .inl (.inl (e _ _ n h))
  · exact .inl (.inr ⟨o, e _ _ n h⟩)
  · exact .inr h
theorem Keep.same {H H' : Hp} (a : Keep [] H H') : Same H H' := fun b o h => a b o (fun z => nomatch z) h
theorem nin1 {a b : Addr} (h : a ≠ b) : a ∉ [b] := fun z => h (List.mem_singleton.mp z)
theorem nin0 {a : Addr} : a ∉ ([] : List Addr) := fun z => nomatch z
theorem in1 {a : Addr} : a ∈ [a] := List.mem_singleton.mpr rfl

/-! ### the pot -/
/-- a list of three whole numbers, none below nought, the second one small, the third one at most n -/
def PotAt (H : Hp) (p : Addr) (n : Nat) : Prop := ∃ a b c : Int, H p = some (.lst [.int a, .int b, .int c]) ∧ 0 ≤ a ∧ 0 ≤ b ∧ b < 2147483647 ∧ 0 ≤ c ∧ c ≤ (n : Int)
theorem PotAt.le {H : Hp} {p : Addr} {n m : Nat} (h : PotAt H p n) (l : n ≤ m) : PotAt H p m := by
  obtain ⟨a, b, c, h1, h2, h3, h4, h5, h6⟩ := h
  exact ⟨a, b, c, h1, h2, h3, h4, h5, by omega⟩
theorem PotAt.some {H : Hp} {p : Addr} {n : Nat} (h : PotAt H p n) : ∃ xs, H p = some (.lst xs) := by
  obtain ⟨a, b, c, h1, _⟩ := h
  exact ⟨_, h1⟩
theorem PotAt.keep {H H' : Hp} {ex : List Addr} {p : Addr} {n : Nat} (h : PotAt H p n) (k : Keep ex H H') (m : p ∉ ex) : PotAt H' p n := by
  obtain ⟨a, b, c, h1, h2⟩ := h
  exact ⟨a, b, c, k.at h1 m, h2⟩

abbrev sPot : Stmt := top 14
abbrev sDigit : Stmt := top 15
abbrev nPot : List Str := ["_law_script", "_law_k", "_law_cell", "_law_seed"]
abbrev nDigit : List Str := ["_law_pot_here", "_law_many", "_law_digit_here", "_law_mixed"]
theorem scPot : FnScope nPot ["_law_script", "_law_k"] (defScope sPot) := ⟨rfl, rfl, rfl, by decide +kernel, rfl, by decide +kernel, by decide +kernel⟩
theorem scDigit : FnScope nDigit ["_law_pot_here", "_law_many"] (defScope sDigit) := ⟨rfl, rfl, rfl, by decide +kernel, rfl, by decide +kernel, by decide +kernel⟩
/-- the script stands to be read; a new pot -/
def spPot (K : PySem.W.Frag) : Sp := fun vs H Q _ => ∃ (a : Addr) (ns : List Int) (k : Nat), vs = [.ref a, .int (k : Int)] ∧ SqL K H a (ns.map V.int) ∧ k < 1000 ∧
  ∀ (p : Addr) (H' : Hp), H p = none → Keep [] H H' → PotAt H' p 0 → Q (.ref p) H'
/-- a digit below many; the pot has one step more at the most -/
def spDigit : Sp := fun vs H Q _ => ∃ (p : Addr) (n : Nat) (m : Int), vs = [.ref p, .int m] ∧ PotAt H p n ∧ n < 2 ^ 40 ∧ 0 < m ∧ m < 1073741824 ∧
  ∀ (d : Int) (H' : Hp), 0 ≤ d → d < m → (∀ b, b ≠ p → H' b = H b) → PotAt H' p (n + 1) → Q (.int d) H'
section
variable {P : Program} {w : World} {K : PySem.W.Frag} {mg : Str → Option Value} {base : Heap}
theorem at3 {K : PySem.W.Frag} {H : Hp} {p : Addr} {a b c : V} (h : H p = some (.lst [a, b, c])) : SqL K H p [a, b, c] := SqL.of h
theorem ok_digit {f : Addr} {fd : FuncData} (F : Fun K "_law_digit" "_law_digit" sDigit f fd) : FnOk P w K mg base CX0 1 f fd ["_law_pot_here", "_law_many"] spDigit := by
  refine F.ok scDigit (fun vs H Q E h => ?_) (fun cdv A outer s H vs Q E hr h => ?_)
  · obtain ⟨p, n, m, rfl, _⟩ := h
    rfl
  · obtain ⟨p, n, m, rfl, ⟨a, b, c, hp, ha, hb, hb2, hc, hc2⟩, hn, hm, hm2, k⟩ := h
    refine ⟨_, pss_cons (ps_if (pt_cmpR op_gt (pe_ix ix_list (pv 0) pe_int (fun _ _ => rfl)) pe_int (nomark _))
        (pss_cons (ps_set (i := 2) scDigit.nd rfl (Or.inl rfl) (pe_op op_mod (pe_ix ix_list (pv 0) pe_int (fun _ _ => rfl)) (pv 1)))
          (pss_cons (ps_asg (pe_op op_fdiv (pe_ix ix_list (pv 0) pe_int (fun _ _ => rfl)) (pv 1)) (pg_sub (pv 0) pe_int set_list))
          (pss_one (ps_ret (pv 2))))) pss_nil)
      (pss_cons (ps_asg (pe_op op_add (pe_ix ix_list (pv 0) pe_int (fun _ _ => rfl)) pe_int) (pg_sub (pv 0) pe_int set_list))
      (pss_cons (ps_asg (pe_op op_mod (pe_op op_add (pe_op op_add (pe_op op_mul (pe_ix ix_list (pv 0) pe_int (fun _ _ => rfl)) pe_int)
          (pe_op op_mul (pe_op op_mul (pe_ix ix_list (pv 0) pe_int (fun _ _ => rfl)) (pe_ix ix_list (pv 0) pe_int (fun _ _ => rfl))) pe_int)) pe_int) pe_int) (pg_sub (pv 0) pe_int set_list))
      (pss_cons (ps_set (i := 3) scDigit.nd rfl (Or.inl rfl) (pe_op op_mod (pe_op op_mul (pe_ix ix_list (pv 0) pe_int (fun _ _ => rfl)) (pe_ix ix_list (pv 0) pe_int (fun _ _ => rfl))) pe_int))
      (pss_one (ps_ret (pe_op op_mod (pe_op op_fdiv (pe_op op_mod (pe_op op_mul (pv 3) (pe_op op_add (pe_op op_mod (pv 3) pe_int) pe_int)) pe_int) pe_int) (pv 1))))))), ?_⟩
    have h3 := at3 (K := K) hp
    refine ⟨_, rfl, p, _, _, _, rfl, rfl, h3, rfl, _, _, rfl, rfl, _, rfl, ?_⟩
    refine ite2 (fun hd => ?_) (fun hd => ?_)
    · refine ⟨_, rfl, p, _, _, _, rfl, rfl, h3, rfl, _, rfl, a, m, rfl, rfl, hm, ?_⟩
      refine ⟨_, rfl, p, _, _, _, rfl, rfl, h3, rfl, _, rfl, a, m, rfl, rfl, ⟨hm, hm2⟩, ?_⟩
      refine ⟨_, rfl, p, _, _, 0, rfl, rfl, hp, rfl, ?_⟩
      refine ⟨_, rfl, ?_⟩
      refine k (a % m) _ (Int.emod_nonneg a (by omega)) (Int.emod_lt_of_pos a hm) (fun b hb => upd_ne hb) ⟨a / m, b, c, upd_same, Int.ediv_nonneg ha (by omega), hb, hb2, hc, by omega⟩
    · refine ⟨_, rfl, p, _, _, _, rfl, rfl, h3, rfl, _, _, rfl, rfl, ?_⟩
      refine ⟨_, rfl, p, _, _, 2, rfl, rfl, hp, rfl, ?_⟩
      have e1 : upd H p (.lst [.int a, .int b, .int (c + 1)]) p = some (.lst [.int a, .int b, .int (c + 1)]) := upd_same
      have h4 := at3 (K := K) e1
      have hcM : -(2 ^ 64) < c + 1 ∧ c + 1 < 2 ^ 64 := by omega
      refine ⟨_, rfl, p, _, _, _, rfl, rfl, h4, rfl, _, _, rfl, rfl, .inl (by omega), ?_⟩
      refine ⟨_, rfl, p, _, _, _, rfl, rfl, h4, rfl, _, rfl, p, _, _, _, rfl, rfl, h4, rfl, _, _, rfl, rfl, .inl hcM, ?_⟩
      refine ⟨_, _, rfl, rfl, .inr (by decide), _, _, rfl, rfl, _, _, rfl, rfl, _, _, rfl, rfl, (by show (0 : Int) < 2147483647; decide), ?_⟩
      refine ⟨_, rfl, p, _, _, 1, rfl, rfl, e1, rfl, ?_⟩
      have f1 := Int.emod_nonneg (b * 39373 + (c + 1) * (c + 1) * 104729 + 7) (by decide : (2147483647 : Int) ≠ 0)
      have f2 := Int.emod_lt_of_pos (b * 39373 + (c + 1) * (c + 1) * 104729 + 7) (by decide : (0 : Int) < 2147483647)
      have e2 : upd (upd H p (.lst [.int a, .int b, .int (c + 1)])) p (.lst [.int a, .int ((b * 39373 + (c + 1) * (c + 1) * 104729 + 7) % 2147483647), .int (c + 1)]) p = some (.lst [.int a, .int ((b * 39373 + (c + 1) * (c + 1) * 104729 + 7) % 2147483647), .int (c + 1)]) := upd_same
      have h5 := at3 (K := K) e2
      refine ⟨_, rfl, p, _, _, _, rfl, rfl, h5, rfl, _, rfl, p, _, _, _, rfl, rfl, h5, rfl, _, _, rfl, rfl, .inl ⟨Int.lt_of_lt_of_le (by decide) f1, Int.lt_trans f2 (by decide)⟩, _, _, rfl, rfl, (by show (0 : Int) < 2147483629; decide), ?_⟩
      have mb : ∀ z : Int, -(2 ^ 64) < z % 2147483629 ∧ z % 2147483629 < 2 ^ 64 := fun z => by
        have g1 := Int.emod_nonneg z (by decide : (2147483629 : Int) ≠ 0)
        have g2 := Int.emod_lt_of_pos z (by decide : (0 : Int) < 2147483629)
        omega
      refine ⟨_, rfl, _, rfl, _, _, rfl, rfl, (by show (0 : Int) < 65521; decide), _, _, rfl, rfl, ?_⟩
      refine ⟨_, _, rfl, rfl, .inl (mb _), _, _, rfl, rfl, (by show (0 : Int) < 2147483587; decide), _, _, rfl, rfl, ⟨by decide, by decide⟩, _, rfl, _, _, rfl, rfl, hm, ?_⟩
      refine k _ _ (Int.emod_nonneg _ (by omega)) (Int.emod_lt_of_pos _ hm) (fun z hz => by rw [upd_ne hz, upd_ne hz]) ⟨a, _, c + 1, upd_same, ha, f1, f2, by omega, by omega⟩
theorem ok_pot {f : Addr} {fd : FuncData} (F : Fun K "_law_pot" "_law_pot" sPot f fd) (mL : mg "len" = none) (mM : mg "max" = none) : FnOk P w K mg base CX0 1 f fd ["_law_script", "_law_k"] (spPot K) := by
  refine F.ok scPot (fun vs H Q E h => ?_) (fun cdv A outer s H vs Q E hr h => ?_)
  · obtain ⟨a, ns, k, rfl, _⟩ := h
    rfl
  · obtain ⟨a, ns, k, rfl, hS, hk, kk⟩ := h
    refine ⟨_, pss_cons (ps_set (i := 2) scPot.nd rfl (Or.inl rfl) pe_int)
      (pss_cons (ps_if (pt_cmpR op_lt (pv 1) (pe_callB call_len_seq (by rfl) mL PySem.boot_len (pa_cons (pv 0) pa_nil)) (nomark _))
        (pss_one (ps_set (i := 2) scPot.nd rfl (Or.inl rfl) (pe_ix ix_list (pv 0) (pv 1) (fun _ _ => rfl)))) pss_nil)
      (pss_cons (ps_set (i := 3) scPot.nd rfl (Or.inl rfl) (pe_op op_mod (pe_op op_add (pe_op op_add (pe_op op_mul (pe_op op_mod (pv 2) pe_int) pe_int) (pe_op op_mul (pe_op op_mul pe_int (pv 1)) (pv 1))) pe_int) pe_int))
      (pss_one (ps_ret (pe_lst (pa_cons (pe_callB (call_max2 rfl) (by rfl) mM (by decide +kernel) (pa_cons pe_int (pa_cons (pe_op op_sub (pv 2) (pe_op op_pow pe_int pe_int)) pa_nil))) (pa_cons (pv 3) (pa_cons pe_int pa_nil)))))))), ?_⟩
    have fin : ∀ c : Int, tSeq (tAsg (tOp (rI (fun _ j => 0 < j) fun i j => .int (i % j)) (tOp (rI0 fun i j => .int (i + j)) (tOp (rI0 fun i j => .int (i + j)) (tOp (rI CMul fun i j => .int (i * j)) (tOp (rI (fun _ j => 0 < j) fun i j => .int (i % j)) (tVar 2) (tC (.int 2147483629))) (tC (.int 48271))) (tOp (rI CMul fun i j => .int (i * j)) (tOp (rI CMul fun i j => .int (i * j)) (tC (.int 7919)) (tVar 1)) (tVar 1))) (tC (.int 13))) (tC (.int 2147483647))) (gName 3))
        (tRet (tLst (tCons (tCB (fun xs H Q => ∃ i j, xs = [.int i, .int j] ∧ Q (.int (if j > i then j else i)) H) (tCons (tC (.int 0)) (tCons (tOp (rI0 fun i j => .int (i - j)) (tVar 2) (tOp (rI CPow fun i j => .int (i ^ j.toNat)) (tC (.int 10)) (tC (.int 18)))) tNil))) (tCons (tVar 3) (tCons (tC (.int 0)) tNil))))) { nx := fun _ H' => Q .non H', rt := Q } [some (.ref a), some (.int (k : Int)), some (.int c), none] H := by
      intro c
      refine ⟨_, rfl, _, _, rfl, rfl, (by show (0 : Int) < 2147483629; decide), _, _, rfl, rfl, .inr (by decide), _, rfl, _, _, rfl, rfl, .inl (by decide), ?_⟩
      refine ⟨_, rfl, _, _, rfl, rfl, .inr (by omega), _, _, rfl, rfl, _, _, rfl, rfl, _, _, rfl, rfl, (by show (0 : Int) < 2147483647; decide), ?_⟩
      refine ⟨_, rfl, _, _, rfl, rfl, ⟨by decide, by decide, by decide⟩, _, _, rfl, rfl, _, _, rfl, ?_⟩
      refine ⟨_, rfl, (by show 3 ≤ sizeLine; decide), fun p hp => ?_⟩
      refine kk p _ hp (Keep.new hp) ⟨_, _, _, upd_same, ?_, Int.emod_nonneg _ (by decide), Int.emod_lt_of_pos _ (by decide), Int.le_refl _, Int.le_refl _⟩
      split <;> omega
    refine ⟨_, rfl, _, rfl, a, _, rfl, .inl hS, _, _, rfl, rfl, _, rfl, ?_⟩
    refine ite2 (fun hd => ?_) (fun hd => ?_)
    · have hd2 : k < ns.length := by
        have z := of_decide_eq_true hd
        rw [List.length_map] at z
        omega
      refine ⟨_, rfl, _, rfl, a, _, _, (V.int ns[k]), rfl, rfl, hS, atI_nat (by rw [List.getElem?_map, List.getElem?_eq_getElem hd2]; rfl), ?_⟩
      exact fin _
    · exact fin 0
end
end Fs
/-! The head: what the top has written, by names; the end. -/
namespace Fs
open PySem L2 TL
def d_is_text : He.DefD := ⟨("is_text", none), "is_text", "is_text", defArgs (top 2), defBody (top 2), defScope (top 2), [], []⟩
def d_is_name : He.DefD := ⟨("is_name", none), "is_name", "is_name", defArgs (top 3), defBody (top 3), defScope (top 3), [], []⟩
def d__law_pot : He.DefD := ⟨("_law_pot", none), "_law_pot", "_law_pot", defArgs (top 14), defBody (top 14), defScope (top 14), [], []⟩
def d__law_digit : He.DefD := ⟨("_law_digit", none), "_law_digit", "_law_digit", defArgs (top 15), defBody (top 15), defScope (top 15), [], []⟩
def d__law_text : He.DefD := ⟨("_law_text", none), "_law_text", "_law_text", defArgs (top 16), defBody (top 16), defScope (top 16), [], []⟩
def d__law_name : He.DefD := ⟨("_law_name", none), "_law_name", "_law_name", defArgs (top 17), defBody (top 17), defScope (top 17), [], []⟩
def d__law_kinds : He.DefD := ⟨("_law_kinds", none), "_law_kinds", "_law_kinds", defArgs (top 18), defBody (top 18), defScope (top 18), [], []⟩
def d__law_texts : He.DefD := ⟨("_law_texts", none), "_law_texts", "_law_texts", defArgs (top 19), defBody (top 19), defScope (top 19), [], []⟩
def d__law_test : He.DefD := ⟨("_law_test", none), "_law_test", "_law_test", defArgs (top 20), defBody (top 20), defScope (top 20), [], []⟩
def d_is_test : He.DefD := ⟨("is_test", none), "is_test", "is_test", defArgs (top 9), defBody (top 9), defScope (top 9), [], []⟩
def d__is_single : He.DefD := ⟨("_is_single", none), "_is_single", "_is_single", defArgs (top 10), defBody (top 10), defScope (top 10), [], []⟩
def d__law_is_test : He.DefD := ⟨("_law_is_test", none), "_law_is_test", "_law_is_test", defArgs (top 21), defBody (top 21), defScope (top 21), [], []⟩
def d__law_other : He.DefD := ⟨("_law_other", none), "_law_other", "_law_other", defArgs (top 22), defBody (top 22), defScope (top 22), [], []⟩
def d__law_spoilt : He.DefD := ⟨("_law_spoilt", none), "_law_spoilt", "_law_spoilt", defArgs (top 23), defBody (top 23), defScope (top 23), [], []⟩
def d__law_right : He.DefD := ⟨("_law_right", none), "_law_right", "_law_right", defArgs (top 24), defBody (top 24), defScope (top 24), [], []⟩
def d__law_round : He.DefD := ⟨("_law_round", none), "_law_round", "_law_round", defArgs (top 25), defBody (top 25), defScope (top 25), [], []⟩
def d_law : He.DefD := ⟨("law", none), "law", "law", defArgs (top 26), defBody (top 26), defScope (top 26), [], []⟩
def dK_xinitx : He.DefD := ⟨("Kinds", some "__init__"), "__init__", "Kinds.__init__", defArgs (inClass (top 12) 0), defBody (inClass (top 12) 0), defScope (inClass (top 12) 0), [], []⟩
def dK_is_kind : He.DefD := ⟨("Kinds", some "is_kind"), "is_kind", "Kinds.is_kind", defArgs (inClass (top 12) 2), defBody (inClass (top 12) 2), defScope (inClass (top 12) 2), [], []⟩
def dK__check_new : He.DefD := ⟨("Kinds", some "_check_new"), "_check_new", "Kinds._check_new", defArgs (inClass (top 12) 6), defBody (inClass (top 12) 6), defScope (inClass (top 12) 6), [], []⟩
def fn : List He.DefD := [d_is_text, d_is_name, d__law_pot, d__law_digit, d__law_text, d__law_name, d__law_kinds, d__law_texts, d__law_test, d_is_test, d__is_single, d__law_is_test, d__law_other, d__law_spoilt, d__law_right, d__law_round, d_law, dK_xinitx, dK_is_kind, dK__check_new]
def fa : List He.Fa := [.glo "is_text", .glo "is_name", .glo "_law_pot", .glo "_law_digit", .glo "_law_text", .glo "_law_name", .glo "_law_kinds", .glo "_law_texts", .glo "_law_test", .glo "is_test", .glo "_is_single", .glo "_law_is_test", .glo "_law_other", .glo "_law_spoilt", .glo "_law_right", .glo "_law_round", .glo "law", .glo "Kinds", .free "isinstance", .free "int", .free "bool", .free "str", .free "len", .free "all", .free "max", .free "min", .free "range", .free "tuple", .free "list", .cls "Kinds", .mkr "Kinds", .noat "Kinds" "_above", .meth "Kinds" "is_kind", .meth "Kinds" "_check_new", .glo "_TESTS_BEHIND"]
def ts : List He.Tab := [((fun K => He.ga K "_TESTS_BEHIND"), ["not", "and", "or"])]
def intB (o : Option (Option Value)) (i : Int) : Bool := match o with
  | some (some (.int j _)) => decide (j = i)
  | _ => false
theorem intB_ok {o : Option (Option Value)} {i : Int} (h : intB o i = true) : ∃ u, o = some (some u) ∧ RelV (.int i) u := by
  unfold intB at h
  split at h
  · rename_i j t
    obtain rfl : j = i := of_decide_eq_true h
    exact ⟨_, rfl, t, rfl⟩
  · cases h
def onlyB (K : PySem.W.Frag) : Bool := match K.lookup (He.ga K "_TESTS_BEHIND") with
  | some ⟨_, _, .dict es _, _⟩ => es.toList.all fun e => (e.key.isStr "not" || (e.key.isStr "and" || e.key.isStr "or")) && !e.refKey
  | _ => false
theorem is_two {v : Value} {a b : Str} (h : v.isStr a = true) (h2 : v.isStr b = true) : a = b := by
  cases v <;> simp [Value.isStr] at h h2
  exact h.symm.trans h2
theorem only_no {K : PySem.W.Frag} (h : onlyB K = true) (z : Str) (n1 : z ≠ "not") (n2 : z ≠ "and") (n3 : z ≠ "or") : PySem.W.nsIn K (He.ga K "_TESTS_BEHIND") z = some none := by
  unfold onlyB at h
  unfold PySem.W.nsIn
  split at h
  · rename_i es n sl q
    rw [q]
    have h := List.all_eq_true.mp h
    have f1 : es.toList.find? (fun e => e.key.isStr z) = none := List.find?_eq_none.mpr fun e he c => by
      have := h e he
      rw [Bool.and_eq_true, Bool.or_eq_true, Bool.or_eq_true] at this
      rcases this.1 with q | q | q
      · exact n1 (is_two c q)
      · exact n2 (is_two c q)
      · exact n3 (is_two c q)
    have f2 : es.toList.any (fun e => e.refKey) = false := by
      rw [Bool.eq_false_iff]
      intro c
      obtain ⟨e, he, c⟩ := List.any_eq_true.mp c
      have := h e he
      rw [Bool.and_eq_true, c] at this
      exact absurd this.2 (by decide)
    show (match es.toList.find? (fun e => e.key.isStr z) with | some e => some (some e.val) | none => if es.toList.any (fun e => e.refKey) then none else some none) = some none
    rw [f1, f2]
    rfl
  · cases h
def exB (K : PySem.W.Frag) : Bool := onlyB K && (intB (PySem.W.nsIn K (He.ga K "_TESTS_BEHIND") "not") 1 && (intB (PySem.W.nsIn K (He.ga K "_TESTS_BEHIND") "and") 2 && (intB (PySem.W.nsIn K (He.ga K "_TESTS_BEHIND") "or") 2 && (decide (PySem.W.nsIn K (He.ga K "_TESTS_BEHIND") "kind" = some none) && (decide (PySem.W.nsIn K (He.ga K "_TESTS_BEHIND") "says" = some none) && decide (PySem.W.nsIn K (He.ga K "_TESTS_BEHIND") "noted" = some none))))))
def tf : List He.Defn := [("is_name", none)]
abbrev R : PySem.W.OpenRow := PySem.W.OpenLaw.row PySem.Challenge.rw_faultsheaves_k21_tests_judged
abbrev hk : PySem.W.Hook := He.hookX 6 fa fn ts tf exB
def ob (s : PySem.W.SharedT) : He.AlX := He.obsX 6 fa fn ts tf exB (HandSHeadRun.getT s)
theorem ob_eq (s : PySem.W.SharedT) : ob s = hk.obs s.abs := He.obsX_eq (HandSHeadRun.getT_eq s)
def loose : List Str := ["__name__", "_wall", "is_text", "is_name", "FaultError", "NoKind", "_TESTS_BEHIND", "is_test", "_is_single", "Kinds", "_law_pot", "_law_digit", "_law_text", "_law_name", "_law_kinds", "_law_texts", "_law_test", "_law_is_test", "_law_other", "_law_spoilt", "_law_right", "_law_round"]
/-- the world with one of its ways said -/
def setP (p : PySem.Params) (b : Bool) : PySem.Params := { p with followText := fun s => match decide (s = "special-get-raises") with | true => b | false => p.followText s }
def setW (w : World) (b : Bool) : World := { w with params := setP w.params b }
theorem setP_id (p : PySem.Params) : setP p (p.followText "special-get-raises") = p := by
  have e : (fun s => match decide (s = "special-get-raises") with | true => p.followText "special-get-raises" | false => p.followText s) = p.followText := by
    funext s
    by_cases h : s = "special-get-raises"
    · rw [decide_eq_true h, h]
    · rw [decide_eq_false h]
  unfold setP
  rw [e]
theorem setW_id (w : World) : setW w (w.params.followText "special-get-raises") = w := by
  unfold setW
  rw [setP_id]
theorem run1 (w : World) : HandSHeadRun.RunEq R (PySem.W.view R.prog [26]) hk ob 9000 loose (setW w true) := by
  intro os
  kernel_rfl
theorem run0 (w : World) : HandSHeadRun.RunEq R (PySem.W.view R.prog [26]) hk ob 9000 loose (setW w false) := by
  intro os
  kernel_rfl
theorem run (w : World) : HandSHeadRun.RunEq R (PySem.W.view R.prog [26]) hk ob 9000 loose w := by
  rw [← setW_id w]
  cases h : w.params.followText "special-get-raises" with
  | true => exact run1 w
  | false => exact run0 w
end Fs
/-! Names and texts by digits. -/
namespace Fs
open PySem L2 TL
abbrev sText : Stmt := top 16
abbrev sName : Stmt := top 17
abbrev nText : List Str := ["_law_pot_here", "_law_signs", "_law_size", "_law_k"]
abbrev nName : List Str := ["_law_pot_here", "_law_k"]
theorem scText : FnScope nText ["_law_pot_here"] (defScope sText) := ⟨rfl, rfl, rfl, by decide +kernel, rfl, by decide +kernel, by decide +kernel⟩
theorem scName : FnScope nName ["_law_pot_here"] (defScope sName) := ⟨rfl, rfl, rfl, by decide +kernel, rfl, by decide +kernel, by decide +kernel⟩
/-- a sign of a to z -/
def small (c : Nat) : Bool := decide (97 ≤ c) && decide (c ≤ 122)
/-- a text of one to eight small letters -/
def IsNm (z : Str) : Prop := 1 ≤ z.cps.toList.length ∧ z.cps.toList.length ≤ 8 ∧ ∀ c ∈ z.cps.toList, small c = true
/-- a text of at most forty signs, none of them beyond the first hundred and twenty-eight -/
def IsTx (z : Str) : Prop := z.cps.toList.length ≤ 40 ∧ ∀ c ∈ z.cps.toList, c < 128
/-- the pot alone is another -/
def spName : Sp := fun vs H Q _ => ∃ (p : Addr) (n : Nat), vs = [.ref p] ∧ PotAt H p n ∧ n < 2 ^ 39 ∧
  ∀ (z : Str) (H' : Hp), IsNm z → Keep [p] H H' → PotAt H' p (n + 9) → Q (.str z) H'
def spText : Sp := fun vs H Q _ => ∃ (p : Addr) (n : Nat), vs = [.ref p] ∧ PotAt H p n ∧ n < 2 ^ 39 ∧
  ∀ (z : Str) (H' : Hp), IsTx z → Keep [p] H H' → PotAt H' p (n + 43) → Q (.str z) H'
abbrev one (c : Nat) : Str := ⟨#[c]⟩
theorem tyes {σ : L2.St} {H : Hp} {A B : Hp → Prop} (h : A H) : tYes σ H fun b H3 => if b = true then A H3 else B H3 := by
  show if true = true then A H else B H
  exact iteT h
theorem joinL_ones : ∀ cs : List Nat, joinL [] (cs.map fun c => [c]) = cs
  | [] => rfl
  | [c] => rfl
  | c :: d :: r => by
    have ih := joinL_ones (d :: r)
    show [c] ++ ([] ++ joinL [] ((d :: r).map fun c => [c])) = c :: d :: r
    rw [ih]
    rfl
theorem tl_empty : tl (Str.ofString "") = [] := by decide +kernel
theorem join_ones (cs : List Nat) : (Txt.join (Str.ofString "") (cs.map one)).cps.toList = cs := by
  have h := tl_join (Str.ofString "") (cs.map one)
  rw [tl_empty, List.map_map] at h
  have e : (cs.map (tl ∘ one)) = cs.map fun c => [c] := List.map_congr_left fun c _ => rfl
  rw [e, joinL_ones] at h
  rw [join_eq]
  exact h
theorem sum_ones (cs : List Nat) : ((cs.map one).map (·.length)).sum = cs.length := by
  induction cs with
  | nil => rfl
  | cons c r ih =>
    rw [List.map_cons, List.map_cons, List.sum_cons, ih, List.length_cons]
    show 1 + r.length = r.length + 1
    omega
theorem one_map (cs : List Nat) : (cs.map one).map V.str = cs.map fun c => V.str (one c) := List.map_map ..
theorem digit_at {l : List Nat} {d : Int} (h0 : 0 ≤ d) (h1 : d < (l.length : Int)) : ∃ c, c ∈ l ∧ atI l d = some c := by
  have h2 : d.toNat < l.length := by omega
  refine ⟨l[d.toNat], List.getElem_mem h2, ?_⟩
  have e : ((d.toNat : Nat) : Int) = d := Int.toNat_of_nonneg h0
  have h3 := atI_nat (List.getElem?_eq_getElem h2)
  rw [e] at h3
  exact h3
theorem signs_turn {tz : TE} {σ2 : St} {H : Hp} {p D : Addr} {n : Nat} {z : Str} {m : Int} {acc : List V} {R : Hp → Prop} (hσ : σ2[0]? = some (some (.ref p))) (hz : ∀ (H : Hp) (Q : VK), Q (.str z) H → tz σ2 H Q)
    (hp : PotAt H p n) (hn : n < 2 ^ 40) (hm : m = (z.cps.toList.length : Int)) (hm0 : 0 < m) (hm1 : m < 1000) (hD : H D = some (.lst acc)) (ha : acc.length < sizeLine) (np : D ≠ p)
    (go : ∀ (c : Nat) (H' : Hp), c ∈ z.cps.toList → (∀ b, b ≠ p → H' b = H b) → PotAt H' p (n + 1) → R (upd H' D (.lst (acc ++ [.str (one c)])))) :
    tOp rIxS tz (tCall spDigit [] E0 (tCons (tVar 0) (tCons (tC (.int m)) tNil))) σ2 H fun y H4 => ∃ acc, H4 D = some (.lst acc) ∧ acc.length < sizeLine ∧ R (upd H4 D (.lst (acc ++ [y]))) := by
  refine hz H _ ⟨_, hσ, p, n, m, rfl, hp, hn, hm0, by omega, fun d H' d0 d1 hk hp' => ?_⟩
  obtain ⟨c, hc, he⟩ := digit_at (l := z.cps.toList) d0 (by omega)
  have hzl : z.length = z.cps.toList.length := by simp [Str.length]
  refine ⟨z, d, c, rfl, rfl, ?_, he, acc, by rw [hk D np]; exact hD, ha, go c H' hc hk hp'⟩
  exact Nat.le_of_lt (Nat.lt_of_lt_of_le (by omega : z.length < 1000) (by decide))
/-- the whole list of signs: an invariant for lc_range -/
def SgAt (H0 : Hp) (p D : Addr) (n : Nat) (g : Nat → Prop) (i : Nat) (H : Hp) : Prop :=
  ∃ cs : List Nat, cs.length = i ∧ (∀ c ∈ cs, g c) ∧ H D = some (.lst (cs.map fun c => V.str (one c))) ∧ PotAt H p (n + i) ∧ Keep [p] H0 H
theorem SgAt.start {H0 : Hp} {p D : Addr} {n : Nat} {g : Nat → Prop} (hp : PotAt H0 p n) (hD : H0 D = none) : SgAt H0 p D n g 0 (upd H0 D (.lst [])) := by
  obtain ⟨xs, e⟩ := hp.some
  have np : p ≠ D := ne_of_none e hD
  exact ⟨[], rfl, fun _ h => absurd h List.not_mem_nil, upd_same, hp.keep (ex := []) (Keep.new hD) (fun z => nomatch z), Keep.new hD⟩
theorem SgAt.next {H0 H H' : Hp} {p D : Addr} {n : Nat} {g : Nat → Prop} {i : Nat} {c : Nat} {cs : List Nat} (hD : H0 D = none) (np : D ≠ p) (hl : cs.length = i) (hg : ∀ c ∈ cs, g c) (k : Keep [p] H0 H) (hc : g c) (hk : ∀ b, b ≠ p → H' b = H b) (hp : PotAt H' p (n + i + 1)) :
    SgAt H0 p D n g (i + 1) (upd H' D (.lst ((cs.map fun c => V.str (one c)) ++ [.str (one c)]))) := by
  refine ⟨cs ++ [c], by rw [List.length_append, hl]; rfl, fun x hx => ?_, by rw [upd_same, List.map_append]; rfl, ?_, ?_⟩
  · rcases List.mem_append.mp hx with h | h
    · exact hg x h
    · rw [List.mem_singleton.mp h]
      exact hc
  · obtain ⟨a, b, c, h1, h2⟩ := hp
    exact ⟨a, b, c, by rw [upd_ne (Ne.symm np)]; exact h1, h2⟩
  · intro b o hb e
    have nb : b ≠ p := fun z => hb (by rw [z]; exact in1)
    rw [upd_ne (ne_of_none e hD), hk b nb]
    exact k b o hb e
section
variable {P : Program} {w : World} {K : PySem.W.Frag} {mg : Str → Option Value} {base : Heap}
theorem letters_small : ∀ c ∈ (Str.ofString "abcdefghijklmnopqrstuvwxyz").cps.toList, small c = true := by decide +kernel
theorem letters_len : (Str.ofString "abcdefghijklmnopqrstuvwxyz").cps.toList.length = 26 := by decide +kernel
theorem ok_name {f fD : Addr} {fd fdD : FuncData} (F : Fun K "_law_name" "_law_name" sName f fd) (FD : FnOk P w K mg base CX0 1 fD fdD ["_law_pot_here", "_law_many"] spDigit) (mD : mg "_law_digit" = some (.ref fD)) (kD : PySem.W.keepIn K (.ref fD) = true) (bD : Binds K fdD ["_law_pot_here", "_law_many"] []) (mR : mg "range" = none) :
    FnOk P w K mg base CX0 2 f fd ["_law_pot_here"] spName := by
  refine F.ok scName (fun vs H Q E h => ?_) (fun cdv A outer s H vs Q E hr h => ?_)
  · obtain ⟨p, n, rfl, _⟩ := h
    rfl
  · obtain ⟨p, n, rfl, hp, hn, kk⟩ := h
    refine ⟨_, pss_one (ps_ret (pe_join pe_str (pe_lc (own := [("_law_k", 1)]) (g := gName 1) (tt := tYes) rfl scName.nd
      (pi_range1 rfl mR (pa_cons (pe_op op_add pe_int (pe_call FD hr rfl mD kD bD .nil pass0 (pa_cons (pv 0) (pa_cons pe_int pa_nil)))) pa_nil))
      (blkOk_by (N := nName) (sc := defScope sName) (by decide +kernel)) (fun _ _ _ _ _ => pg_name (i := 1) scName.nd rfl (Or.inl rfl)) (fun _ _ _ _ _ => pts_nil)
      (fun _ _ _ _ _ => pe_ix ix_str pe_str (pe_call FD hr rfl mD kD bD .nil pass0 (pa_cons (pv 0) (pa_cons pe_int pa_nil))) (fun _ _ => rfl))))), ?_⟩
    refine ⟨⟨_, rfl⟩, _, rfl, p, n, 8, rfl, hp, by omega, by decide, by decide, fun d H1 d0 d1 hk hp1 => ?_⟩
    refine ⟨_, _, rfl, rfl, _, rfl, by omega, by omega, fun D hD => ?_⟩
    obtain ⟨xs, ep⟩ := hp1.some
    have np : D ≠ p := Ne.symm (ne_of_none ep hD)
    obtain ⟨m, hm⟩ : ∃ m : Nat, (1 + d : Int) = (m : Int) := ⟨(1 + d).toNat, by omega⟩
    have em : (1 + d : Int).toNat = m := by omega
    rw [em]
    refine lc_range (lo := 0) (n := m) (SgAt H1 p D (n + 1) fun c => small c = true) (SgAt.start hp1 hD) (fun i H2 hi hI => ?_) (fun H2 hI => ?_)
    · obtain ⟨cs, hl, hg, eD, hp2, k2⟩ := hI
      refine ⟨rfl, tyes ?_⟩
      refine signs_turn (z := Str.ofString "abcdefghijklmnopqrstuvwxyz") (n := n + 1 + i) rfl (fun _ _ q => q) hp2 (by omega) (by rw [letters_len]; rfl) (by decide) (by decide) eD ?_ np fun c H' hc hk' hp' => ?_
      · rw [List.length_map, hl]
        exact Nat.lt_of_lt_of_le (by omega : i < 1000) (by decide)
      · exact SgAt.next hD np hl hg k2 (letters_small c hc) hk' hp'
    · obtain ⟨cs, hl, hg, eD, hp2, k2⟩ := hI
      refine ⟨Str.ofString "", D, cs.map one, rfl, rfl, .inl (SqL.of (by rw [one_map]; exact eD)), ?_, ?_⟩
      · rw [sum_ones, List.length_map, show (Str.ofString "").length = 0 by decide +kernel]
        omega
      · refine kk _ _ ⟨?_, ?_, ?_⟩ (Keep.trans (fun b o hb e => by rw [hk b (fun z => hb (by rw [z]; exact in1))]; exact e) k2) (hp2.le (by omega))
        · rw [join_ones, hl]; omega
        · rw [join_ones, hl]; omega
        · rw [join_ones]; exact hg
theorem signs_ascii : ∀ c ∈ (Str.ofString " !\"#$&'()*+,-./0123456789:;<=>?@ABCDEFGHIJKLMNOPQRSTUVWXYZ[\\]^_`abcdefghijklmnopqrstuvwxyz{|}~").cps.toList, c < 128 := by decide +kernel
theorem signs_len : (Str.ofString " !\"#$&'()*+,-./0123456789:;<=>?@ABCDEFGHIJKLMNOPQRSTUVWXYZ[\\]^_`abcdefghijklmnopqrstuvwxyz{|}~").cps.toList.length = 94 := by decide +kernel
theorem ok_text {f fD : Addr} {fd fdD : FuncData} (F : Fun K "_law_text" "_law_text" sText f fd) (FD : FnOk P w K mg base CX0 1 fD fdD ["_law_pot_here", "_law_many"] spDigit) (mD : mg "_law_digit" = some (.ref fD)) (kD : PySem.W.keepIn K (.ref fD) = true) (bD : Binds K fdD ["_law_pot_here", "_law_many"] []) (mR : mg "range" = none) (mI : mg "int" = none) :
    FnOk P w K mg base CX0 2 f fd ["_law_pot_here"] spText := by
  refine F.ok scText (fun vs H Q E h => ?_) (fun cdv A outer s H vs Q E hr h => ?_)
  · obtain ⟨p, n, rfl, _⟩ := h
    rfl
  · obtain ⟨p, n, rfl, hp, hn, kk⟩ := h
    refine ⟨_, pss_cons (ps_set (i := 1) scText.nd rfl (Or.inr rfl) pe_str)
      (pss_cons (ps_set (i := 2) scText.nd rfl (Or.inl rfl) (pe_ix ix_list (pe_lst (pa_cons (pe_call FD hr rfl mD kD bD .nil pass0 (pa_cons (pv 0) (pa_cons pe_int pa_nil))) (pa_cons (pe_call FD hr rfl mD kD bD .nil pass0 (pa_cons (pv 0) (pa_cons pe_int pa_nil))) pa_nil)))
        (pe_callTy call_int1 (by rfl) mI (by decide +kernel) (pa_cons (pe_cmpR op_eq (pe_call FD hr rfl mD kD bD .nil pass0 (pa_cons (pv 0) (pa_cons pe_int pa_nil))) pe_int (nomark _)) pa_nil)) (fun _ _ => rfl)))
      (pss_one (ps_ret (pe_join pe_str (pe_lc (own := [("_law_k", 3)]) (g := gName 3) (tt := tYes) rfl scText.nd
      (pi_range1 rfl mR (pa_cons (pv 2) pa_nil))
      (blkOk_by (N := nText) (sc := defScope sText) (by decide +kernel)) (fun _ _ _ _ _ => pg_name (i := 3) scText.nd rfl (Or.inl rfl)) (fun _ _ _ _ _ => pts_nil)
      (fun _ _ _ _ _ => pe_ix ix_str (pv 1) (pe_call FD hr rfl mD kD bD .nil pass0 (pa_cons (pv 0) (pa_cons pe_int pa_nil))) (fun _ _ => rfl))))))), ?_⟩
    refine ⟨_, rfl, p, n, 4, rfl, hp, by omega, by decide, by decide, fun d1 H1 a0 a1 hk1 hp1 => ?_⟩
    refine ⟨_, rfl, p, n + 1, 41, rfl, hp1, by omega, by decide, by decide, fun d2 H2 b0 b1 hk2 hp2 => ?_⟩
    refine ⟨(by show 2 ≤ sizeLine; decide), fun L hL => ?_⟩
    obtain ⟨xs2, ep2⟩ := hp2.some
    have npL : p ≠ L := ne_of_none ep2 hL
    refine ⟨_, rfl, p, n + 2, 5, rfl, hp2.keep (ex := []) (Keep.new hL) nin0, by omega, by decide, by decide, fun d3 H3 c0 c1 hk3 hp3 => ?_⟩
    have eL : H3 L = some (.lst [.int d1, .int d2]) := by rw [hk3 L npL.symm, upd_same]
    have k3 : Keep [p] H H3 := fun b o hb e => by
      have nb : b ≠ p := fun z => hb (by rw [z]; exact in1)
      have e1 : H1 b = some o := by rw [hk1 b nb]; exact e
      have e2 : H2 b = some o := by rw [hk2 b nb]; exact e1
      rw [hk3 b nb, upd_ne (ne_of_none e2 hL)]
      exact e2
    refine ⟨rfl, ?_⟩
    have fin : ∀ d : Int, 0 ≤ d → d ≤ 40 → tRet (tM1 (fun x xs H Q => ∃ a p, ∃ ys : List Str, x = .str a ∧ xs = [.ref p] ∧ (SqL K H p (ys.map V.str) ∨ SqT K H p (ys.map V.str)) ∧ (ys.map (·.length)).sum + ys.length * a.length ≤ 16777216 ∧ Q (.str (Txt.join a ys)) H) (tC (.str (Str.ofString "")))
        (tLc (iRng1 (tCons (tVar 2) tNil)) (gName 3) tYes (tOp rIxS (tVar 1) (tCall spDigit [] E0 (tCons (tVar 0) (tCons (tC (.int 94)) tNil)))) [3])) { nx := fun _ H' => Q .non H', rt := Q } [some (.ref p), some (.str (Str.ofString " !\"#$&'()*+,-./0123456789:;<=>?@ABCDEFGHIJKLMNOPQRSTUVWXYZ[\\]^_`abcdefghijklmnopqrstuvwxyz{|}~")), some (.int d), none] H3 := by
      intro d e0 e1
      refine ⟨⟨_, rfl⟩, _, rfl, _, rfl, by omega, by omega, fun D hD => ?_⟩
      obtain ⟨xs, ep⟩ := hp3.some
      have np : D ≠ p := Ne.symm (ne_of_none ep hD)
      obtain ⟨m, rfl⟩ : ∃ m : Nat, d = (m : Int) := ⟨d.toNat, by omega⟩
      rw [Int.toNat_natCast]
      refine lc_range (lo := 0) (n := m) (SgAt H3 p D (n + 3) fun c => c < 128) (SgAt.start hp3 hD) (fun i H4 hi hI => ?_) (fun H4 hI => ?_)
      · obtain ⟨cs, hl, hg, eD, hp4, k4⟩ := hI
        refine ⟨rfl, tyes ?_⟩
        refine signs_turn (z := Str.ofString " !\"#$&'()*+,-./0123456789:;<=>?@ABCDEFGHIJKLMNOPQRSTUVWXYZ[\\]^_`abcdefghijklmnopqrstuvwxyz{|}~") (n := n + 3 + i) rfl (fun _ _ q => ⟨_, rfl, q⟩) hp4 (by omega) (by rw [signs_len]; rfl) (by decide) (by decide) eD ?_ np fun c H' hc hk' hp' => ?_
        · rw [List.length_map, hl]
          exact Nat.lt_of_lt_of_le (by omega : i < 1000) (by decide)
        · exact SgAt.next hD np hl hg k4 (signs_ascii c hc) hk' hp'
      · obtain ⟨cs, hl, hg, eD, hp4, k4⟩ := hI
        refine ⟨Str.ofString "", D, cs.map one, rfl, rfl, .inl (SqL.of (by rw [one_map]; exact eD)), ?_, ?_⟩
        · rw [sum_ones, List.length_map, show (Str.ofString "").length = 0 by decide +kernel]
          omega
        · refine kk _ _ ⟨?_, ?_⟩ (k3.trans k4) (hp4.le (by omega))
          · rw [join_ones, hl]; omega
          · rw [join_ones]; exact hg
    by_cases hz : V.int d3 = V.int 0
    · refine .inr ⟨_, rfl, ?_⟩
      rw [decide_eq_true hz]
      exact ⟨L, _, _, _, rfl, rfl, SqL.of eL, rfl, fin d2 b0 (by omega)⟩
    · refine .inr ⟨_, rfl, ?_⟩
      rw [decide_eq_false hz]
      exact ⟨L, _, _, _, rfl, rfl, SqL.of eL, rfl, fin d1 a0 (by omega)⟩
end
end Fs
/-! A name that isn't taken. -/
namespace Fs
open PySem L2 TL
theorem eqV_str (a b : Str) : eqV (.str a) (.str b) = decide (a = b) := by
  by_cases h : a = b
  · rw [decide_eq_true h, h]; simp [eqV]
  · rw [decide_eq_false h]; simp [eqV, h]
theorem inV_strs (z : Str) (ts : List Str) : inV (.str z) (ts.map V.str) = decide (z ∈ ts) := by
  unfold inV
  induction ts with
  | nil => simp
  | cons t r ih =>
    rw [List.map_cons, List.any_cons, ih, eqV_str]
    by_cases h1 : t = z
    · simp [h1]
    · have h2 : ¬ z = t := fun e => h1 e.symm
      simp [h1, h2]
theorem flat_strs (ts : List Str) : (ts.map V.str).all flatV = true := by
  rw [List.all_eq_true]
  intro x hx
  obtain ⟨t, _, e⟩ := List.mem_map.mp hx
  rw [← e]
  rfl
end Fs
/-! The pairs of kinds. -/
namespace Fs
open PySem L2 TL
abbrev sF : Str := Str.ofString "fault"
abbrev sS : Str := Str.ofString "sheaf"
/-- kinds as they are told, one behind another -/
inductive Wf : List (Str × Str) → Prop where
  | nil : Wf []
  | snoc {ps : List (Str × Str)} {z y : Str} : Wf ps → IsNm z → z ∉ sS :: sF :: ps.map Prod.fst → y ∈ sF :: ps.map Prod.fst → Wf (ps ++ [(z, y)])
/-- a tuple a pair -/
def TupsAt (H : Hp) : List Addr → List (Str × Str) → Prop
  | [], [] => True
  | a :: as, q :: ps => H a = some (.tup [.str q.1, .str q.2]) ∧ TupsAt H as ps
  | _, _ => False
theorem TupsAt.len {H : Hp} : ∀ {as : List Addr} {ps : List (Str × Str)}, TupsAt H as ps → as.length = ps.length
  | [], [], _ => rfl
  | _ :: as, _ :: ps, h => by rw [List.length_cons, List.length_cons, TupsAt.len h.2]
  | [], _ :: _, h => h.elim
  | _ :: _, [], h => h.elim
theorem TupsAt.map {H H' : Hp} (k : ∀ a xs, H a = some (.tup xs) → H' a = some (.tup xs)) : ∀ {as : List Addr} {ps : List (Str × Str)}, TupsAt H as ps → TupsAt H' as ps
  | [], [], _ => True.intro
  | _ :: as, _ :: ps, h => ⟨k _ _ h.1, TupsAt.map k h.2⟩
  | [], _ :: _, h => h.elim
  | _ :: _, [], h => h.elim
theorem TupsAt.snoc {H : Hp} {b : Addr} {q : Str × Str} (hb : H b = some (.tup [.str q.1, .str q.2])) : ∀ {as : List Addr} {ps : List (Str × Str)}, TupsAt H as ps → TupsAt H (as ++ [b]) (ps ++ [q])
  | [], [], _ => ⟨hb, True.intro⟩
  | _ :: as, _ :: ps, h => ⟨h.1, TupsAt.snoc hb h.2⟩
  | [], _ :: _, h => h.elim
  | _ :: _, [], h => h.elim
theorem TupsAt.at {H : Hp} : ∀ {as : List Addr} {ps : List (Str × Str)} {i : Nat} {a : Addr}, TupsAt H as ps → as[i]? = some a → ∃ q, ps[i]? = some q ∧ H a = some (.tup [.str q.1, .str q.2])
  | [], _, _, _, _, e => by simp at e
  | _ :: _, [], _, _, h, _ => h.elim
  | b :: as, q :: ps, 0, a, h, e => by
    have e' : b = a := by simpa using e
    subst e'
    exact ⟨q, rfl, h.1⟩
  | b :: as, q :: ps, i + 1, a, h, e => TupsAt.at (i := i) h.2 (by simpa using e)
/-- a list of pairs -/
def PairsAt (H : Hp) (l : Addr) (ps : List (Str × Str)) : Prop := ∃ as : List Addr, H l = some (.lst (as.map V.ref)) ∧ TupsAt H as ps
theorem Keep.tup {ex : List Addr} {H H' : Hp} (k : Keep ex H H') (hx : ∀ b ∈ ex, ∃ o, H b = some o ∧ ∀ xs, o ≠ .tup xs) {a : Addr} {xs : List V} (h : H a = some (.tup xs)) : H' a = some (.tup xs) :=
  k.at h fun z => by
    obtain ⟨o, e, n⟩ := hx a z
    rw [h] at e
    exact n xs (Option.some.inj e).symm
theorem lst_ex {H : Hp} {p : Addr} {xs : List V} (h : H p = some (.lst xs)) : ∀ b ∈ [p], ∃ o, H b = some o ∧ ∀ xs, o ≠ .tup xs := fun b hb => by
  rw [List.mem_singleton.mp hb]
  exact ⟨_, h, fun _ z => nomatch z⟩
theorem PairsAt.keep {ex : List Addr} {H H' : Hp} {l : Addr} {ps : List (Str × Str)} (h : PairsAt H l ps) (k : Keep ex H H') (hl : l ∉ ex) (hx : ∀ b ∈ ex, ∃ o, H b = some o ∧ ∀ xs, o ≠ .tup xs) : PairsAt H' l ps := by
  obtain ⟨as, e, t⟩ := h
  exact ⟨as, k.at e hl, t.map fun a xs q => k.tup hx q⟩
theorem PairsAt.some {H : Hp} {l : Addr} {ps : List (Str × Str)} (h : PairsAt H l ps) : ∃ xs, H l = some (.lst xs) := by
  obtain ⟨as, e, _⟩ := h
  exact ⟨_, e⟩
/-- [name for name, above in pairs]: slots i, j -/
theorem names_run {K : PySem.W.Frag} {l D : Addr} {ps : List (Str × Str)} {i j : Nat} {σ : L2.St} {H1 : Hp} {Qd : Hp → Prop} (h : PairsAt H1 l ps) (hD : H1 D = none) (hlen : ps.length ≤ 1000)
    (hw : ∀ v u, wipe (((wipe σ [i, j]).set i (some v)).set j (some u)) [i, j] = wipe σ [i, j]) (hv : ∀ v u, (((wipe σ [i, j]).set i (some v)).set j (some u))[i]? = some (some v))
    (hq : ∀ H, H D = some (.lst ((ps.map Prod.fst).map V.str)) → Keep [] H1 H → Qd H) :
    ∃ W : Nat → Nat → Hp → Prop, (∃ m, W 0 m (upd H1 D (.lst []))) ∧ ∀ k m H, W k m H →
      ((Itl K l).stop k H ∧ Qd H) ∨ ((Itl K l).go k H ∧ ∃ Nx : Hp → Prop, (∀ H', Nx H' → ∃ m', m' < m ∧ W (k + 1) m' H') ∧ ∀ x H', (Itl K l).yld k H x H' → gTup K 2 (gCons (gName i) (gCons (gName j) gNil)) x (wipe σ [i, j]) H' fun σ2 H2 => wipe σ2 [i, j] = wipe σ [i, j] ∧ tYes σ2 H2 fun b H3 =>
        if b = true then tVar i σ2 H3 fun y H4 => ∃ acc, H4 D = some (.lst acc) ∧ acc.length < sizeLine ∧ Nx (upd H4 D (.lst (acc ++ [y]))) else Nx H3) := by
  obtain ⟨as, e, t⟩ := h
  have hl := t.len
  refine lc_list (K := K) (a := l) (xs := as.map V.ref) (fun k H => H D = some (.lst (((ps.take k).map Prod.fst).map V.str)) ∧ Keep [] H1 H) ⟨upd_same, Keep.new hD⟩ (fun k H _ hI => SqL.of (hI.2.at e nin0)) (fun k x H hx hI => ?_) (fun H hI => ?_)
  · obtain ⟨a, ha, rfl⟩ : ∃ a, as[k]? = some a ∧ x = V.ref a := by
      rw [List.getElem?_map] at hx
      cases q : as[k]? with
      | none => rw [q] at hx; cases hx
      | some a => rw [q] at hx; exact ⟨a, rfl, (Option.some.inj hx).symm⟩
    obtain ⟨q, hq2, hta⟩ := t.at ha
    have hk : k < ps.length := (List.getElem?_eq_some_iff.mp hq2).1
    refine ⟨a, _, rfl, SqT.of (hI.2.at hta nin0), rfl, _, _, rfl, _, _, rfl, rfl, hw _ _, tyes ?_⟩
    refine ⟨_, hv _ _, _, hI.1, ?_, ?_, fun b o hb ho => ?_⟩
    · rw [List.length_map, List.length_map, List.length_take]
      exact Nat.lt_of_le_of_lt (by omega : min k ps.length ≤ 1000) (by decide)
    · rw [upd_same, List.take_add_one, hq2, List.map_append, List.map_append]
      rfl
    · rw [upd_ne (ne_of_none ho hD)]
      exact hI.2 b o hb ho
  · rw [List.length_map, hl, List.take_length] at hI
    exact hq H hI.1 hI.2
theorem Keep.freshTo {ex : List Addr} {H H1 : Hp} {p : Addr} {o : HO} (a : Keep ex H H1) (h : H p = none) : Keep ex H (upd H1 p o) := fun b u n q => by
  rw [upd_ne (ne_of_none q h)]
  exact a b u n q
theorem digit_in {α : Type} {l : List α} {d : Int} (h0 : 0 ≤ d) (h1 : d < (l.length : Int)) : ∃ c, c ∈ l ∧ l[d.toNat]? = some c ∧ ((d.toNat : Nat) : Int) = d := by
  have h2 : d.toNat < l.length := by omega
  exact ⟨l[d.toNat], List.getElem_mem h2, List.getElem?_eq_getElem h2, Int.toNat_of_nonneg h0⟩
theorem keep_of_dig {p : Addr} {H H' : Hp} (h : ∀ b, b ≠ p → H' b = H b) : Keep [p] H H' := fun b o hb e => by
  rw [h b (fun z => hb (by rw [z]; exact in1))]
  exact e
end Fs
/-! The kinds that are drawn; the texts. -/
namespace Fs
open PySem L2 TL
abbrev sKds : Stmt := top 18 --def _law_kinds
abbrev sTxs : Stmt := top 19 --def _law_texts
abbrev nKds : List Str := ["_law_pot_here", "_law_most", "_law_pairs", "_law_k", "_law_name_here", "_law_ahead", "_law_one", "_law_above"]
abbrev nTxs : List Str := ["_law_pot_here", "_law_first"]
theorem scKds : FnScope nKds ["_law_pot_here", "_law_most"] (defScope sKds) := ⟨rfl, rfl, rfl, by decide +kernel, rfl, by decide +kernel, by decide +kernel⟩
theorem scTxs : FnScope nTxs ["_law_pot_here"] (defScope sTxs) := ⟨rfl, rfl, rfl, by decide +kernel, rfl, by decide +kernel, by decide +kernel⟩
def spKds : Sp := fun vs H Q _ => ∃ (p : Addr) (n mo : Nat), vs = [.ref p, .int (mo : Int)] ∧ mo ≤ 12 ∧ PotAt H p n ∧ n < 2 ^ 30 ∧
  ∀ (l : Addr) (ps : List (Str × Str)) (H' : Hp), H l = none → Wf ps → ps.length ≤ mo → PairsAt H' l ps → Keep [p] H H' → PotAt H' p (n + 200) → Q (.ref l) H'
/-- the five texts: the last sign of the third one is an x -/
def TxsOk (tx : List Str) : Prop := tx.length = 5 ∧ ∀ z ∈ tx, IsTx z
def spTxs : Sp := fun vs H Q _ => ∃ (p : Addr) (n : Nat), vs = [.ref p] ∧ PotAt H p n ∧ n < 2 ^ 30 ∧
  ∀ (X : Addr) (tx : List Str) (H' : Hp), H X = none → TxsOk tx → H' X = some (.lst (tx.map V.str)) → Keep [p] H H' → PotAt H' p (n + 200) → Q (.ref X) H'
theorem iteNot {c A B : Prop} [Decidable c] (hc : ¬ c) (h : A) : if (!decide c) = true then A else B := by
  rw [decide_eq_false hc]
  exact iteT h
section
variable {P : Program} {w : World} {K : PySem.W.Frag} {mg : Str → Option Value} {base : Heap} {fD fN fT : Addr}
theorem ok_kds {f : Addr} {fd fdD fdN : FuncData} (F : Fun K "_law_kinds" "_law_kinds" sKds f fd) (FD : FnOk P w K mg base CX0 1 fD fdD ["_law_pot_here", "_law_many"] spDigit) (mD : mg "_law_digit" = some (.ref fD)) (kD : PySem.W.keepIn K (.ref fD) = true) (bD : Binds K fdD ["_law_pot_here", "_law_many"] [])
    (FN : FnOk P w K mg base CX0 2 fN fdN ["_law_pot_here"] spName) (mN : mg "_law_name" = some (.ref fN)) (kN : PySem.W.keepIn K (.ref fN) = true) (bN : Binds K fdN ["_law_pot_here"] []) (mL : mg "len" = none) (mR : mg "range" = none) :
    FnOk P w K mg base CX0 3 f fd ["_law_pot_here", "_law_most"] spKds := by
  refine F.ok scKds (fun vs H Q E h => ?_) (fun cdv A outer s H vs Q E hr h => ?_)
  · obtain ⟨p, n, mo, rfl, _⟩ := h
    rfl
  · obtain ⟨p, n, mo, rfl, hmo, hp, hn, kk⟩ := h
    have hr1 : Room 1 _ := hr.mono (by decide)
    refine ⟨_, pss_cons (ps_set (i := 2) scKds.nd rfl (Or.inl rfl) (pe_lst pa_nil))
      (pss_cons (ps_for PassesOwn.never rfl (pi_range1 rfl mR (pa_cons (pe_call FD hr1 rfl mD kD bD .nil pass0 (pa_cons (pv 0) (pa_cons (pe_op op_add (pv 1) pe_int) pa_nil))) pa_nil)) (pg_name (i := 3) scKds.nd rfl (Or.inl rfl))
        (pss_cons (ps_set (i := 4) scKds.nd rfl (Or.inl rfl) (pe_call FN hr rfl mN kN bN .nil pass0 (pa_cons (pv 0) pa_nil)))
        (pss_cons (ps_set (i := 5) scKds.nd rfl (Or.inl rfl) (pe_op op_cat (pe_lst (pa_cons pe_str pa_nil)) (pe_lc (own := [("_law_one", 6), ("_law_above", 7)]) (g := gTup K 2 (gCons (gName 6) (gCons (gName 7) gNil))) (tt := tYes) (te := tVar 6) rfl scKds.nd (pi_list (pv 2))
          (blkOk_by (N := nKds) (sc := defScope sKds) (by decide +kernel)) (fun _ _ _ _ _ => by exact (pg_tup rfl (pgs_cons (pg_name (i := 6) scKds.nd rfl (Or.inl rfl)) (pgs_cons (pg_name (i := 7) scKds.nd rfl (Or.inl rfl)) pgs_nil)))) (fun _ _ _ _ _ => pts_nil) (fun _ _ _ _ _ => pv 6))))
        (pss_one (ps_if (PW.pt (pw_and (pt_cmpR op_ne (pv 4) pe_str (nomark _)) (pw_and1 (pt_cmpR op_notIn_seq (pv 4) (pv 5) (by rfl)))))
          (pss_one (ps_expr (pe_bm PySem.F.plainAttrs_list PySem.F.slot_list_append PySem.F.type_list_append mt_append (pv 2) (pa_cons (pe_tup (pa_cons (pv 4) (pa_cons (pe_ix ix_list (pv 5) (pe_call FD hr1 rfl mD kD bD .nil pass0 (pa_cons (pv 0) (pa_cons (pe_callB call_len_seq (by rfl) mL PySem.boot_len (pa_cons (pv 5) pa_nil)) pa_nil))) (fun _ _ => rfl)) pa_nil))) pa_nil)))) pss_nil)))))
      (pss_one (ps_ret (pv 2)))), ?_⟩
    refine ⟨Nat.zero_le _, fun l hl => ?_⟩
    have hp0 : PotAt (upd H l (.lst [])) p n := hp.keep (ex := []) (Keep.new hl) nin0
    obtain ⟨x0, ep0⟩ := hp.some
    have nlp : l ≠ p := Ne.symm (ne_of_none ep0 hl)
    refine ⟨_, rfl, _, rfl, _, _, rfl, rfl, p, n, _, rfl, hp0, by omega, by omega, by omega, fun d H1 d0 d1 hk1 hp1 => ?_⟩
    have hl1 : H1 l = some (.lst []) := by rw [hk1 l nlp, upd_same]
    have k1 : Keep [p] H H1 := (Keep.new hl).trans (keep_of_dig hk1)
    obtain ⟨m, rfl⟩ : ∃ m : Nat, d = (m : Int) := ⟨d.toNat, by omega⟩
    refine ⟨_, rfl, by omega, by omega, ?_⟩
    rw [Int.toNat_natCast]
    refine for_range (lo := 0) (n := m) (fun i σ H' => ∃ (ps : List (Str × Str)) (v3 v4 v5 v6 v7 : Option V), σ = [some (.ref p), some (.int (mo : Int)), some (.ref l), v3, v4, v5, v6, v7] ∧ Wf ps ∧ ps.length ≤ i ∧ PairsAt H' l ps ∧ PotAt H' p (n + 1 + 10 * i) ∧ Keep [p] H H')
      ⟨[], none, none, none, none, none, rfl, .nil, Nat.le_refl _, ⟨[], hl1, True.intro⟩, hp1, k1⟩ ?_ ?_
    · rintro i σ H2 hi ⟨ps, v3, v4, v5, v6, v7, rfl, hw, hlen, hP, hp2, k2⟩
      -- name
      refine ⟨_, rfl, p, _, rfl, hp2, by omega, fun z H3 hz k3 hp3 => ?_⟩
      obtain ⟨x2, ep2⟩ := hp2.some
      have hP3 : PairsAt H3 l ps := hP.keep k3 (nin1 nlp) (lst_ex ep2)
      -- ahead
      refine ⟨(by show 1 ≤ sizeLine; decide), fun a ha => ?_⟩
      have h1 : PairsAt (upd H3 a (.lst [.str sF])) l ps := hP3.keep (ex := []) (Keep.new ha) nin0 (fun _ z => absurd z nin0)
      obtain ⟨xs, el⟩ := h1.some
      refine ⟨_, rfl, l, rfl, ⟨_, SqL.of el⟩, fun D hD => ?_⟩
      refine names_run (K := K) (i := 6) (j := 7) h1 hD (by omega) (fun _ _ => rfl) (fun _ _ => rfl) fun H4 e4 k4 => ?_
      have ea : H4 a = some (.lst [.str sF]) := k4.at upd_same nin0
      refine ⟨a, D, _, _, rfl, rfl, ea, e4, ?_, fun b hb => ?_⟩
      · show ([V.str sF] : List V).length + _ ≤ sizeLine
        rw [List.length_map, List.length_map]
        exact Nat.le_trans (by show 1 + ps.length ≤ 1000; omega) (by decide)
      have k5 : Keep [] H3 (upd H4 b (.lst ([V.str sF] ++ (ps.map Prod.fst).map V.str))) := ((Keep.new ha).trans k4).newTo hb
      have eb5 : (upd H4 b (.lst ([V.str sF] ++ (ps.map Prod.fst).map V.str))) b = some (.lst ((sF :: ps.map Prod.fst).map V.str)) := upd_same
      generalize (upd H4 b (.lst ([V.str sF] ++ (ps.map Prod.fst).map V.str))) = H5 at k5 eb5 ⊢
      have k25 : Keep [p] H2 H5 := k3.trans (k5.more fun b z => absurd z nin0)
      have hp5 := hp3.keep k5 nin0
      have hP5 := hP3.keep k5 nin0 (fun _ z => absurd z nin0)
      have skip : ∃ (ps : List (Str × Str)) (w3 w4 w5 w6 w7 : Option V), [some (.ref p), some (.int (mo : Int)), some (.ref l), some (.int (0 + (i : Int))), some (.str z), some (.ref b), v6, v7] = [some (.ref p), some (.int (mo : Int)), some (.ref l), w3, w4, w5, w6, w7] ∧ Wf ps ∧ ps.length ≤ i + 1 ∧ PairsAt H5 l ps ∧ PotAt H5 p (n + 1 + 10 * (i + 1)) ∧ Keep [p] H H5 :=
        ⟨ps, _, _, _, _, _, rfl, hw, by omega, hP5, hp5.le (by omega), k2.trans k25⟩
      refine ⟨_, rfl, rfl, _, rfl, ?_⟩
      by_cases zS : z = sS
      · exact iteNS (by rw [zS]) skip
      refine iteNot (fun q => zS (V.str.inj q)) ?_
      refine ⟨_, rfl, _, rfl, b, _, rfl, .inl (SqL.of eb5), rfl, flat_strs _, _, rfl, ?_⟩
      rw [inV_strs]
      by_cases zA : z ∈ sF :: ps.map Prod.fst
      · rw [decide_eq_true zA]
        exact iteF skip
      rw [decide_eq_false zA]
      refine iteT ?_
      obtain ⟨as, el6, tl6⟩ := hP5
      obtain ⟨x5, ep5⟩ := hp5.some
      have nbp : b ≠ p := fun q => by rw [q, ep5] at eb5; exact absurd eb5 (by
        obtain ⟨_, _, _, e, _⟩ := hp5
        rw [ep5] at e
        intro h
        rw [e] at h
        injection h with h
        injection h with h
        cases h)
      refine ⟨_, rfl, .inl ⟨rfl, _, SqL.of el6⟩, _, rfl, _, rfl, _, rfl, _, rfl, b, _, rfl, .inl (SqL.of eb5), p, _, _, rfl, hp5, by omega, ?_, ?_, fun e H7 e0 e1 hk7 hp7 => ?_⟩
      · rw [List.length_map, List.length_cons]; omega
      · rw [List.length_map, List.length_cons, List.length_map]; omega
      · rw [List.length_map] at e1
        obtain ⟨y, hy, hy2, hy3⟩ := digit_in (l := sF :: ps.map Prod.fst) e0 e1
        have k7 : Keep [p] H5 H7 := keep_of_dig hk7
        refine ⟨b, _, e, .str y, rfl, rfl, SqL.of (k7.at eb5 (nin1 nbp)), ?_, (by show 2 ≤ sizeLine; decide), fun g hg => ?_⟩
        · rw [← hy3]
          exact atI_nat (by rw [List.getElem?_map, hy2]; rfl)
        have el7 : H7 l = some (.lst (as.map V.ref)) := k7.at el6 (nin1 nlp)
        have nlg : l ≠ g := ne_of_none el7 hg
        refine ⟨l, _, _, rfl, rfl, by rw [upd_ne nlg]; exact el7, ?_, ?_⟩
        · rw [List.length_map, tl6.len]
          exact Nat.lt_of_le_of_lt (by omega : ps.length ≤ 1000) (by decide)
        have tl7 : TupsAt H7 as ps := tl6.map fun a xs q => k7.tup (lst_ex ep5) q
        have tl8 : TupsAt (upd (upd H7 g (.tup [.str z, .str y])) l (.lst (as.map V.ref ++ [V.ref g]))) (as ++ [g]) (ps ++ [(z, y)]) := by
          refine TupsAt.snoc (by rw [upd_ne nlg.symm, upd_same]) (tl7.map fun a xs q => ?_)
          rw [upd_ne (ne_of q el7 (fun z => nomatch z)), upd_ne (ne_of_none q hg)]
          exact q
        refine ⟨ps ++ [(z, y)], _, _, _, _, _, rfl, .snoc hw hz (fun q => ?_) hy, by rw [List.length_append]; show ps.length + 1 ≤ i + 1; omega, ⟨as ++ [g], by rw [upd_same, List.map_append]; rfl, tl8⟩, ?_, ?_⟩
        · rcases List.mem_cons.mp q with q | q
          · exact zS q
          · exact zA q
        · have hp8 : PotAt (upd (upd H7 g (.tup [.str z, .str y])) l (.lst (as.map V.ref ++ [V.ref g]))) p _ :=
            (hp7.keep (ex := []) (Keep.new hg) nin0).keep (ex := [l]) (Keep.own in1) (nin1 nlp.symm)
          exact hp8.le (by omega)
        · exact (((k2.trans k25).trans k7).newTo hg).freshTo hl
    · rintro σ H2 ⟨ps, v3, v4, v5, v6, v7, rfl, hw, hlen, hP, hp2, k2⟩
      exact ⟨_, rfl, kk l ps H2 hl hw (by omega) hP k2 (hp2.le (by omega))⟩
theorem str_cut {z : Str} {m : Nat} (h : IsTx z) : (cutS z none (some (m : Int))).cps.toList.length ≤ m ∧ ∀ c ∈ (cutS z none (some (m : Int))).cps.toList, c < 128 := by
  unfold cutS
  rw [HT.sIx_none, HT.sIx_nat, List.drop_zero, Nat.sub_zero]
  refine ⟨?_, fun c hc => ?_⟩
  · simp only [List.length_take]
    omega
  · exact h.2 c (List.mem_of_mem_take hc)
theorem str_add {a b : Str} : (a ++ b).cps.toList = a.cps.toList ++ b.cps.toList := by
  show (a.cps ++ b.cps).toList = _
  exact Array.toList_append
theorem ok_txs {f : Addr} {fd fdT : FuncData} (F : Fun K "_law_texts" "_law_texts" sTxs f fd) (FT : FnOk P w K mg base CX0 2 fT fdT ["_law_pot_here"] spText) (mT : mg "_law_text" = some (.ref fT)) (kT : PySem.W.keepIn K (.ref fT) = true) (bT : Binds K fdT ["_law_pot_here"] []) :
    FnOk P w K mg base CX0 3 f fd ["_law_pot_here"] spTxs := by
  refine F.ok scTxs (fun vs H Q E h => ?_) (fun cdv A outer s H vs Q E hr h => ?_)
  · obtain ⟨p, n, rfl, _⟩ := h
    rfl
  · obtain ⟨p, n, rfl, hp, hn, kk⟩ := h
    refine ⟨_, pss_cons (ps_set (i := 1) scTxs.nd rfl (Or.inl rfl) (pe_call FT hr rfl mT kT bT .nil pass0 (pa_cons (pv 0) pa_nil)))
      (pss_one (ps_ret (pe_lst (pa_cons (pv 1) (pa_cons (pe_call FT hr rfl mT kT bT .nil pass0 (pa_cons (pv 0) pa_nil)) (pa_cons (pe_op op_add_str (pe_slice sl_str (pv 1) po_none (po_some pe_int)) pe_str) (pa_cons pe_str (pa_cons (pe_call FT hr rfl mT kT bT .nil pass0 (pa_cons (pv 0) pa_nil)) pa_nil)))))))), ?_⟩
    refine ⟨_, rfl, p, n, rfl, hp, by omega, fun t1 H1 h1 k1 hp1 => ?_⟩
    refine ⟨_, rfl, _, rfl, p, _, rfl, hp1, by omega, fun t2 H2 h2 k2 hp2 => ?_⟩
    obtain ⟨c1, c2⟩ := str_cut (m := 20) h1
    have l1 : t1.length ≤ 40 := by have := h1.1; simp only [Str.length]; simpa using this
    have hx : IsTx (cutS t1 none (some ((20 : Nat) : Int)) ++ Str.ofString "x") := by
      refine ⟨?_, fun c hc => ?_⟩
      · rw [str_add, List.length_append, show (Str.ofString "x").cps.toList.length = 1 by decide +kernel]
        omega
      · rw [str_add] at hc
        rcases List.mem_append.mp hc with q | q
        · exact c2 c q
        · exact (by decide +kernel : ∀ c ∈ (Str.ofString "x").cps.toList, c < 128) c q
    have he : IsTx (Str.ofString "") := ⟨Nat.zero_le _, fun c hc => by revert c hc; decide +kernel⟩
    refine ⟨_, rfl, _, rfl, _, rfl, Nat.le_trans l1 (by decide), ?_⟩
    refine ⟨_, _, rfl, rfl, ?_, ?_⟩
    · have e : (cutS t1 none (some ((20 : Nat) : Int))).length ≤ 20 := by simp only [Str.length]; simpa using c1
      rw [show (Str.ofString "x").length = 1 by decide +kernel]
      exact Nat.le_trans (Nat.add_le_add_right e 1) (by decide)
    refine ⟨_, rfl, p, _, rfl, hp2, by omega, fun t5 H3 h5 k3 hp3 => ?_⟩
    refine ⟨(by show 5 ≤ sizeLine; decide), fun X hX => ?_⟩
    have k03 := (k1.trans k2).trans k3
    obtain ⟨x3, ep3⟩ := hp3.some
    have hX0 : H X = none := Keep.free k03 hX (nin1 fun z => by rw [z, ep3] at hX; cases hX)
    refine kk X [t1, t2, cutS t1 none (some ((20 : Nat) : Int)) ++ Str.ofString "x", Str.ofString "", t5] _ hX0 ⟨rfl, fun z hz => ?_⟩ upd_same (k03.newTo hX) ((hp3.keep (ex := []) (Keep.new hX) nin0).le (by omega))
    simp only [List.mem_cons, List.not_mem_nil, or_false] at hz
    rcases hz with z | z | z | z | z <;> rw [z] <;> assumption
end
end Fs
/-! max(xs, default=0), xs a list of whole numbers. -/
namespace Fs
open PySem PySem.Spec PyProof.Rows L2 TL
theorem args_maxD (a d : Value) : argsOk "max" ⟨[a], [("default", d)]⟩ := by
  unfold argsOk
  kernel_rfl
section
variable {prog : Program} {w : World} {A : Around} {R : Result → Shared → Prop} {I : Addr} {fp wr : List Addr} {n : Nat} {P : Nat → Value → Prop} {St : Nat → Heap → Prop} {d : Value}
/-- from the second item on -/
theorem maxD_loop (W : Walks prog w A.in1 I fp wr n P St) (bt : Nat → Nat → Bool) (hcmp : CmpOf prog w A.in1 .Gt P bt) (S : Addr) (hSf : S ∉ fp) : ∀ (k j : Nat) (s : Shared) (vb : Value) (c : Nat), n - (j + 1) = k → j + 1 ≤ n → St (j + 1) s.heap → P (argBest bt j) vb → s.heap.get? S = some { cls := .type "list", dict := none, data := .seq #[vb, vb] c, slots := #[] } →
      (∀ v h' tk, P (argBest bt (n - 1)) v → (∀ b o, b ∉ wr → b ≠ S → s.heap.get? b = some o → h'.get? b = some o) → R (.ok (.ret v)) { s with heap := h', toks := tk }) → codeAny (model prog w) A (.builtin "max.loop" ⟨[.ref I, .none, .ref S], [("default", d)]⟩) R s := by
  have hSw : S ∉ wr := fun h => hSf (W.sub _ h)
  have nm : (toString "max" ++ toString ".loop" : String) = "max.loop" := by decide
  intro k
  induction k with
  | zero =>
    intro j s vb c hk hj hst hPb hS hR
    have hin : j + 1 = n := by omega
    refine codeAny_builtin F.entry_max_loop ?_
    rw [Around.under_plainId F.plain_max_loop _]
    show wpAny _ A.in1 (seqItems? (.ref S) >>= _) _ _ s
    refine wpAny_bind (wpAny_seqItems hS rfl ?_)
    show wpAny _ A.in1 (tryCatch (pyNext (.ref I)) _ >>= _) _ _ s
    refine wpAny_bind (wpAny_tryCatch (W.done s _ _ (hin ▸ hst) fun h' tk hk' => ?_))
    have hS' := hk' S _ hSw hS
    show wpAny _ A.in1 (updateSeq S (fun _ => #[]) >>= _) _ _ _
    exact wpAny_bind (wpAny_updateSeq hS' rfl (wpAny_bind (wpAny_letGo (wpAny_pure (hR vb _ tk (by rw [← hin]; exact hPb) fun b o z1 z2 e => (Heap.get?_update_other _ _ (Ne.symm z2)).trans (hk' b o z1 e))))))
  | succ k ih =>
    intro j s vb c hk hj hst hPb hS hR
    have hlt : j + 1 < n := by omega
    refine codeAny_builtin F.entry_max_loop ?_
    rw [Around.under_plainId F.plain_max_loop _]
    show wpAny _ A.in1 (seqItems? (.ref S) >>= _) _ _ s
    refine wpAny_bind (wpAny_seqItems hS rfl ?_)
    show wpAny _ A.in1 (tryCatch (pyNext (.ref I)) _ >>= _) _ _ s
    refine wpAny_bind (wpAny_tryCatch (W.item (j + 1) s _ _ hlt hst fun v h' tk hP hst' hk' => ?_))
    have hS' := hk' S _ hSw hS
    show wpAny _ A.in1 (tryCatch (holding [v, v] (richCompare .Gt v vb >>= _)) _ >>= _) _ _ _
    refine wpAny_bind (wpAny_tryCatch (wpAny_holding (wpAny_bind (hcmp (j + 1) (argBest bt j) v vb _ _ _ hP hPb (wpAny_bind (wpAny_holding (wpAny_truthy_bool (wpAny_bind (wpAny_letGo (wpAny_pure ?_))))))))))
    cases hb : bt (j + 1) (argBest bt j) with
    | true =>
      simp only [if_true]
      refine wpAny_bind (wpAny_updateSeq hS' rfl (wpAny_bind (wpAny_letGo ?_)))
      rw [nm]
      refine wpAny_pure ⟨plainId_quiet F.plain_max_loop _, ih (j + 1) _ v _ (by omega) hlt (W.frame _ _ _ hst' fun b hbf o e => (Heap.get?_update_other _ _ (fun h : S = b => hSf (by rw [h]; exact hbf))).trans e) (by simp only [argBest, hb, if_true]; exact hP) (Heap.get?_update_self _ hS' rfl)
        fun v' h'' tk'' hP' hk'' => hR v' h'' tk'' hP' fun b o z1 z2 e => hk'' b o z1 z2 ((Heap.get?_update_other _ _ (Ne.symm z2)).trans (hk' b o z1 e))⟩
    | false =>
      simp only [Bool.false_eq_true, if_false]
      refine wpAny_bind (wpAny_letGo ?_)
      rw [nm]
      exact wpAny_pure ⟨plainId_quiet F.plain_max_loop _, ih (j + 1) _ vb c (by omega) hlt hst' (by simp only [argBest, hb, Bool.false_eq_true, if_false]; exact hPb) hS' fun v' h'' tk'' hP' hk'' => hR v' h'' tk'' hP' fun b o z1 z2 e => hk'' b o z1 z2 (hk' b o z1 e)⟩
/-- from the start -/
theorem maxD_first (W : Walks prog w A.in1 I fp wr n P St) (bt : Nat → Nat → Bool) (hcmp : CmpOf prog w A.in1 .Gt P bt) (S : Addr) (hSf : S ∉ fp) {s : Shared} {c : Nat} (hst : St 0 s.heap) (hS : s.heap.get? S = some { cls := .type "list", dict := none, data := .seq #[] c, slots := #[] })
    (h0 : n = 0 → ∀ h' tk, (∀ b o, b ∉ wr → b ≠ S → s.heap.get? b = some o → h'.get? b = some o) → R (.ok (.ret d)) { s with heap := h', toks := tk })
    (hR : 0 < n → ∀ v h' tk, P (argBest bt (n - 1)) v → (∀ b o, b ∉ wr → b ≠ S → s.heap.get? b = some o → h'.get? b = some o) → R (.ok (.ret v)) { s with heap := h', toks := tk }) : codeAny (model prog w) A (.builtin "max.loop" ⟨[.ref I, .none, .ref S], [("default", d)]⟩) R s := by
  have hSw : S ∉ wr := fun h => hSf (W.sub _ h)
  have nm : (toString "max" ++ toString ".loop" : String) = "max.loop" := by decide
  refine codeAny_builtin F.entry_max_loop ?_
  rw [Around.under_plainId F.plain_max_loop _]
  show wpAny _ A.in1 (seqItems? (.ref S) >>= _) _ _ s
  refine wpAny_bind (wpAny_seqItems hS rfl ?_)
  show wpAny _ A.in1 (tryCatch (pyNext (.ref I)) _ >>= _) _ _ s
  by_cases hn : 0 < n
  · refine wpAny_bind (wpAny_tryCatch (W.item 0 s _ _ hn hst fun v h' tk hP hst' hk' => ?_))
    have hS' := hk' S _ hSw hS
    show wpAny _ A.in1 (updateSeq S (fun _ => #[v, v]) >>= _) _ _ _
    refine wpAny_bind (wpAny_updateSeq hS' rfl ?_)
    rw [nm]
    exact wpAny_pure ⟨plainId_quiet F.plain_max_loop _, maxD_loop W bt hcmp S hSf _ 0 _ v _ rfl hn (W.frame _ _ _ hst' fun b hbf o e => (Heap.get?_update_other _ _ (fun h : S = b => hSf (by rw [h]; exact hbf))).trans e) hP (Heap.get?_update_self _ hS' rfl)
      fun v' h'' tk'' hP' hk'' => hR hn v' h'' tk'' hP' fun b o z1 z2 e => hk'' b o z1 z2 ((Heap.get?_update_other _ _ (Ne.symm z2)).trans (hk' b o z1 e))⟩
  · have z : n = 0 := by omega
    refine wpAny_bind (wpAny_tryCatch (W.done s _ _ (z ▸ hst) fun h' tk hk' => ?_))
    have hS' := hk' S _ hSw hS
    show wpAny _ A.in1 (rule (toString "max" ++ toString ".default") >>= _) _ _ _
    refine wpAny_bind (wpAny_rule ?_)
    exact wpAny_pure (h0 z h' tk fun b o z1 _ e => hk' b o z1 e)
end
section
variable {prog : Program} {w : World} {A : Around} {E : Value → Shared → Prop} {s : Shared} {l : Addr}
theorem call_treeK {id : String} {b : Builtin} {c : Args} {Q : Value → Shared → Prop} (hk : builtinKind id = none) (hp : plainId id = true) (hb : entryFor table id = some b) (ha : argsOk id c)
    (hc : wpAny (model prog w) A.in1 (b c) (fun fin s' => match fin with | .done f => (match (Except.ok f : Result) with | .ok (.ret v) => Q v s' | .ok _ => False | .error e => E e s') | .again c' => c'.quiet = true ∧ codeAny (model prog w) A c' (fun r s' => match r with | .ok (.ret v) => Q v s' | .ok _ => False | .error e => E e s') s') E s) : wpAny (model prog w) A (call (.builtin id) c.pos c.kw) Q E s := by
  refine wpAny_call (codeAny_call_builtin hp hb ?_)
  simp only [checkBuiltinCall, hk]
  cases hsig : Manifest.signature? id with
  | none => exact wpAny_pure hc
  | some sig =>
    simp only [argsOk, hsig] at ha
    have h2 : Bind.checkArgs id sig c = pure () := ha
    show wpAny _ A.in1 (Bind.checkArgs id sig c) _ _ s
    rw [h2]; exact wpAny_pure hc
theorem maxD_intList {xs : Array (Int × Tok)} {d : Value} {Q : Value → Shared → Prop} (hh : A.handled = none) (hl : s.heap.IsList l (intItems xs))
    (h0 : xs.size = 0 → ∀ h' tk, (∀ b o, s.heap.get? b = some o → h'.get? b = some o) → Q d { s with heap := h', toks := tk })
    (h : 0 < xs.size → ∀ v h' tk, (intItems xs)[argBest (fun i j => decide (numAt xs i > numAt xs j)) (xs.size - 1)]? = some v → (∀ b o, s.heap.get? b = some o → h'.get? b = some o) → Q v { s with heap := h', toks := tk }) : wpAny (model prog w) A (call (.builtin "max") [.ref l] [("default", d)]) Q E s := by
  have nm : (toString "max" ++ toString ".loop" : String) = "max.loop" := by decide
  refine call_treeK (c := ⟨[.ref l], [("default", d)]⟩) F.kind_max F.plain_max F.entry_max (args_maxD _ _) ?_
  show wpAny _ A.in1 (Builtin.Builtins.bindParams "max" ["key", "default"] 0 ⟨[], [("default", d)]⟩ >>= _) _ _ s
  refine wpAny_bind (wpAny_of_eq (show Builtin.Builtins.bindParams "max" ["key", "default"] 0 ⟨[], [("default", d)]⟩ = pure [none, some d] from rfl) ?_)
  refine wpAny_bind (wpAny_pure ?_)
  refine wpAny_bind (iter_intList hl fun s₂ e st hfp hlI => ?_)
  subst e
  refine wpAny_bind (wpAny_newObj_type ?_)
  rw [nm]
  have W : Walks prog w A.in1 s.heap.objs.size _ _ _ _ _ := Walks.list (A := A.in1) hh _ l hlI (intItems xs)
  refine wpAny_pure ⟨plainId_quiet F.plain_max_loop _, maxD_first W (fun i j => decide (numAt xs i > numAt xs j)) (CmpOf.ints_gt (numAt xs) (fun _ _ => intItems_at)) _ (fun hm => Nat.lt_irrefl _ (hfp _ hm)) (W.frame _ _ _ st fun b _ o e => Heap.get?_push_of_some _ e) (Heap.get?_push_size _ rfl) (fun z h' tk hk => ?_) fun z v h' tk hP hk => ?_⟩
  · refine h0 (by simpa [intItems] using z) h' tk (old_kept (l := l) fun b o hb e => ?_)
    exact hk b o (by simpa using hb) (Nat.ne_of_lt (Heap.lt_size e)) (Heap.get?_push_of_some _ e)
  · refine h (by simpa [intItems] using z) v h' tk (by simpa [intItems] using hP) (old_kept (l := l) fun b o hb e => ?_)
    exact hk b o (by simpa using hb) (Nat.ne_of_lt (Heap.lt_size e)) (Heap.get?_push_of_some _ e)
theorem maxD_raw {its : List Value} {ns : List Int} {d : Value} {Q : Value → Shared → Prop} (hh : A.handled = none) (hl : s.heap.IsList l its.toArray) (hi : IntsAre its ns)
    (h0 : ns = [] → ∀ h' tk, (∀ b o, s.heap.get? b = some o → h'.get? b = some o) → Q d { s with heap := h', toks := tk })
    (h : ∀ h' tk M t', (∀ b o, s.heap.get? b = some o → h'.get? b = some o) → M ∈ ns → (∀ a, a ∈ ns → a ≤ M) → Q (.int M t') { s with heap := h', toks := tk }) : wpAny (model prog w) A (call (.builtin "max") [.ref l] [("default", d)]) Q E s := by
  obtain ⟨xs, e⟩ := hi.allInts.items
  have hn : numsOf (intItems xs).toList = ns := by rw [← e]; exact hi.numsOf
  rw [nums_intItems] at hn
  subst hn
  rw [e] at hl
  refine maxD_intList hh hl (fun z h' tk hk => h0 (List.eq_nil_of_length_eq_zero (by simpa using z)) h' tk hk) fun hsz v h' tk hv hk => ?_
  obtain ⟨t, rfl⟩ := intItems_at hv
  obtain ⟨h1, h2⟩ := argBest_gt (numAt xs) (xs.size - 1)
  refine h h' tk _ t hk ?_ fun a ha => ?_
  · rw [numAt_eq]; exact PySem.getD_mem (by rw [List.length_map, Array.length_toList]; omega)
  · obtain ⟨j, hj, rfl⟩ := mem_getD ha
    rw [List.length_map, Array.length_toList] at hj
    rw [← numAt_eq]; exact h2 j (by omega)
end
def rMaxD0 (K : PySem.W.Frag) : List V → List V → Hp → VK → Prop := fun vs zs H Q => ∃ (a : Addr) (ns : List Int) (e : Int), vs = [V.ref a] ∧ zs = [.int e] ∧ SqL K H a (ns.map V.int) ∧ (ns = [] → Q (.int e) H) ∧ ∀ m, m ∈ ns → (∀ y, y ∈ ns → y ≤ m) → Q (.int m) H
theorem cr_maxD0 {X : Cx} (hc : X.calm = true) : CallRK X (.builtin "max") [Str.ofString "default"] (rMaxD0 X.K) := by
  intro pins s σ H vs zs us ws Q I r rz h
  obtain ⟨a, ns, e, rfl, rfl, hs, q0, q⟩ := h
  obtain ⟨its, rv, hl, _⟩ := I.list hs
  rw [Vals.ref1 r]
  obtain ⟨w1, rfl, t, rfl⟩ := vals1 rz
  exact maxD_raw (I.ok.hd hc) hl.isList rv.ints (fun z h' tk hk => ⟨.int _, H, I.kept hk, ⟨_, rfl⟩, q0 z⟩) fun h' tk m t' hk h1 h2 => ⟨.int _, H, I.kept hk, ⟨_, rfl⟩, q m h1 h2⟩
end Fs
/-! What is a whole number, a text, a name; the kinds. -/
namespace Fs
open PySem L2 TL
abbrev sIsText : Stmt := top 2
abbrev sIsName : Stmt := top 3
theorem scIsText : FnScope ["thing"] ["thing"] (defScope sIsText) := ⟨rfl, rfl, rfl, by decide +kernel, rfl, by decide +kernel, by decide +kernel⟩
theorem scIsName : FnScope ["thing"] ["thing"] (defScope sIsName) := ⟨rfl, rfl, rfl, by decide +kernel, rfl, by decide +kernel, by decide +kernel⟩
def spWhole : Sp := fun vs H Q _ => ∃ i : Int, vs = [.int i] ∧ Q (.bl true) H
def spIsText : Sp := fun vs H Q _ => ∃ z : Str, vs = [.str z] ∧ Q (.bl true) H
def spIsName (Pt : Addr) : Sp := fun vs H Q _ => ∃ z : Str, vs = [.str z] ∧ IsNm z ∧ GxR.TabG H Pt ∧ ∀ H2, GxR.Tabbed Pt H H2 → Q (.bl true) H2
/-- 'a' <= sign <= 'z' -/
def pbN (c : Nat) : Bool := (!decide ([c] < (Str.ofString "a").cps.toList)) && (!decide ((Str.ofString "z").cps.toList < [c]))
theorem one_lt {a b : Nat} : ([a] < [b]) ↔ a < b := by
  constructor
  · intro h
    cases h with
    | rel h => exact h
    | cons h => cases h
  · intro h
    exact List.Lex.rel h
theorem pbN_small {c : Nat} (h : small c = true) : pbN c = true := by
  unfold small at h
  simp only [Bool.and_eq_true, decide_eq_true_eq] at h
  have ea : (Str.ofString "a").cps.toList = [97] := by decide +kernel
  have ez : (Str.ofString "z").cps.toList = [122] := by decide +kernel
  have h1 : ¬ ([c] < [97]) := fun q => by have := one_lt.mp q; omega
  have h2 : ¬ ([122] < [c]) := fun q => by have := one_lt.mp q; omega
  unfold pbN
  rw [ea, ez, decide_eq_false h1, decide_eq_false h2]
  rfl
theorem elt_name {prog : Program} {w : World} {scope : Scope} {x : Str} {j1 j2 : Nat} {p1 p2 p3 p4 : Pos} (hk : scope.kind = .function) (hl : scope.names.lookup x = some .local) (hd : (x == ("__debug__" : Str)) = false := by decide) :
    GxR.EltP prog w scope x (.Compare (.Constant (.str "a") j1 p1) [.LtE, .LtE] [.Name x p2, .Constant (.str "z") j2 p3] p4) pbN := by
  intro cenv A' E' c t s₂ m₂ hs hn hm
  have name : ∀ (s : Shared) (Q : Value → Shared → Prop), s.heap.Ns cenv.locals m₂ → Q (.str ⟨#[c]⟩ t) s → wpAny (model prog w) A' (eval (.Name x p2) cenv) Q E' s := fun s Q hn' h =>
    wpAny_Name (wpAny_loadName_local (by rw [hs]; exact hk) (show cenv.scope.names.lookup x = some .local by rw [hs]; exact hl) hn' hm h) hd
  refine PyProof.Rows.Compare_chain (PySem.Calls.Constant_str (PyProof.Rows.chain_link (name _ _ hn (PySem.P.le_str ?_)))) (by with_unfolding_all rfl)
  refine wpAny_truthy_bool ?_
  by_cases h : [c] < (Str.ofString "a").cps.toList
  · have e : pbN c = false := by unfold pbN; rw [decide_eq_true h]; rfl
    have e2 : (!decide ((Str.mk #[c]).cps.toList < (Str.ofString "a").cps.toList)) = false := by
      show (!decide ([c] < _)) = false
      rw [decide_eq_true h]; rfl
    rw [e2]
    exact PyProof.Rows.ite_ff ⟨by rw [e], GxR.keeps_tok _ _⟩
  · have e2 : (!decide ((Str.mk #[c]).cps.toList < (Str.ofString "a").cps.toList)) = true := by
      show (!decide ([c] < _)) = true
      rw [decide_eq_false h]; rfl
    rw [e2]
    refine PyProof.Rows.ite_tt (PyProof.Rows.chain_last (PySem.Calls.Constant_str (PySem.P.le_str ⟨?_, GxR.keeps_tok _ _⟩)))
    · have e : pbN c = (!decide ((Str.ofString "z").cps.toList < [c])) := by unfold pbN; rw [decide_eq_false h]; rfl
      rw [e]
section
variable {P : Program} {w : World} {K : PySem.W.Frag} {mg : Str → Option Value} {base : Heap}
theorem ok_isText {f : Addr} {fd : FuncData} (F : Fun K "is_text" "is_text" sIsText f fd) (mI : mg "isinstance" = none) (mS : mg "str" = none) : FnOk P w K mg base CX0 1 f fd ["thing"] spIsText := by
  refine F.ok scIsText (fun vs H Q E h => ?_) (fun cdv A outer s H vs Q E hr h => ?_)
  · obtain ⟨i, rfl, _⟩ := h
    rfl
  · obtain ⟨i, rfl, kk⟩ := h
    refine ⟨_, pss_one (ps_ret (pe_callB call_isi (by rfl) mI (by decide +kernel) (pa_cons (pv 0) (pa_cons (pe_bltn (v := .ty "str") (u := .type "str") (by rfl) mS (by decide +kernel) rfl) pa_nil)))), ?_⟩
    exact ⟨_, rfl, _, _, _, _, _, rfl, .ty "str", .base (.str i), kit_ty (r := true) (by decide +kernel), kk⟩
theorem ok_isName {f fT c Pt : Addr} {fdT : FuncData} {oc dV kV doc pm ct : Value} {an od : Option Addr} {osl : Array (Option Value)} (lk : K.lookup f = some ⟨oc, od, .func (PySem.W.fnOf "is_name" "is_name" (defArgs sIsName) (defBody sIsName) (defScope sIsName) dV kV doc pm an (.ref c) ct), osl⟩) (hcd : PySem.W.codeIn K (.ref c) "is_name" = true)
    (TB : GxR.TabB base mg c Pt) (FT : FnOk P w K mg base CX0 1 fT fdT ["thing"] spIsText) (mT : mg "is_text" = some (.ref fT)) (kT : PySem.W.keepIn K (.ref fT) = true) (bT : Binds K fdT ["thing"] []) (mL : mg "len" = none) (mA : mg "all" = none) :
    FnOk P w K mg base CX0 2 f (PySem.W.fnOf "is_name" "is_name" (defArgs sIsName) (defBody sIsName) (defScope sIsName) dV kV doc pm an (.ref c) ct) ["thing"] (spIsName Pt) := by
  refine fn_of (CX := CX0) lk hcd scIsName (fun vs H Q E h => ?_) (fun A outer s H vs Q E hr h => ?_)
  · obtain ⟨z, rfl, _⟩ := h
    rfl
  · obtain ⟨z, rfl, ⟨h1, h2, h3⟩, hT, kk⟩ := h
    refine ⟨_, PSs.nox (pss_one (ps_ret (pe_and (pe_call FT hr rfl mT kT bT .nil pass0 (pa_cons (pv 0) pa_nil)) (pe_and (pe_chain op_le op_le pe_int (pe_callB call_len_str (by rfl) mL PySem.boot_len (pa_cons (pv 0) pa_nil)) pe_int)
      (pe_one (GxR.pe_allS hr (by rfl) mA (by decide +kernel) TB rfl ⟨rfl, rfl, by decide +kernel, rfl, rfl, fun y hy e => ?_⟩ (pv 0) (elt_name rfl rfl) (fun v => rfl))))))), ?_⟩
    · have q : ∀ y ∈ ([((".0" : Str), NameKind.local), (("sign" : Str), NameKind.local)] : List (Str × NameKind)), y.2 = NameKind.free → False := by decide
      exact (q y hy e).elim
    have hzl : z.length = z.cps.toList.length := by simp [Str.length]
    refine ⟨_, rfl, z, rfl, true, rfl, iteT ?_⟩
    refine ⟨_, rfl, z, rfl, Nat.le_of_lt (Nat.lt_of_lt_of_le (by omega : z.length < 1000) (by decide)), _, _, rfl, rfl, _, rfl, ?_⟩
    rw [decide_eq_true (show (1 : Int) ≤ (z.length : Int) by omega)]
    refine iteT ⟨_, _, rfl, rfl, _, rfl, ?_⟩
    rw [decide_eq_true (show (z.length : Int) ≤ (8 : Int) by omega)]
    refine iteT ⟨_, rfl, z, rfl, hT, fun H2 hH => ?_⟩
    have ea : z.cps.toList.all pbN = true := List.all_eq_true.mpr fun c hc => pbN_small (h3 c hc)
    rw [ea]
    exact kk H2 hH
end
end Fs
/-! The class of kinds. -/
namespace Fs
open PySem L2 TL
abbrev sKInit : Stmt := inClass (top 12) 0
abbrev sIsKind : Stmt := inClass (top 12) 2
abbrev sChkNew : Stmt := inClass (top 12) 6
theorem scKInit : FnScope ["self", "pairs", "name", "above"] ["self", "pairs"] (defScope sKInit) := ⟨rfl, rfl, rfl, by decide +kernel, rfl, by decide +kernel, by decide +kernel⟩
theorem scIsKind : FnScope ["self", "thing"] ["self", "thing"] (defScope sIsKind) := ⟨rfl, rfl, rfl, by decide +kernel, rfl, by decide +kernel, by decide +kernel⟩
theorem scChkNew : FnScope ["self", "name", "above"] ["self", "name", "above"] (defScope sChkNew) := ⟨rfl, rfl, rfl, by decide +kernel, rfl, by decide +kernel, by decide +kernel⟩
/-- what a kinds' dict holds -/
def kvsOf (ps : List (Str × Str)) : List (Key × V) := [(.inr sF, .non), (.inr sS, .str sF)] ++ ps.map fun q => (.inr q.1, .str q.2)
theorem sFS : ¬ sF = sS := by decide +kernel
theorem kvs_some (z : Str) : ∀ ps : List (Str × Str), (valV (ps.map fun q => ((.inr q.1 : Key), V.str q.2)) (.inr z)).isSome = decide (z ∈ ps.map Prod.fst)
  | [] => rfl
  | q :: r => by
    rw [List.map_cons, List.map_cons]
    by_cases h : q.1 = z
    · rw [valV_pos (by rw [h]), decide_eq_true (by rw [h]; exact List.mem_cons_self)]
      rfl
    · rw [valV_neg (fun e => h (Sum.inr.inj e)), kvs_some z r]
      have h2 : ¬ z = q.1 := fun e => h e.symm
      simp only [List.mem_cons, h2, false_or]
theorem kvs_is (z : Str) (ps : List (Str × Str)) : (valV (kvsOf ps) (.inr z)).isSome = decide (z ∈ sF :: sS :: ps.map Prod.fst) := by
  show (valV ((.inr sF, V.non) :: (.inr sS, V.str sF) :: ps.map fun q => ((.inr q.1 : Key), V.str q.2)) (.inr z)).isSome = _
  by_cases h : sF = z
  · rw [valV_pos (by rw [h]), decide_eq_true (by rw [h]; exact List.mem_cons_self)]
    rfl
  · rw [valV_neg (fun e => h (Sum.inr.inj e))]
    have h' : ¬ z = sF := fun e => h e.symm
    by_cases h2 : sS = z
    · rw [valV_pos (by rw [h2]), decide_eq_true (by rw [h2]; exact List.mem_cons_of_mem _ List.mem_cons_self)]
      rfl
    · have h2' : ¬ z = sS := fun e => h2 e.symm
      rw [valV_neg (fun e => h2 (Sum.inr.inj e)), kvs_some]
      simp only [List.mem_cons, h', h2', false_or]
theorem kvs_put {z y : Str} {ps : List (Str × Str)} (h : z ∉ sF :: sS :: ps.map Prod.fst) : putK (kvsOf ps) (.inr z) (.str y) = kvsOf (ps ++ [(z, y)]) := by
  have hn : ((kvsOf ps).any fun kv => decide (kv.1 = (.inr z : Key))) = false := by
    rw [List.any_eq_false]
    intro kv hkv e
    have e' := of_decide_eq_true e
    rcases List.mem_append.mp hkv with m | m
    · rcases List.mem_cons.mp m with m | m
      · rw [m] at e'
        exact h (by rw [← Sum.inr.inj e']; exact List.mem_cons_self)
      · rw [List.mem_singleton.mp m] at e'
        exact h (by rw [← Sum.inr.inj e']; exact List.mem_cons_of_mem _ List.mem_cons_self)
    · obtain ⟨q, hq, rfl⟩ := List.mem_map.mp m
      exact h (by rw [← Sum.inr.inj e']; exact List.mem_cons_of_mem _ (List.mem_cons_of_mem _ (List.mem_map.mpr ⟨q, hq, rfl⟩)))
  unfold putK
  rw [hn, if_neg Bool.false_ne_true]
  unfold kvsOf
  rw [List.map_append, ← List.append_assoc]
  rfl
theorem kvs_len (ps : List (Str × Str)) : (kvsOf ps).length = ps.length + 2 := by
  unfold kvsOf
  rw [List.length_append, List.length_map]
  show 2 + ps.length = _
  omega
/-- kinds of these pairs at kd, its dict at d -/
def KindsAt (C : Addr) (H : Hp) (kd : Addr) (ps : List (Str × Str)) : Prop := ∃ dx d, H kd = some (.ins C dx [("_above", .ref d)]) ∧ H d = some (.dK (kvsOf ps))
theorem ab_look (v : V) : ([(("_above" : Str), v)] : List (Str × V)).lookup ("_above" : Str) = some v := by simp [List.lookup]
theorem ab_no (v : V) {m : Str} (h : ¬ m = "_above") : ([(("_above" : Str), v)] : List (Str × V)).lookup m = none := by
  have e : (m == ("_above" : Str)) = false := by simpa using h
  simp [List.lookup, e]
theorem KindsAt.keep {C : Addr} {ex : List Addr} {H H' : Hp} {kd : Addr} {ps : List (Str × Str)} (h : KindsAt C H kd ps) (k : Keep ex H H') (hx : ∀ b ∈ ex, ∃ o, H b = some o ∧ (∀ C dx fs, o ≠ .ins C dx fs) ∧ ∀ kvs, o ≠ .dK kvs) : KindsAt C H' kd ps := by
  obtain ⟨dx, d, e1, e2⟩ := h
  refine ⟨dx, d, k.at e1 fun z => ?_, k.at e2 fun z => ?_⟩
  · obtain ⟨o, e, n, _⟩ := hx _ z
    rw [e1] at e
    exact n _ _ _ (Option.some.inj e).symm
  · obtain ⟨o, e, _, n⟩ := hx _ z
    rw [e2] at e
    exact n _ (Option.some.inj e).symm
/-- the class's own text -/
structure KTxt (K : PySem.W.Frag) (mg : Str → Option Value) (C fI fK fN : Addr) : Prop where
  cl : Cls K C
  nA : NoAttr K C "_above"
  mK : Meth K C "is_kind" fK
  mN : Meth K C "_check_new" fN
/-- a new object is told the pairs -/
def spKInit (C Pt : Addr) : Sp := fun vs H Q _ => ∃ (p l dx : Addr) (ps : List (Str × Str)), vs = [.ref p, .ref l] ∧ H p = some (.ins C dx []) ∧ PairsAt H l ps ∧ Wf ps ∧ ps.length ≤ 30 ∧ GxR.TabG H Pt ∧
  ∀ H' : Hp, Keep [p, Pt] H H' → KindsAt C H' p ps → GxR.TabG H' Pt → Q .non H'
theorem Wf.not_sheaf {ps : List (Str × Str)} (h : Wf ps) : ∀ y ∈ sF :: ps.map Prod.fst, ¬ y = sS := by
  induction h with
  | nil =>
    intro y hy e
    rw [List.mem_singleton.mp hy] at e
    exact sFS e
  | @snoc ps z y hw hz hn hy ih =>
    intro x hx e
    rw [List.map_append] at hx
    rcases List.mem_cons.mp hx with q | q
    · exact ih x (by rw [q]; exact List.mem_cons_self) e
    · rcases List.mem_append.mp q with q | q
      · exact ih x (List.mem_cons_of_mem _ q) e
      · have e2 : x = z := by simpa using q
        exact hn (by rw [← e2, e]; exact List.mem_cons_self)
/-- the first pairs, and the next one -/
theorem Wf.step {ps : List (Str × Str)} (h : Wf ps) : ∀ {i : Nat} {q : Str × Str}, ps[i]? = some q → IsNm q.1 ∧ q.1 ∉ sF :: sS :: (ps.take i).map Prod.fst ∧ q.2 ∈ sF :: (ps.take i).map Prod.fst := by
  induction h with
  | nil => intro i q e; simp at e
  | @snoc ps z y hw hz hn hy ih =>
    intro i q e
    by_cases hi : i < ps.length
    · rw [List.getElem?_append_left hi] at e
      rw [List.take_append_of_le_length (Nat.le_of_lt hi)]
      exact ih e
    · have hi2 : i = ps.length := by
        have := (List.getElem?_eq_some_iff.mp e).1
        rw [List.length_append, List.length_singleton] at this
        omega
      subst hi2
      rw [List.getElem?_append_right (Nat.le_refl _), Nat.sub_self] at e
      have e' : (z, y) = q := by simpa using e
      subst e'
      rw [List.take_left]
      refine ⟨hz, fun m => hn ?_, hy⟩
      rcases List.mem_cons.mp m with m | m
      · exact (show z = sF from m) ▸ List.mem_cons_of_mem _ List.mem_cons_self
      · rcases List.mem_cons.mp m with m | m
        · exact (show z = sS from m) ▸ List.mem_cons_self
        · exact List.mem_cons_of_mem _ (List.mem_cons_of_mem _ m)
def spIsKind (C : Addr) : Sp := fun vs H Q _ => ∃ (kd : Addr) (z : Str) (ps : List (Str × Str)), vs = [.ref kd, .str z] ∧ KindsAt C H kd ps ∧ Q (.bl (decide (z ∈ sF :: sS :: ps.map Prod.fst))) H
def spChkNew (C Pt : Addr) : Sp := fun vs H Q _ => ∃ (kd : Addr) (z y : Str) (ps : List (Str × Str)), vs = [.ref kd, .str z, .str y] ∧ KindsAt C H kd ps ∧ IsNm z ∧ z ∉ sF :: sS :: ps.map Prod.fst ∧ y ∈ sF :: ps.map Prod.fst ∧ ¬ y = sS ∧ GxR.TabG H Pt ∧ ∀ H2, GxR.Tabbed Pt H H2 → Q .non H2
theorem tab_keep {Pt : Addr} {H H' : Hp} (h : GxR.Tabbed Pt H H') : Keep [Pt] H H' := fun b o hb e => by
  rw [h.2 b (fun z => hb (by rw [z]; exact in1))]
  exact e
theorem tab_ex {H : Hp} {Pt : Addr} (h : GxR.TabG H Pt) : ∀ b ∈ [Pt], ∃ o, H b = some o ∧ (∀ C dx fs, o ≠ .ins C dx fs) ∧ ∀ kvs, o ≠ .dK kvs := fun b hb => by
  obtain ⟨ps, e, _⟩ := h
  rw [List.mem_singleton.mp hb]
  exact ⟨_, e, (fun _ _ _ z => by cases z), fun _ z => by cases z⟩
section
variable {P : Program} {w : World} {K : PySem.W.Frag} {mg : Str → Option Value} {base : Heap} {C fI fK fN : Addr}
theorem ok_isKind {fT : Addr} {fd fdT : FuncData} (F : Fun K "is_kind" "Kinds.is_kind" sIsKind fK fd) (T : KTxt K mg C fI fK fN) (FT : FnOk P w K mg base CX0 1 fT fdT ["thing"] spIsText) (mT : mg "is_text" = some (.ref fT)) (kT : PySem.W.keepIn K (.ref fT) = true) (bT : Binds K fdT ["thing"] []) :
    FnOk P w K mg base CX0 2 fK fd ["self", "thing"] (spIsKind C) := by
  refine F.ok scIsKind (fun vs H Q E h => ?_) (fun cdv A outer s H vs Q E hr h => ?_)
  · obtain ⟨kd, z, ps, rfl, _⟩ := h
    rfl
  · obtain ⟨kd, z, ps, rfl, ⟨dx, d, e1, e2⟩, kk⟩ := h
    refine ⟨_, pss_one (ps_ret (pe_and (pe_call FT hr rfl mT kT bT .nil pass0 (pa_cons (pv 1) pa_nil)) (pe_one (pe_cmp (pc_din (hu_of hr) (pv 1) (pe_fld (pv 0) rfl)) rfl)))), ?_⟩
    refine ⟨_, rfl, z, rfl, true, rfl, iteT ⟨_, rfl, _, rfl, kd, C, dx, _, _, rfl, e1, T.cl, T.nA, ab_look _, d, _, rfl, DGet.k (k := Sum.inr z) e2, ?_⟩⟩
    rw [kvs_is]
    exact kk
theorem ok_chkNew {fM : Addr} {fd fdM fdK : FuncData} {Pt : Addr} (F : Fun K "_check_new" "Kinds._check_new" sChkNew fN fd) (T : KTxt K mg C fI fK fN) (FM : FnOk P w K mg base CX0 2 fM fdM ["thing"] (spIsName Pt)) (mM : mg "is_name" = some (.ref fM)) (kM : PySem.W.keepIn K (.ref fM) = true) (bM : Binds K fdM ["thing"] [])
    (FK : FnOk P w K mg base CX0 2 fK fdK ["self", "thing"] (spIsKind C)) (bK : Binds K fdK ["self", "thing"] []) : FnOk P w K mg base CX0 3 fN fd ["self", "name", "above"] (spChkNew C Pt) := by
  refine F.ok scChkNew (fun vs H Q E h => ?_) (fun cdv A outer s H vs Q E hr h => ?_)
  · obtain ⟨kd, z, y, ps, rfl, _⟩ := h
    rfl
  · obtain ⟨kd, z, y, ps, rfl, hk, hz, hz2, hy, hy2, hT, kk⟩ := h
    refine ⟨_, pss_cons (ps_if (PW.pt (pw_or (pt_not (pt_val (pe_call FM hr rfl mM kM bM .nil pass0 (pa_cons (pv 1) pa_nil)))) (pw_or1 (pt_val (pe_meth (pv 0) T.cl T.mK FK hr bK .nil pass0 (pa_cons (pv 1) pa_nil)))))) (pss_one ps_never) pss_nil)
      (pss_one (ps_if (PW.pt (pw_or (pt_not (pt_val (pe_meth (pv 0) T.cl T.mK FK hr bK .nil pass0 (pa_cons (pv 2) pa_nil)))) (pw_or1 (pt_cmpR op_eq (pv 2) pe_str (nomark _))))) (pss_one ps_never) pss_nil)), ?_⟩
    refine ⟨_, rfl, z, rfl, hz, hT, fun H2 hH => ⟨true, rfl, iteF ?_⟩⟩
    have hk2 := hk.keep (tab_keep hH) (tab_ex hT)
    obtain ⟨dx, d, e1, e2⟩ := id hk2
    have noK : ([(("_above" : Str), V.ref d)] : List (Str × V)).lookup ("is_kind" : Str) = none := ab_no _ (by decide +kernel)
    refine ⟨_, rfl, kd, dx, _, rfl, e1, noK, _, rfl, kd, z, ps, rfl, hk2, _, rfl, ?_⟩
    rw [decide_eq_false hz2]
    refine iteF ?_
    refine ⟨_, rfl, kd, dx, _, rfl, e1, noK, _, rfl, kd, y, ps, rfl, hk2, _, rfl, ?_⟩
    have hy3 : y ∈ sF :: sS :: ps.map Prod.fst := by
      rcases List.mem_cons.mp hy with q | q
      · rw [q]; exact List.mem_cons_self
      · exact List.mem_cons_of_mem _ (List.mem_cons_of_mem _ q)
    rw [decide_eq_true hy3]
    refine iteF ⟨_, rfl, rfl, _, rfl, ?_⟩
    rw [decide_eq_false (fun e => hy2 (V.str.inj e))]
    exact iteF (kk H2 hH)
theorem ok_kInit {fd fdN : FuncData} {Pt : Addr} (F : Fun K "__init__" "Kinds.__init__" sKInit fI fd) (T : KTxt K mg C fI fK fN) (FN : FnOk P w K mg base CX0 3 fN fdN ["self", "name", "above"] (spChkNew C Pt)) (bN : Binds K fdN ["self", "name", "above"] []) :
    FnOk P w K mg base CX0 4 fI fd ["self", "pairs"] (spKInit C Pt) := by
  refine F.ok scKInit (fun vs H Q E h => ?_) (fun cdv A outer s H vs Q E hr h => ?_)
  · obtain ⟨p, l, dx, ps, rfl, _⟩ := h
    rfl
  · obtain ⟨p, l, dx, ps, rfl, hp, hP, hw, hlen, hT, kk⟩ := h
    refine ⟨_, pss_cons (ps_fld (pv 0) (pe_disp (pps_cons pe_str pe_non (pps_cons pe_str pe_str pps_nil)) (by rfl) (by rfl) (fun z => by cases z) (by decide)) rfl)
      (pss_one (ps_for PassesOwn.never rfl (pi_list (pv 1)) (pg_tup rfl (pgs_cons (pg_name (i := 2) scKInit.nd rfl (Or.inl rfl)) (pgs_cons (pg_name (i := 3) scKInit.nd rfl (Or.inl rfl)) pgs_nil)))
        (pss_cons (ps_expr (pe_meth (pv 0) T.cl T.mN FN hr bN .nil pass0 (pa_cons (pv 2) (pa_cons (pv 3) pa_nil)))) (pss_one (ps_dput (hu_of hr) (pe_fld (pv 0) rfl) (pv 2) (pv 3) rfl))))), ?_⟩
    intro d hd
    refine ⟨upd_same, kvsOf [], rfl, by decide, ?_⟩
    have npd : p ≠ d := ne_of_none hp hd
    have eK : mergeK [] (kvsOf []) = kvsOf [] := by decide +kernel
    rw [eK, upd_upd]
    refine ⟨_, rfl, p, C, dx, [], rfl, by rw [upd_ne npd]; exact hp, T.cl, T.nA, by decide, ?_⟩
    have k0 : Keep [p, Pt] H (upd (upd H d (.dK (kvsOf []))) p (.ins C dx [("_above", .ref d)])) := (Keep.new hd).ownTo List.mem_cons_self
    obtain ⟨as, el, tl⟩ := hP
    obtain ⟨tb, et, ht⟩ := hT
    have nlp : l ≠ p := ne_of el hp (fun z => nomatch z)
    have nlT : l ≠ Pt := ne_of el et (fun z => nomatch z)
    have nld : l ≠ d := ne_of_none el hd
    have npT : p ≠ Pt := ne_of hp et (fun z => nomatch z)
    have ndT : d ≠ Pt := fun z => by rw [z, et] at hd; cases hd
    have nlx : l ∉ [p, Pt] := fun z => by
      rcases List.mem_cons.mp z with z | z
      · exact nlp z
      · exact nlT (List.mem_singleton.mp z)
    have tx : ∀ a xs, H a = some (.tup xs) → a ∉ [p, Pt] := fun a xs q z => by
      rcases List.mem_cons.mp z with z | z
      · rw [z, hp] at q; cases q
      · rw [List.mem_singleton.mp z, et] at q; cases q
    refine ⟨_, rfl, l, rfl, ⟨_, SqL.of (k0.at el nlx)⟩, for_list (K := K) (a := l) (xs := as.map V.ref) (fun i σ H' => ∃ v2 v3 : Option V, σ = [some (.ref p), some (.ref l), v2, v3] ∧ Keep [p, Pt] H H' ∧ H' p = some (.ins C dx [("_above", .ref d)]) ∧ H' d = some (.dK (kvsOf (ps.take i))) ∧ GxR.TabG H' Pt)
      ⟨none, none, rfl, k0, upd_same, by rw [upd_ne npd.symm, upd_same]; rfl, ⟨tb, by rw [upd_ne npT.symm, upd_ne ndT.symm]; exact et, ht⟩⟩
      (fun i σ H' _ ⟨_, _, _, k, _⟩ => SqL.of (k.at el nlx)) ?_ ?_⟩
    · rintro i x σ H1 hx ⟨v2, v3, rfl, k1, e1, e2, hT1⟩
      obtain ⟨a, ha, rfl⟩ : ∃ a, as[i]? = some a ∧ x = V.ref a := by
        rw [List.getElem?_map] at hx
        cases q : as[i]? with
        | none => rw [q] at hx; cases hx
        | some a => rw [q] at hx; exact ⟨a, rfl, (Option.some.inj hx).symm⟩
      obtain ⟨q, hq2, hta⟩ := tl.at ha
      obtain ⟨w1, w2, w3⟩ := hw.step hq2
      have hns := hw.not_sheaf
      have hta1 : H1 a = some (.tup [.str q.1, .str q.2]) := k1.at hta (tx a _ hta)
      refine ⟨a, _, rfl, SqT.of hta1, rfl, _, _, rfl, _, _, rfl, rfl, ?_⟩
      have noN : ([(("_above" : Str), V.ref d)] : List (Str × V)).lookup ("_check_new" : Str) = none := ab_no _ (by decide +kernel)
      have hy : ¬ q.2 = sS := by
        refine hns q.2 ?_
        rcases List.mem_cons.mp w3 with m | m
        · rw [m]; exact List.mem_cons_self
        · obtain ⟨u, hu, eu⟩ := List.mem_map.mp m
          exact List.mem_cons_of_mem _ (List.mem_map.mpr ⟨u, List.mem_of_mem_take hu, eu⟩)
      refine ⟨_, rfl, p, dx, _, rfl, e1, noN, _, rfl, _, rfl, p, q.1, q.2, ps.take i, rfl, ⟨dx, d, e1, e2⟩, w1, w2, w3, hy, hT1, fun H2 hH => ?_⟩
      have k2 := tab_keep hH
      have e12 : H2 p = some (.ins C dx [("_above", .ref d)]) := k2.at e1 (nin1 npT)
      have e22 : H2 d = some (.dK (kvsOf (ps.take i))) := k2.at e2 (nin1 ndT)
      have hil : i < ps.length := (List.getElem?_eq_some_iff.mp hq2).1
      refine ⟨_, rfl, _, rfl, p, C, dx, _, _, rfl, e12, T.cl, T.nA, ab_look _, ?_⟩
      have hlk : (kvsOf (ps.take i)).length < sizeLine := by
        rw [kvs_len, List.length_take]
        exact Nat.lt_of_lt_of_le (by omega : min i ps.length + 2 < 1000) (by decide)
      refine ⟨_, rfl, d, _, rfl, DPut.k (k := Sum.inr q.1) e22 hlk, ?_⟩
      have eT : ps.take (i + 1) = ps.take i ++ [(q.1, q.2)] := by rw [List.take_add_one, hq2]; rfl
      rw [kvs_put w2, ← eT]
      refine ⟨_, _, rfl, ((k1.trans (k2.more fun b hb => List.mem_cons_of_mem _ hb)).freshTo hd), by rw [upd_ne npd]; exact e12, upd_same, ?_⟩
      obtain ⟨tb2, et2, ht2⟩ := hH.1
      exact ⟨tb2, by rw [upd_ne ndT.symm]; exact et2, ht2⟩
    · rintro σ H1 ⟨v2, v3, rfl, k1, e1, e2, hT1⟩
      rw [List.length_map, tl.len, List.take_length] at e2
      exact kk H1 k1 ⟨dx, d, e1, e2⟩ hT1
end
end Fs
/-! The ledger: what it holds. -/
namespace Fs
open PySem L2 TL
/-- a fault -/
structure Ent where
  kind : Str
  text : Str
  mem : List Nat
  notes : List Str
  cause : Option Nat
  atw : Option Nat
def optV : Option Nat → V
  | none => .non
  | some k => .int (k : Int)
/-- where a ledger's own lists stand -/
structure LA where
  dx : Addr
  kd : Addr
  l1 : Addr
  l2 : Addr
  l3 : Addr
  l4 : Addr
  l5 : Addr
  l6 : Addr
def LA.ls (A : LA) : List Addr := [A.l1, A.l2, A.l3, A.l4, A.l5, A.l6]
def fldsL (A : LA) : List (Str × V) := [("_kinds", .ref A.kd), ("_kind_of", .ref A.l1), ("_text_of", .ref A.l2), ("_members_of", .ref A.l3), ("_notes_of", .ref A.l4), ("_cause_of", .ref A.l5), ("_at_work_of", .ref A.l6)]
theorem fl0 (A : LA) : (fldsL A).lookup ("_kinds" : Str) = some (.ref A.kd) := rfl
theorem fl1 (A : LA) : (fldsL A).lookup ("_kind_of" : Str) = some (.ref A.l1) := rfl
theorem fl2 (A : LA) : (fldsL A).lookup ("_text_of" : Str) = some (.ref A.l2) := rfl
theorem fl3 (A : LA) : (fldsL A).lookup ("_members_of" : Str) = some (.ref A.l3) := rfl
theorem fl4 (A : LA) : (fldsL A).lookup ("_notes_of" : Str) = some (.ref A.l4) := rfl
theorem fl5 (A : LA) : (fldsL A).lookup ("_cause_of" : Str) = some (.ref A.l5) := rfl
theorem fl6 (A : LA) : (fldsL A).lookup ("_at_work_of" : Str) = some (.ref A.l6) := rfl
theorem flno (A : LA) : (fldsL A).lookup ("_check_fault" : Str) = none := rfl
/-- a list of tuples of whole numbers, as the faults have them -/
def MemsAt (H : Hp) : List Addr → List Ent → Prop
  | [], [] => True
  | a :: as, e :: es => H a = some (.tup (e.mem.map fun k : Nat => V.int (k : Int))) ∧ MemsAt H as es
  | _, _ => False
def NotesAt (H : Hp) : List Addr → List Ent → Prop
  | [], [] => True
  | a :: as, e :: es => H a = some (.lst (e.notes.map V.str)) ∧ NotesAt H as es
  | _, _ => False
theorem MemsAt.map {H H' : Hp} (k : ∀ a xs, H a = some (.tup xs) → H' a = some (.tup xs)) : ∀ {as : List Addr} {es : List Ent}, MemsAt H as es → MemsAt H' as es
  | [], [], _ => True.intro
  | _ :: as, _ :: es, h => ⟨k _ _ h.1, MemsAt.map k h.2⟩
  | [], _ :: _, h => h.elim
  | _ :: _, [], h => h.elim
theorem MemsAt.len {H : Hp} : ∀ {as : List Addr} {es : List Ent}, MemsAt H as es → as.length = es.length
  | [], [], _ => rfl
  | _ :: as, _ :: es, h => by rw [List.length_cons, List.length_cons, MemsAt.len h.2]
  | [], _ :: _, h => h.elim
  | _ :: _, [], h => h.elim
theorem MemsAt.snoc {H : Hp} {b : Addr} {e : Ent} (hb : H b = some (.tup (e.mem.map fun k : Nat => V.int (k : Int)))) : ∀ {as : List Addr} {es : List Ent}, MemsAt H as es → MemsAt H (as ++ [b]) (es ++ [e])
  | [], [], _ => ⟨hb, True.intro⟩
  | _ :: as, _ :: es, h => ⟨h.1, MemsAt.snoc hb h.2⟩
  | [], _ :: _, h => h.elim
  | _ :: _, [], h => h.elim
theorem MemsAt.at {H : Hp} : ∀ {as : List Addr} {es : List Ent} {i : Nat} {e : Ent}, MemsAt H as es → es[i]? = some e → ∃ a, as[i]? = some a ∧ H a = some (.tup (e.mem.map fun k : Nat => V.int (k : Int)))
  | _, [], _, _, _, q => by simp at q
  | [], _ :: _, _, _, h, _ => h.elim
  | b :: as, f :: es, 0, e, h, q => by
    have e' : f = e := by simpa using q
    subst e'
    exact ⟨b, rfl, h.1⟩
  | b :: as, f :: es, i + 1, e, h, q => MemsAt.at (i := i) h.2 (by simpa using q)
theorem NotesAt.map {H H' : Hp} : ∀ {as : List Addr} {es : List Ent}, (∀ a ∈ as, ∀ xs, H a = some (.lst xs) → H' a = some (.lst xs)) → NotesAt H as es → NotesAt H' as es
  | [], [], _, _ => True.intro
  | _ :: as, _ :: es, k, h => ⟨k _ List.mem_cons_self _ h.1, NotesAt.map (fun a ha => k a (List.mem_cons_of_mem _ ha)) h.2⟩
  | [], _ :: _, _, h => h.elim
  | _ :: _, [], _, h => h.elim
theorem NotesAt.len {H : Hp} : ∀ {as : List Addr} {es : List Ent}, NotesAt H as es → as.length = es.length
  | [], [], _ => rfl
  | _ :: as, _ :: es, h => by rw [List.length_cons, List.length_cons, NotesAt.len h.2]
  | [], _ :: _, h => h.elim
  | _ :: _, [], h => h.elim
theorem NotesAt.snoc {H : Hp} {b : Addr} {e : Ent} (hb : H b = some (.lst (e.notes.map V.str))) : ∀ {as : List Addr} {es : List Ent}, NotesAt H as es → NotesAt H (as ++ [b]) (es ++ [e])
  | [], [], _ => ⟨hb, True.intro⟩
  | _ :: as, _ :: es, h => ⟨h.1, NotesAt.snoc hb h.2⟩
  | [], _ :: _, h => h.elim
  | _ :: _, [], h => h.elim
theorem NotesAt.at {H : Hp} : ∀ {as : List Addr} {es : List Ent} {i : Nat} {e : Ent}, NotesAt H as es → es[i]? = some e → ∃ a, as[i]? = some a ∧ H a = some (.lst (e.notes.map V.str))
  | _, [], _, _, _, q => by simp at q
  | [], _ :: _, _, _, h, _ => h.elim
  | b :: as, f :: es, 0, e, h, q => by
    have e' : f = e := by simpa using q
    subst e'
    exact ⟨b, rfl, h.1⟩
  | b :: as, f :: es, i + 1, e, h, q => NotesAt.at (i := i) h.2 (by simpa using q)
theorem NotesAt.is {H : Hp} : ∀ {as : List Addr} {es : List Ent}, NotesAt H as es → ∀ a ∈ as, ∃ xs, H a = some (.lst xs)
  | [], [], _, _, h => absurd h List.not_mem_nil
  | _ :: as, _ :: es, h, a, m => by
    rcases List.mem_cons.mp m with m | m
    · rw [m]; exact ⟨_, h.1⟩
    · exact NotesAt.is h.2 a m
  | [], _ :: _, h, _, _ => h.elim
  | _ :: _, [], h, _, _ => h.elim
/-- a ledger at p with these faults -/
structure LedAt (C : Addr) (H : Hp) (p : Addr) (A : LA) (ms ns : List Addr) (es : List Ent) : Prop where
  ins : H p = some (.ins C A.dx (fldsL A))
  h1 : H A.l1 = some (.lst (es.map fun e => V.str e.kind))
  h2 : H A.l2 = some (.lst (es.map fun e => V.str e.text))
  h3 : H A.l3 = some (.lst (ms.map V.ref))
  h4 : H A.l4 = some (.lst (ns.map V.ref))
  h5 : H A.l5 = some (.lst (es.map fun e => optV e.cause))
  h6 : H A.l6 = some (.lst (es.map fun e => optV e.atw))
  mems : MemsAt H ms es
  notes : NotesAt H ns es
  nd : (A.ls ++ ns).Nodup
theorem LedAt.isl {C : Addr} {H : Hp} {p : Addr} {A : LA} {ms ns : List Addr} {es : List Ent} (h : LedAt C H p A ms ns es) : ∀ a ∈ A.ls, ∃ xs, H a = some (.lst xs) := by
  intro a ha
  have q : a = A.l1 ∨ a = A.l2 ∨ a = A.l3 ∨ a = A.l4 ∨ a = A.l5 ∨ a = A.l6 := by simpa [LA.ls] using ha
  rcases q with q | q | q | q | q | q <;> rw [q]
  · exact ⟨_, h.h1⟩
  · exact ⟨_, h.h2⟩
  · exact ⟨_, h.h3⟩
  · exact ⟨_, h.h4⟩
  · exact ⟨_, h.h5⟩
  · exact ⟨_, h.h6⟩
/-- what does not touch its lists leaves a ledger as it is -/
theorem LedAt.keep {C : Addr} {H H' : Hp} {p : Addr} {A : LA} {ms ns : List Addr} {es : List Ent} {ex : List Addr} (h : LedAt C H p A ms ns es) (k : Keep ex H H') (hl : ∀ b ∈ ex, b ∉ A.ls ++ ns) (hx : ∀ b ∈ ex, ∃ xs, H b = some (.lst xs)) : LedAt C H' p A ms ns es := by
  have nl : ∀ a ∈ A.ls ++ ns, a ∉ ex := fun a ha z => hl a z ha
  have ni : ∀ o, (∀ xs, o ≠ .lst xs) → ∀ b, H b = some o → b ∉ ex := fun o ho b e z => by
    obtain ⟨xs, q⟩ := hx b z
    rw [e] at q
    exact ho xs (Option.some.inj q)
  have m : ∀ a, a ∈ A.ls → a ∉ ex := fun a ha => nl a (List.mem_append_left _ ha)
  exact ⟨k.at h.ins (ni _ (fun _ z => by cases z) _ h.ins), k.at h.h1 (m _ (by simp [LA.ls])), k.at h.h2 (m _ (by simp [LA.ls])), k.at h.h3 (m _ (by simp [LA.ls])), k.at h.h4 (m _ (by simp [LA.ls])), k.at h.h5 (m _ (by simp [LA.ls])), k.at h.h6 (m _ (by simp [LA.ls])),
    h.mems.map fun a xs q => k.at q (ni _ (fun _ z => by cases z) _ q), h.notes.map fun a ha xs q => k.at q (nl a (List.mem_append_right _ ha)), h.nd⟩
end Fs
/-! Slices of tuples. -/
namespace Fs
open PySem L2 TL
theorem slA_one {K : PySem.W.Frag} {H : Hp} {a : Addr} {xs : List V} {lo hi : Option Int} {Q : VK} (ha : H a = some (.tup xs)) (h : ∀ (c : Addr) (H' : Hp), Keep [] H H' → H' c = some (.tup (cutV xs lo hi)) → Q (.ref c) H') : rSlA K (.ref a) lo hi H Q :=
  ⟨a, xs, rfl, SqT.of ha, fun e => h a H (Keep.refl _ _) (by rw [ha]; unfold cutV; rw [e.1, e.2, List.drop_zero, Nat.sub_zero, List.take_length]), fun _ p hp => h p _ (Keep.new hp) upd_same⟩
end Fs
/-! list.extend with a tuple. -/
namespace Fs
open PySem PySem.Spec PyProof.Rows L2 TL
theorem list_extTup (l : Addr) (items : Array Value) (n : Nat) (b : Addr) (items2 : Array Value) (n2 : Nat) (dd : Option Addr) (sl : Array (Option Value)) (hs0 : ¬(!items.isEmpty && Builtin.List.listTooLong (items.size + items2.size)) = true) (hs1 : items.size ≤ sizeLine) (hs2 : items.size + items2.size ≤ sizeLine + 1) :
    Meets (Builtin.«list.extend» ⟨[.ref l, .ref b], []⟩) (fun _ R s => s.heap.get? l = some { cls := .type "list", dict := none, data := .seq items n, slots := #[] } ∧ s.heap.get? b = some { cls := .type "tuple", dict := dd, data := .seq items2 n2, slots := sl } ∧ R (.ok (.ret Value.none)) { s with heap := s.heap.update l (Obj.mapSeq fun x => x ++ items2), toks := s.toks }) :=
  .of_wp fun prog w A R s h => by
    obtain ⟨hp, g, d, tk, os⟩ := s
    obtain ⟨hl, hb, h⟩ := h
    have f1 := AutoSeq1.idx_int; have f2 := AutoSeq1.sub_tuple_tuple; have f3 := AutoSeq1.sub_list_list; have f4 := AutoSeq1.sub_tuple_list; have f5 := AutoSeq1.sub_list_tuple
    have hz' : (items ++ items2).size ≤ sizeLine + 1 := by rw [Array.size_append]; exact hs2
    wp_walk using (wpAny_updateSeq hl rfl (hz := hs1) (_hz' := hz')), AutoSeq1.wpAny_loadPart' hl, AutoSeq1.wpAny_loadPart' hb
    exact ⟨_, rfl, h⟩
def rExtT (K : PySem.W.Frag) : V → List V → Hp → VK → Prop := fun x vs H Q => ∃ l b xs zs, x = .ref l ∧ vs = [.ref b] ∧ H l = some (.lst xs) ∧ SqT K H b zs ∧ xs.length + zs.length ≤ 10000 ∧ Q .non (upd H l (.lst (xs ++ zs)))
section
variable {X : Cx}
theorem mt_extT : MtR X "list.extend" (rExtT X.K) := by
  intro pins s σ H x vs v us Q I rx rv h
  obtain ⟨l, b, xs, zs, rfl, rfl, hH, hB, hz, q⟩ := h
  cases rx
  obtain ⟨u, rfl, ru⟩ := rv.one
  cases ru
  obtain ⟨z, its, n, r, hl, e⟩ := I.lstM hH
  obtain ⟨its2, r2, pl, hz2⟩ := I.tuple hB
  obtain ⟨⟨cls, dd, data, sl⟩, ho, hc, n2, hd⟩ := pl
  have hc1 : cls = Value.type "tuple" := hc
  have hd1 : data = Data.seq its2.toArray n2 := hd
  subst hc1 hd1
  have hl2 := r2.length
  have hs : (10000 : Nat) ≤ sizeLine := by decide
  have hsz : its.toArray.size + its2.toArray.size ≤ sizeLine := by rw [List.size_toArray, List.size_toArray]; omega
  have hlong : ¬ (!its.toArray.isEmpty && Builtin.List.listTooLong (its.toArray.size + its2.toArray.size)) = true := by
    rw [notLongL hsz, Bool.and_false]
    exact Bool.false_ne_true
  refine call_meets F.slot_list_extend ⟨_, e, rfl⟩ F.entry_list_extend (F.args_list_extend_2 _ _)
    (list_extTup l its.toArray n b its2.toArray n2 dd sl hlong (by rw [List.size_toArray]; omega) (by omega)) ⟨e, ho, ?_⟩
  refine ⟨.non, _, I.lset (its' := its ++ its2) hH e (by simp) (r.append r2) ?_, rfl, q⟩
  rw [List.length_append]
  omega
end
end Fs
/-! The kinds, and what stands under what. -/
namespace Fs
open PySem L2 TL
def upV : Option Str → V
  | none => .non
  | some y => .str y
def dueL (ps : List (Str × Str)) : List (Str × Option Str) := (sF, none) :: (sS, some sF) :: ps.map fun q => (q.1, some q.2)
theorem valV_app {κ : Type} [DecidableEq κ] {l m : List (κ × V)} {k : κ} (h : valV l k = none) : valV (l ++ m) k = valV m k := by
  unfold valV at h ⊢
  rw [List.find?_append]
  have : l.find? (fun kv => decide (kv.1 = k)) = none := by
    cases q : l.find? (fun kv => decide (kv.1 = k)) with
    | none => rfl
    | some v => rw [q] at h; cases h
  rw [this]; rfl
theorem valV_app1 {κ : Type} [DecidableEq κ] {l m : List (κ × V)} {k : κ} {v : V} (h : valV l k = some v) : valV (l ++ m) k = some v := by
  unfold valV at h ⊢
  rw [List.find?_append]
  cases q : l.find? (fun kv => decide (kv.1 = k)) with
  | none => rw [q] at h; cases h
  | some v => rw [q] at h; exact h
theorem kvs_at {ps : List (Str × Str)} (h : Wf ps) : ∀ q ∈ ps, valV (kvsOf ps) (.inr q.1) = some (.str q.2) := by
  induction h with
  | nil => exact fun q h => absurd h List.not_mem_nil
  | @snoc ps z y hw hz hn hy ih =>
    intro q hq
    have e : kvsOf (ps ++ [(z, y)]) = kvsOf ps ++ [(.inr z, .str y)] := by
      unfold kvsOf
      rw [List.map_append, ← List.append_assoc]; rfl
    rw [e]
    rcases List.mem_append.mp hq with w | w
    · exact valV_app1 (ih q w)
    · rw [List.mem_singleton.mp w]
      have no : valV (kvsOf ps) (.inr z) = none := by
        have := kvs_is z ps
        rw [decide_eq_false (fun m => hn (by
          rcases List.mem_cons.mp m with a | a
          · rw [a]; exact List.mem_cons_of_mem _ List.mem_cons_self
          · rcases List.mem_cons.mp a with b | b
            · rw [b]; exact List.mem_cons_self
            · exact List.mem_cons_of_mem _ (List.mem_cons_of_mem _ b)))] at this
        cases r : valV (kvsOf ps) (.inr z) with
        | none => rfl
        | some v => rw [r] at this; cases this
      rw [valV_app no]
      exact valV_pos rfl
theorem due_at {ps : List (Str × Str)} (h : Wf ps) : ∀ q ∈ dueL ps, valV (kvsOf ps) (.inr q.1) = some (upV q.2) := fun q hq => by
  unfold dueL at hq
  rcases List.mem_cons.mp hq with z | z
  · rw [z]; exact valV_pos rfl
  · rcases List.mem_cons.mp z with z | z
    · rw [z]
      show valV ((.inr sF, V.non) :: (.inr sS, V.str sF) :: ps.map fun q => ((.inr q.1 : Key), V.str q.2)) (.inr sS) = _
      rw [valV_neg (fun e => sFS (Sum.inr.inj e))]
      exact valV_pos rfl
    · obtain ⟨r, hr, e⟩ := List.mem_map.mp z
      rw [← e]
      exact kvs_at h r hr

theorem Wf.not_keys {ps : List (Str × Str)} (h : Wf ps) : ∀ x ∈ ps.map Prod.fst, x ≠ sF ∧ x ≠ sS := by
  induction h with
  | nil => exact fun x h => absurd h List.not_mem_nil
  | @snoc ps z y hw hz hn hy ih =>
    intro x hx
    rw [List.map_append] at hx
    rcases List.mem_append.mp hx with v | v
    · exact ih x v
    · have e : x = z := by simpa using v
      rw [e]
      exact ⟨fun q => hn (by rw [q]; exact List.mem_cons_of_mem _ List.mem_cons_self), fun q => hn (by rw [q]; exact List.mem_cons_self)⟩
abbrev allK (ps : List (Str × Str)) : List Str := sF :: sS :: ps.map Prod.fst
def upOf (ps : List (Str × Str)) (x : Str) : Option Str := match valV (kvsOf ps) (.inr x) with
  | some (.str y) => some y
  | _ => none
theorem due_all (ps : List (Str × Str)) : (dueL ps).map Prod.fst = allK ps := by
  unfold dueL allK
  rw [List.map_cons, List.map_cons, List.map_map]
  rfl
theorem up_at {ps : List (Str × Str)} (hw : Wf ps) {x : Str} (hx : x ∈ allK ps) : valV (kvsOf ps) (.inr x) = some (upV (upOf ps x)) := by
  rw [← due_all] at hx
  obtain ⟨q, hq, rfl⟩ := List.mem_map.mp hx
  have h := due_at hw q hq
  unfold upOf
  rw [h]
  cases q.2 <;> rfl
theorem up_mem {ps : List (Str × Str)} (hw : Wf ps) {q : Str × Option Str} (hq : q ∈ dueL ps) : upOf ps q.1 = q.2 := by
  have h := due_at hw q hq
  unfold upOf
  rw [h]
  cases q.2 <;> rfl
theorem up_F {ps : List (Str × Str)} (hw : Wf ps) : upOf ps sF = none := up_mem hw (q := (sF, none)) List.mem_cons_self
theorem up_S {ps : List (Str × Str)} (hw : Wf ps) : upOf ps sS = some sF := up_mem hw (q := (sS, some sF)) (List.mem_cons_of_mem _ List.mem_cons_self)
theorem up_pair {ps : List (Str × Str)} (hw : Wf ps) {q : Str × Str} (hq : q ∈ ps) : upOf ps q.1 = some q.2 := up_mem hw (q := (q.1, some q.2)) (List.mem_cons_of_mem _ (List.mem_cons_of_mem _ (List.mem_map.mpr ⟨q, hq, rfl⟩)))
theorem up_none {ps : List (Str × Str)} (hw : Wf ps) {x : Str} (hx : x ∈ allK ps) (h : upOf ps x = none) : x = sF := by
  rcases List.mem_cons.mp hx with z | z
  · exact z
  · rcases List.mem_cons.mp z with z | z
    · rw [z, up_S hw] at h; cases h
    · obtain ⟨q, hq, rfl⟩ := List.mem_map.mp z
      rw [up_pair hw hq] at h; cases h
theorem Wf.pair_up {ps : List (Str × Str)} (hw : Wf ps) : ∀ q ∈ ps, q.2 ∈ sF :: ps.map Prod.fst := by
  induction hw with
  | nil => exact fun q h => absurd h List.not_mem_nil
  | @snoc ps z y hw hz hn hy ih =>
    intro q hq
    rw [List.map_append]
    have lift : ∀ u, u ∈ sF :: ps.map Prod.fst → u ∈ sF :: (ps.map Prod.fst ++ [(z, y)].map Prod.fst) := fun u hu => by
      rcases List.mem_cons.mp hu with a | a
      · rw [a]; exact List.mem_cons_self
      · exact List.mem_cons_of_mem _ (List.mem_append_left _ a)
    rcases List.mem_append.mp hq with v | v
    · exact lift _ (ih q v)
    · rw [List.mem_singleton.mp v]; exact lift y hy
theorem up_in {ps : List (Str × Str)} (hw : Wf ps) {x y : Str} (hx : x ∈ allK ps) (h : upOf ps x = some y) : y ∈ sF :: ps.map Prod.fst := by
  rcases List.mem_cons.mp hx with z | z
  · rw [z, up_F hw] at h; cases h
  · rcases List.mem_cons.mp z with z | z
    · rw [z, up_S hw] at h
      rw [← Option.some.inj h]; exact List.mem_cons_self
    · obtain ⟨q, hq, rfl⟩ := List.mem_map.mp z
      rw [up_pair hw hq] at h
      rw [← Option.some.inj h]; exact hw.pair_up q hq
theorem kept_all {ps : List (Str × Str)} {y : Str} (h : y ∈ sF :: ps.map Prod.fst) : y ∈ allK ps := by
  rcases List.mem_cons.mp h with z | z
  · rw [z]; exact List.mem_cons_self
  · exact List.mem_cons_of_mem _ (List.mem_cons_of_mem _ z)
/-- the way up ends -/
theorem Wf.rank {ps : List (Str × Str)} (hw : Wf ps) : ∃ r : Str → Nat, r sF = 0 ∧ r sS = 1 ∧ (∀ q ∈ ps, r q.2 < r q.1) ∧ ∀ x ∈ allK ps, r x ≤ ps.length + 1 := by
  induction hw with
  | nil =>
    refine ⟨fun x => if x = sF then 0 else 1, if_pos rfl, if_neg fun e => sFS e.symm, fun q h => absurd h List.not_mem_nil, fun x _ => ?_⟩
    show (if x = sF then 0 else 1) ≤ 1
    split <;> omega
  | @snoc ps z y hw hz hn hy ih =>
    obtain ⟨r, r1, r2, r3, r4⟩ := ih
    have nF : ¬ sF = z := fun e => hn (by rw [← e]; exact List.mem_cons_of_mem _ List.mem_cons_self)
    have nS : ¬ sS = z := fun e => hn (by rw [← e]; exact List.mem_cons_self)
    have nP : ∀ q ∈ ps, ¬ q.1 = z := fun q hq e => hn (List.mem_cons_of_mem _ (List.mem_cons_of_mem _ (List.mem_map.mpr ⟨q, hq, e⟩)))
    have nY : ∀ u, u ∈ sF :: ps.map Prod.fst → ¬ u = z := fun u hu e => by
      rcases List.mem_cons.mp hu with a | a
      · exact nF (a.symm.trans e)
      · obtain ⟨q, hq, h⟩ := List.mem_map.mp a
        exact nP q hq (h.trans e)
    refine ⟨fun x => if x = z then ps.length + 2 else r x, by show (if sF = z then _ else r sF) = 0; rw [if_neg nF]; exact r1, by show (if sS = z then _ else r sS) = 1; rw [if_neg nS]; exact r2, fun q hq => ?_, fun x hx => ?_⟩
    · rcases List.mem_append.mp hq with v | v
      · simp only [if_neg (nP q v), if_neg (nY _ (hw.pair_up q v))]
        exact r3 q v
      · rw [List.mem_singleton.mp v]
        simp only [if_neg (nY y hy), if_true]
        have := r4 y (kept_all hy)
        omega
    · rw [List.length_append]
      show (if x = z then ps.length + 2 else r x) ≤ ps.length + 1 + 1
      split
      · exact Nat.le_refl _
      · rename_i h
        have hx' : x ∈ allK ps := by
          rcases List.mem_cons.mp hx with a | a
          · rw [a]; exact List.mem_cons_self
          · rcases List.mem_cons.mp a with a | a
            · rw [a]; exact List.mem_cons_of_mem _ List.mem_cons_self
            · rw [List.map_append] at a
              rcases List.mem_append.mp a with a | a
              · exact List.mem_cons_of_mem _ (List.mem_cons_of_mem _ a)
              · exact absurd (by simpa using a) h
        exact Nat.le_succ_of_le (r4 x hx')
/-- one step up; fault stays -/
def nx (ps : List (Str × Str)) (x : Str) : Str := (upOf ps x).getD sF
def nxN (ps : List (Str × Str)) : Nat → Str → Str
  | 0, x => x
  | n + 1, x => nx ps (nxN ps n x)
theorem nx_in {ps : List (Str × Str)} (hw : Wf ps) {x : Str} (hx : x ∈ allK ps) : nx ps x ∈ allK ps := by
  unfold nx
  cases h : upOf ps x with
  | none => exact List.mem_cons_self
  | some y => exact kept_all (up_in hw hx h)
theorem nxN_in {ps : List (Str × Str)} (hw : Wf ps) {x : Str} (hx : x ∈ allK ps) : ∀ n, nxN ps n x ∈ allK ps
  | 0 => hx
  | n + 1 => nx_in hw (nxN_in hw hx n)
def under (ps : List (Str × Str)) (a b : Str) : Bool := (List.range (ps.length + 2)).any fun i => decide (nxN ps i a = b)
theorem under_t {ps : List (Str × Str)} {a b : Str} {i : Nat} (hi : i < ps.length + 2) (h : nxN ps i a = b) : under ps a b = true := by
  unfold under
  rw [List.any_eq_true]
  exact ⟨i, List.mem_range.mpr hi, decide_eq_true h⟩
theorem under_f {ps : List (Str × Str)} {a b : Str} (h : ∀ i, i < ps.length + 2 → nxN ps i a ≠ b) : under ps a b = false := by
  unfold under
  rw [List.any_eq_false]
  intro i hi
  rw [decide_eq_false (h i (List.mem_range.mp hi))]
  exact Bool.false_ne_true
theorem nx_rank {ps : List (Str × Str)} (hw : Wf ps) {r : Str → Nat} (r1 : r sF = 0) (r2 : r sS = 1) (r3 : ∀ q ∈ ps, r q.2 < r q.1) {x y : Str} (hx : x ∈ allK ps) (h : upOf ps x = some y) : r y < r x := by
  rcases List.mem_cons.mp hx with z | z
  · rw [z, up_F hw] at h; cases h
  · rcases List.mem_cons.mp z with z | z
    · rw [z, up_S hw] at h
      rw [← Option.some.inj h, z, r1, r2]; decide
    · obtain ⟨q, hq, rfl⟩ := List.mem_map.mp z
      rw [up_pair hw hq] at h
      rw [← Option.some.inj h]; exact r3 q hq
/-- from fault on it stays -/
theorem nxN_F {ps : List (Str × Str)} (hw : Wf ps) {a : Str} {i : Nat} (h : nxN ps i a = sF) : ∀ j, nxN ps (i + j) a = sF
  | 0 => h
  | j + 1 => by
    show nx ps (nxN ps (i + j) a) = sF
    rw [nxN_F hw h j]
    unfold nx
    rw [up_F hw]; rfl
def pr (q : Str × Str) : Key × V := (.inr q.1, .str q.2)
theorem merge_wf {ps : List (Str × Str)} (hw : Wf ps) : mergeK [] (ps.map pr) = ps.map pr := by
  induction hw with
  | nil => rfl
  | @snoc ps z y hw hz hn hy ih =>
    unfold mergeK at ih ⊢
    rw [List.map_append, List.foldl_append, ih]
    show putK (ps.map pr) (.inr z) (.str y) = _
    have no : ((ps.map pr).any fun kv => decide (kv.1 = (.inr z : Key))) = false := by
      rw [List.any_eq_false]
      intro kv hkv e
      obtain ⟨q, hq, rfl⟩ := List.mem_map.mp hkv
      exact hn (by rw [← Sum.inr.inj (of_decide_eq_true e)]; exact List.mem_cons_of_mem _ (List.mem_cons_of_mem _ (List.mem_map.mpr ⟨q, hq, rfl⟩)))
    unfold putK
    rw [no, if_neg Bool.false_ne_true]
    rfl
theorem law_up {ps : List (Str × Str)} (hw : Wf ps) {x : Str} (hx : x ∈ allK ps) : (valV (ps.map pr) (.inr x)).getD (.str sF) = .str (nx ps x) := by
  have nP : x ∉ ps.map Prod.fst → valV (ps.map pr) (.inr x) = none := fun h => by
    unfold valV
    rw [List.find?_eq_none.mpr fun kv hkv e => ?_]; rfl
    obtain ⟨q, hq, rfl⟩ := List.mem_map.mp hkv
    exact h (List.mem_map.mpr ⟨q, hq, Sum.inr.inj (of_decide_eq_true e)⟩)
  by_cases h : x ∈ ps.map Prod.fst
  · obtain ⟨q, hq, rfl⟩ := List.mem_map.mp h
    have e1 := kvs_at hw q hq
    have e2 : valV (kvsOf ps) (.inr q.1) = valV (ps.map pr) (.inr q.1) := by
      have n1 : ¬ sF = q.1 := fun e => (hw.not_keys q.1 h).1 e.symm
      have n2 : ¬ sS = q.1 := fun e => (hw.not_keys q.1 h).2 e.symm
      show valV ((.inr sF, V.non) :: (.inr sS, V.str sF) :: ps.map fun q => ((.inr q.1 : Key), V.str q.2)) (.inr q.1) = _
      rw [valV_neg (fun e => n1 (Sum.inr.inj e)), valV_neg (fun e => n2 (Sum.inr.inj e))]
      rfl
    rw [← e2, e1]
    unfold nx
    rw [up_pair hw hq]; rfl
  · rw [nP h]
    rcases List.mem_cons.mp hx with z | z
    · unfold nx; rw [z, up_F hw]; rfl
    · rcases List.mem_cons.mp z with z | z
      · unfold nx; rw [z, up_S hw]; rfl
      · exact absurd z h
end Fs
/-! Tests; a test that is drawn. -/
namespace Fs
open PySem L2 TL
abbrev wKind : Str := Str.ofString "kind"
abbrev wSays : Str := Str.ofString "says"
abbrev wNoted : Str := Str.ofString "noted"
abbrev wNot : Str := Str.ofString "not"
abbrev wAnd : Str := Str.ofString "and"
abbrev wOr : Str := Str.ofString "or"
inductive Ts where
  | one (w x : Str)
  | not (a : Ts)
  | two (w : Str) (a b : Ts)
def Ts.dp : Ts → Nat
  | .one _ _ => 0
  | .not a => a.dp + 1
  | .two _ a b => Nat.max a.dp b.dp + 1
def Ts.sz : Ts → Nat
  | .one _ _ => 1
  | .not a => a.sz + 1
  | .two _ a b => a.sz + b.sz + 1
theorem Ts.sz_dp : ∀ t : Ts, t.sz + 1 ≤ 2 ^ (t.dp + 1)
  | .one _ _ => by show 1 + 1 ≤ 2 ^ (0 + 1); decide
  | .not a => by
    have h := Ts.sz_dp a
    show a.sz + 1 + 1 ≤ 2 ^ (a.dp + 1 + 1)
    rw [Nat.pow_succ]; omega
  | .two _ a b => by
    have h1 := Ts.sz_dp a
    have h2 := Ts.sz_dp b
    have e1 : 2 ^ (a.dp + 1) ≤ 2 ^ (Nat.max a.dp b.dp + 1) := Nat.pow_le_pow_right (by decide) (Nat.succ_le_succ (Nat.le_max_left _ _))
    have e2 : 2 ^ (b.dp + 1) ≤ 2 ^ (Nat.max a.dp b.dp + 1) := Nat.pow_le_pow_right (by decide) (Nat.succ_le_succ (Nat.le_max_right _ _))
    show a.sz + b.sz + 1 + 1 ≤ 2 ^ (Nat.max a.dp b.dp + 1 + 1)
    rw [Nat.pow_succ]; omega
def Ts.Ok (ps : List (Str × Str)) : Ts → Prop
  | .one w x => (w = wKind ∧ x ∈ allK ps) ∨ ((w = wSays ∨ w = wNoted) ∧ IsTx x)
  | .not a => a.Ok ps
  | .two w a b => (w = wAnd ∨ w = wOr) ∧ a.Ok ps ∧ b.Ok ps
def TestAt (H : Hp) : Ts → V → Prop
  | .one w x, v => ∃ p, v = .ref p ∧ H p = some (.tup [.str w, .str x])
  | .not a, v => ∃ p u, v = .ref p ∧ H p = some (.tup [.str wNot, u]) ∧ TestAt H a u
  | .two w a b, v => ∃ p u u', v = .ref p ∧ H p = some (.tup [.str w, u, u']) ∧ TestAt H a u ∧ TestAt H b u'
theorem TestAt.map {H H' : Hp} (k : ∀ a xs, H a = some (.tup xs) → H' a = some (.tup xs)) : ∀ {t : Ts} {v : V}, TestAt H t v → TestAt H' t v
  | .one _ _, _, h => by
    obtain ⟨p, e, h⟩ := h
    exact ⟨p, e, k _ _ h⟩
  | .not a, _, h => by
    obtain ⟨p, u, e, h, g⟩ := h
    exact ⟨p, u, e, k _ _ h, g.map k⟩
  | .two _ a b, _, h => by
    obtain ⟨p, u, u', e, h, g, g'⟩ := h
    exact ⟨p, u, u', e, k _ _ h, g.map k, g'.map k⟩
theorem TestAt.keep {ex : List Addr} {H H' : Hp} {t : Ts} {v : V} (h : TestAt H t v) (k : Keep ex H H') (hx : ∀ b ∈ ex, ∃ xs, H b = some (.lst xs)) : TestAt H' t v :=
  h.map fun a xs e => k.tup (fun b hb => by obtain ⟨xs, e⟩ := hx b hb; exact ⟨_, e, fun _ z => nomatch z⟩) e
theorem TestAt.keep0 {H H' : Hp} {t : Ts} {v : V} (h : TestAt H t v) (k : Keep [] H H') : TestAt H' t v := h.keep k fun b z => absurd z nin0
theorem TestAt.keepP {H H' : Hp} {t : Ts} {v : V} {p : Addr} {n : Nat} (h : TestAt H t v) (k : Keep [p] H H') (hp : PotAt H p n) : TestAt H' t v := h.keep k fun b hb => by rw [List.mem_singleton.mp hb]; exact hp.some
/-- what a fault says to a test -/
def fitsT (ps : List (Str × Str)) (e : Ent) : Ts → Bool
  | .one w x => if w = wKind then under ps e.kind x else if w = wSays then decide (e.text = x) else decide (x ∈ e.notes)
  | .not a => !fitsT ps e a
  | .two w a b => if w = wAnd then fitsT ps e a && fitsT ps e b else fitsT ps e a || fitsT ps e b

abbrev sTst : Stmt := top 20 --def _law_test
abbrev nTst : List Str := ["_law_pot_here", "_law_pairs", "_law_texts_here", "_law_deep", "_law_way", "_law_one", "_law_sorts", "_law_name_here", "_law_above"]
theorem scTst : FnScope nTst ["_law_pot_here", "_law_pairs", "_law_texts_here", "_law_deep"] (defScope sTst) := ⟨rfl, rfl, rfl, by decide +kernel, rfl, by decide +kernel, by decide +kernel⟩
abbrev aTst : List Str := ["_law_pot_here", "_law_pairs", "_law_texts_here", "_law_deep"]
def spTst (d : Nat) : Sp := fun vs H Q _ => ∃ (p l X : Addr) (n dp : Nat) (ps : List (Str × Str)) (tx : List Str), vs = [.ref p, .ref l, .ref X, .int (dp : Int)] ∧ dp < d ∧ PotAt H p n ∧ n + 4 * 2 ^ dp < 2 ^ 31 ∧ PairsAt H l ps ∧ ps.length ≤ 100 ∧ l ≠ p ∧ 1 ≤ tx.length ∧ tx.length ≤ 1000 ∧ (∀ z ∈ tx, IsTx z) ∧ H X = some (.lst (tx.map V.str)) ∧ X ≠ p ∧
  ∀ (H' : Hp) (v : V) (t : Ts) (m : Nat), Keep [p] H H' → TestAt H' t v → t.Ok ps → t.dp ≤ dp → PotAt H' p m → m + 1 ≤ n + 4 * 2 ^ dp → Q v H'
section
variable {P : Program} {w : World} {K : PySem.W.Frag} {mg : Str → Option Value} {base : Heap} {fDg : Addr}
theorem tst0 {f : Addr} {fd : FuncData} {k : Nat} : FnOk P w K mg base CX0 k f fd aTst (spTst 0) :=
  ⟨fun vs H Q E h => by obtain ⟨_, _, _, _, _, _, _, _, h, _⟩ := h; omega, fun A outer s H args us vs Q E _ _ _ _ h => by obtain ⟨_, _, _, _, _, _, _, _, h, _⟩ := h; omega⟩
theorem tstS {f : Addr} {fd dD : FuncData} (F : Fun K "_law_test" "_law_test" sTst f fd) (gR : mg "_law_test" = some (.ref f)) (kR : PySem.W.keepIn K (.ref f) = true) (bR : Binds K fd aTst [])
    (FD : FnOk P w K mg base CX0 1 fDg dD ["_law_pot_here", "_law_many"] spDigit) (gD : mg "_law_digit" = some (.ref fDg)) (kD : PySem.W.keepIn K (.ref fDg) = true) (bD : Binds K dD ["_law_pot_here", "_law_many"] []) (mL : mg "len" = none)
    {d : Nat} (FR : FnOk P w K mg base CX0 (2 + d) f fd aTst (spTst d)) : FnOk P w K mg base CX0 (2 + d + 1) f fd aTst (spTst (d + 1)) := by
  refine F.ok scTst (fun vs H Q E h => ?_) (fun cdv A outer s H vs Q E hr h => ?_)
  · obtain ⟨p, l, X, n, dp, ps, tx, rfl, _⟩ := h
    rfl
  · obtain ⟨p, l, X, n, dp, ps, tx, rfl, hd, pot, hn, hl, hps, nlp, t1, t2, htx, hX, nXp, kk⟩ := h
    have hr1 : Room 1 _ := hr.mono (by omega)
    have lp : ∀ {G : Hp} {m : Nat}, PotAt G p m → ∀ b ∈ [p], ∃ o, G b = some o ∧ ∀ xs, o ≠ .tup xs := fun h => by
      obtain ⟨_, e⟩ := h.some
      exact lst_ex e
    have n1 : 1 ≤ 2 ^ dp := Nat.one_le_two_pow
    obtain ⟨tt, htt, rtt⟩ : ∃ t, PSs (cxOf CX0 P w K mg base nTst "_law_test" (defScope sTst) f cdv A outer s H E).nox ((defBody sTst).drop 3) t ∧ ∀ (De : Ends) (H1 : Hp) (wy : Int), 0 ≤ wy → wy < 8 → Keep [p] H H1 → PotAt H1 p (n + 1) → De.rt = Q →
        t De [some (.ref p), some (.ref l), some (.ref X), some (.int (dp : Int)), some (.int wy), none, none, none, none] H1 := by
      refine ⟨_, pss_cons (ps_if (pt_cmpR op_eq (pe_op op_mod (pv 4) pe_int) pe_int (nomark _))
        (pss_cons (ps_set (i := 6) scTst.nd rfl (Or.inl rfl) (pe_op op_cat (pe_lst (pa_cons pe_str (pa_cons pe_str pa_nil))) (pe_op op_rep (pe_lc (own := [("_law_name_here", 7), ("_law_above", 8)]) (g := gTup K 2 (gCons (gName 7) (gCons (gName 8) gNil))) (tt := tYes) (te := tVar 7) rfl scTst.nd (pi_list (pv 1))
          (blkOk_by (N := nTst) (sc := defScope sTst) (by decide +kernel)) (fun _ _ _ _ _ => by exact (pg_tup rfl (pgs_cons (pg_name (i := 7) scTst.nd rfl (Or.inl rfl)) (pgs_cons (pg_name (i := 8) scTst.nd rfl (Or.inl rfl)) pgs_nil)))) (fun _ _ _ _ _ => pts_nil) (fun _ _ _ _ _ => pv 7)) pe_int)))
        (pss_one (ps_ret (pe_tup (pa_cons pe_str (pa_cons (pe_ix ix_list (pv 6) (pe_call FD hr1 rfl gD kD bD .nil pass0 (pa_cons (pv 0) (pa_cons (pe_callB call_len_seq (by rfl) mL PySem.boot_len (pa_cons (pv 6) pa_nil)) pa_nil))) (fun _ _ => rfl)) pa_nil)))))) pss_nil)
        (pss_one (ps_ret (pe_tup (pa_cons (pe_ix ix_list (pe_lst (pa_cons pe_str (pa_cons pe_str pa_nil))) (pe_op op_mod (pe_op op_fdiv (pv 4) pe_int) pe_int) (fun _ _ => rfl)) (pa_cons (pe_ix ix_list (pv 2) (pe_call FD hr1 rfl gD kD bD .nil pass0 (pa_cons (pv 0) (pa_cons (pe_callB call_len_seq (by rfl) mL PySem.boot_len (pa_cons (pv 2) pa_nil)) pa_nil))) (fun _ _ => rfl)) pa_nil))))), ?_⟩
      intro De H1 wy w0 w1 k1 pot1 rt
      have hl1 := hl.keep k1 (nin1 nlp) (lp pot)
      have hX1 := k1.at hX (nin1 nXp)
      refine ⟨_, rfl, _, _, rfl, rfl, (by show (0 : Int) < 2; decide), rfl, _, rfl, ?_⟩
      refine ite2 (fun _ => ?_) (fun _ => ?_)
      · refine ⟨(by show 2 ≤ sizeLine; decide), fun a ha => ?_⟩
        have h1 : PairsAt (upd H1 a (.lst [.str sF, .str sS])) l ps := hl1.keep (ex := []) (Keep.new ha) nin0 (fun _ z => absurd z nin0)
        obtain ⟨xs, el⟩ := h1.some
        refine ⟨_, rfl, l, rfl, ⟨_, SqL.of el⟩, fun D' hD' => ?_⟩
        refine names_run (K := K) (i := 7) (j := 8) h1 hD' (by omega) (fun _ _ => rfl) (fun _ _ => rfl) fun H2 e2 k2 => ?_
        have ea : H2 a = some (.lst [.str sF, .str sS]) := k2.at upd_same nin0
        refine ⟨D', 2, _, rfl, rfl, e2, by decide, by decide, ?_, fun B hB => ?_⟩
        · rw [List.length_map, List.length_map]
          exact Nat.le_trans (by show ps.length * 2 ≤ 1000; omega) (by decide)
        have eB : ((List.replicate (2 : Int).toNat ((ps.map Prod.fst).map V.str)).flatten) = (ps.map Prod.fst ++ ps.map Prod.fst).map V.str := by
          show (ps.map Prod.fst).map V.str ++ ((ps.map Prod.fst).map V.str ++ []) = _
          rw [List.append_nil, List.map_append]
        rw [eB]
        have kB : Keep [] H2 (upd H2 B (.lst ((ps.map Prod.fst ++ ps.map Prod.fst).map V.str))) := Keep.new hB
        refine ⟨a, B, _, _, rfl, rfl, kB.at ea nin0, upd_same, ?_, fun S hS => ?_⟩
        · show ([V.str sF, V.str sS] : List V).length + _ ≤ sizeLine
          rw [List.length_map, List.length_append, List.length_map]
          exact Nat.le_trans (by show 2 + (ps.length + ps.length) ≤ 1000; omega) (by decide)
        have kS : Keep [] H1 (upd (upd H2 B (.lst ((ps.map Prod.fst ++ ps.map Prod.fst).map V.str))) S (.lst ([V.str sF, V.str sS] ++ (ps.map Prod.fst ++ ps.map Prod.fst).map V.str))) := (((Keep.new ha).trans k2).trans kB).newTo hS
        have eS : (upd (upd H2 B (.lst ((ps.map Prod.fst ++ ps.map Prod.fst).map V.str))) S (.lst ([V.str sF, V.str sS] ++ (ps.map Prod.fst ++ ps.map Prod.fst).map V.str))) S = some (.lst ((sF :: sS :: (ps.map Prod.fst ++ ps.map Prod.fst)).map V.str)) := upd_same
        generalize (upd (upd H2 B (.lst ((ps.map Prod.fst ++ ps.map Prod.fst).map V.str))) S (.lst ([V.str sF, V.str sS] ++ (ps.map Prod.fst ++ ps.map Prod.fst).map V.str))) = H3 at kS eS ⊢
        have pot3 := pot1.keep kS nin0
        obtain ⟨x0, ep0⟩ := pot1.some
        have nSp : S ≠ p := fun z => by
          have := ((Keep.new ha (ex := [])).trans k2 |>.trans kB).at ep0 nin0
          rw [z, this] at hS; cases hS
        have hal : (sF :: sS :: (ps.map Prod.fst ++ ps.map Prod.fst)).length = 2 + (ps.length + ps.length) := by
          rw [List.length_cons, List.length_cons, List.length_append, List.length_map]; omega
        refine ⟨_, rfl, _, rfl, _, rfl, S, _, rfl, .inl (SqL.of eS), p, _, _, rfl, pot3, by omega, by rw [List.length_map, hal]; omega, by rw [List.length_map, hal]; omega, fun c G c0 c1 hkc potc => ?_⟩
        rw [List.length_map] at c1
        obtain ⟨z, hz, hz2, hz3⟩ := digit_in (l := sF :: sS :: (ps.map Prod.fst ++ ps.map Prod.fst)) c0 c1
        have kc := keep_of_dig hkc
        refine ⟨S, _, c, .str z, rfl, rfl, SqL.of (kc.at eS (nin1 nSp)), ?_, ?_⟩
        · rw [← hz3]
          exact atI_nat (by rw [List.getElem?_map, hz2]; rfl)
        refine ⟨(by show 2 ≤ sizeLine; decide), fun t ht => ?_⟩
        have fin := kk (upd G t (.tup [.str wKind, .str z])) (.ref t) (.one wKind z) (n + 1 + 1) ((k1.trans ((kS.more fun b z => absurd z nin0).trans kc)).newTo ht) ⟨t, rfl, upd_same⟩ (.inl ⟨rfl, ?_⟩) (Nat.zero_le _) (potc.keep (Keep.new ht (ex := [])) nin0) (by omega)
        · show De.rt _ _
          rw [rt]
          exact fin
        · rcases List.mem_cons.mp hz with q | q
          · rw [q]; exact List.mem_cons_self
          · rcases List.mem_cons.mp q with q | q
            · rw [q]; exact List.mem_cons_of_mem _ List.mem_cons_self
            · rcases List.mem_append.mp q with q | q <;> exact List.mem_cons_of_mem _ (List.mem_cons_of_mem _ q)
      · refine ⟨(by show 2 ≤ sizeLine; decide), fun L hL => ?_⟩
        have kL : Keep [] H1 (upd H1 L (.lst [.str wSays, .str wNoted])) := Keep.new hL
        have eL : (upd H1 L (.lst [.str wSays, .str wNoted])) L = some (.lst [.str wSays, .str wNoted]) := upd_same
        generalize (upd H1 L (.lst [.str wSays, .str wNoted])) = G2 at kL eL ⊢
        obtain ⟨wd, hwd, hat⟩ : ∃ wd : Str, (wd = wSays ∨ wd = wNoted) ∧ atI [V.str wSays, V.str wNoted] (wy / 2 % 2) = some (.str wd) := by
          rcases (show wy / 2 % 2 = 0 ∨ wy / 2 % 2 = 1 by omega) with q | q
          · exact ⟨wSays, .inl rfl, by rw [q]; rfl⟩
          · exact ⟨wNoted, .inr rfl, by rw [q]; rfl⟩
        refine ⟨_, rfl, _, _, rfl, rfl, ⟨by decide, by decide⟩, _, _, rfl, rfl, (by show (0 : Int) < 2; decide), L, _, _, _, rfl, rfl, SqL.of eL, hat, ?_⟩
        have pot2 := pot1.keep kL nin0
        refine ⟨_, rfl, _, rfl, _, rfl, X, _, rfl, .inl (SqL.of (kL.at hX1 nin0)), p, _, _, rfl, pot2, by omega, by rw [List.length_map]; omega, by rw [List.length_map]; omega, fun c G c0 c1 hkc potc => ?_⟩
        rw [List.length_map] at c1
        obtain ⟨z, hz, hz2, hz3⟩ := digit_in (l := tx) c0 c1
        have kc := keep_of_dig hkc
        refine ⟨X, _, c, .str z, rfl, rfl, SqL.of (kc.at (kL.at hX1 nin0) (nin1 nXp)), ?_, ?_⟩
        · rw [← hz3]
          exact atI_nat (by rw [List.getElem?_map, hz2]; rfl)
        refine ⟨(by show 2 ≤ sizeLine; decide), fun t ht => ?_⟩
        have fin := kk (upd G t (.tup [.str wd, .str z])) (.ref t) (.one wd z) (n + 1 + 1) ((k1.trans ((kL.more fun b z => absurd z nin0).trans kc)).newTo ht) ⟨t, rfl, upd_same⟩ (.inr ⟨hwd, htx z hz⟩) (Nat.zero_le _) (potc.keep (Keep.new ht (ex := [])) nin0) (by omega)
        show De.rt _ _
        rw [rt]
        exact fin
    refine ⟨_, pss_cons (ps_set (i := 4) scTst.nd rfl (Or.inl rfl) (pe_call FD hr1 rfl gD kD bD .nil pass0 (pa_cons (pv 0) (pa_cons pe_int pa_nil))))
      (pss_cons (ps_if (PW.pt (pw_and (pt_cmpR op_gt (pv 3) pe_int (nomark _)) (pw_and1 (pt_cmpR op_eq (pv 4) pe_int (nomark _)))))
        (pss_one (ps_ret (pe_tup (pa_cons pe_str (pa_cons (pe_call FR hr rfl gR kR bR .nil pass0 (pa_cons (pv 0) (pa_cons (pv 1) (pa_cons (pv 2) (pa_cons (pe_op op_sub (pv 3) pe_int) pa_nil))))) pa_nil))))) pss_nil)
      (pss_cons (ps_if (PW.pt (pw_and (pt_cmpR op_gt (pv 3) pe_int (nomark _)) (pw_and1 (pt_cmpR op_lt (pv 4) pe_int (nomark _)))))
        (pss_cons (ps_set (i := 5) scTst.nd rfl (Or.inl rfl) (pe_call FR hr rfl gR kR bR .nil pass0 (pa_cons (pv 0) (pa_cons (pv 1) (pa_cons (pv 2) (pa_cons (pe_op op_sub (pv 3) pe_int) pa_nil))))))
        (pss_one (ps_ret (pe_tup (pa_cons (pe_ix ix_list (pe_lst (pa_cons pe_str (pa_cons pe_str pa_nil))) (pe_op op_mod (pv 4) pe_int) (fun _ _ => rfl)) (pa_cons (pv 5) (pa_cons (pe_call FR hr rfl gR kR bR .nil pass0 (pa_cons (pv 0) (pa_cons (pv 1) (pa_cons (pv 2) (pa_cons (pe_op op_sub (pv 3) pe_int) pa_nil))))) pa_nil))))))) pss_nil)
        htt)), ?_⟩
    refine ⟨_, rfl, p, n, 8, rfl, pot, by omega, by decide, by decide, fun wy H1 w0 w1 hk1 pot1 => ?_⟩
    have k1 := keep_of_dig hk1
    have hl1 := hl.keep k1 (nin1 nlp) (lp pot)
    have hX1 := k1.at hX (nin1 nXp)
    -- one below
    have below : ∀ (G : Hp) (m : Nat) (Q' : VK), 0 < dp → Keep [p] H G → PotAt G p m → m + 4 * 2 ^ (dp - 1) ≤ n + 4 * 2 ^ dp → (∀ (G' : Hp) (v : V) (t : Ts) (m' : Nat), Keep [p] G G' → TestAt G' t v → t.Ok ps → t.dp + 1 ≤ dp → PotAt G' p m' → m' + 1 ≤ m + 4 * 2 ^ (dp - 1) → Q' v G') →
        spTst d [.ref p, .ref l, .ref X, .int ((dp : Int) - 1)] G Q' E := fun G m Q' h0 kG pG hm hq => by
      refine ⟨p, l, X, m, dp - 1, ps, tx, by rw [show ((dp : Int) - 1) = ((dp - 1 : Nat) : Int) by omega], by omega, pG, by omega, hl.keep kG (nin1 nlp) (lp pot), hps, nlp, t1, t2, htx, kG.at hX (nin1 nXp), nXp, fun G' v t m' k' ta ok hdp p' hm' => ?_⟩
      exact hq G' v t m' k' ta ok (by omega) p' hm'
    have two : 0 < dp → 2 ^ dp = 2 * 2 ^ (dp - 1) := fun h => by
      obtain ⟨j, rfl⟩ : ∃ j, dp = j + 1 := ⟨dp - 1, by omega⟩
      rw [Nat.add_sub_cancel, Nat.pow_succ]; omega
    refine ⟨_, rfl, _, _, rfl, rfl, _, rfl, ?_⟩
    by_cases h0 : 0 < dp
    · have e2 := two h0
      have n2 : 1 ≤ 2 ^ (dp - 1) := Nat.one_le_two_pow
      rw [decide_eq_true (show (dp : Int) > 0 by omega)]
      refine iteT ⟨_, rfl, rfl, _, rfl, ?_⟩
      refine ite2 (fun _ => ?_) (fun _ => ?_)
      · refine ⟨_, rfl, _, rfl, _, rfl, _, rfl, _, _, rfl, rfl, ?_⟩
        refine below _ _ _ h0 k1 pot1 (by omega) fun G v t m kG ta ok hdp pG hm => ?_
        refine ⟨(by show 2 ≤ sizeLine; decide), fun a ha => ?_⟩
        have ka : Keep [] G (upd G a (.tup [.str wNot, v])) := Keep.new ha
        exact kk _ (.ref a) (.not t) m ((k1.trans kG).newTo ha) ⟨a, v, rfl, upd_same, ta.keep0 ka⟩ ok hdp (pG.keep ka nin0) (by omega)
      · refine ⟨_, rfl, _, _, rfl, rfl, _, rfl, ?_⟩
        rw [decide_eq_true (show (dp : Int) > 0 by omega)]
        refine iteT ⟨_, rfl, _, _, rfl, rfl, _, rfl, ?_⟩
        refine ite2 (fun hw => ?_) (fun _ => ?_)
        · refine ⟨_, rfl, _, rfl, _, rfl, _, rfl, _, _, rfl, rfl, ?_⟩
          refine below _ _ _ h0 k1 pot1 (by omega) fun G v t m kG ta ok hdp pG hm => ?_
          refine ⟨(by show 2 ≤ sizeLine; decide), fun L hL => ?_⟩
          have kL : Keep [] G (upd G L (.lst [.str wAnd, .str wOr])) := Keep.new hL
          have eL : (upd G L (.lst [.str wAnd, .str wOr])) L = some (.lst [.str wAnd, .str wOr]) := upd_same
          generalize (upd G L (.lst [.str wAnd, .str wOr])) = G2 at kL eL ⊢
          obtain ⟨wd, hwd, hat⟩ : ∃ wd : Str, (wd = wAnd ∨ wd = wOr) ∧ atI [V.str wAnd, V.str wOr] (wy % 2) = some (.str wd) := by
            rcases (show wy % 2 = 0 ∨ wy % 2 = 1 by omega) with q | q
            · exact ⟨wAnd, .inl rfl, by rw [q]; rfl⟩
            · exact ⟨wOr, .inr rfl, by rw [q]; rfl⟩
          refine ⟨_, rfl, _, _, rfl, rfl, (by show (0 : Int) < 2; decide), L, _, _, _, rfl, rfl, SqL.of eL, hat, ?_⟩
          refine ⟨_, rfl, _, rfl, _, rfl, _, rfl, _, rfl, _, _, rfl, rfl, ?_⟩
          have kG2 := (k1.trans kG).trans (kL.more fun b z => absurd z nin0)
          have pG2 := pG.keep kL nin0
          refine below _ _ _ h0 kG2 pG2 (by omega) fun G3 v' t' m' kG3 ta' ok' hdp' pG3 hm' => ?_
          refine ⟨(by show 3 ≤ sizeLine; decide), fun a ha => ?_⟩
          have ka : Keep [] G3 (upd G3 a (.tup [.str wd, v, v'])) := Keep.new ha
          exact kk _ (.ref a) (.two wd t t') m' ((kG2.trans kG3).newTo ha) ⟨a, v, v', rfl, upd_same, ((ta.keep0 kL).keepP kG3 pG2).keep0 ka, ta'.keep0 ka⟩ ⟨hwd, ok, ok'⟩ (by show Nat.max t.dp t'.dp + 1 ≤ dp; exact Nat.succ_le_of_lt (Nat.lt_of_lt_of_le (Nat.lt_succ_of_le (Nat.max_le.mpr ⟨Nat.le_sub_one_of_lt hdp, Nat.le_sub_one_of_lt hdp'⟩)) (by omega))) (pG3.keep ka nin0) (by omega)
        · exact rtt _ H1 wy w0 w1 k1 pot1 rfl
    · rw [decide_eq_false (show ¬ (dp : Int) > 0 by omega)]
      refine iteF (iteF ?_)
      refine ⟨_, rfl, _, _, rfl, rfl, _, rfl, ?_⟩
      rw [decide_eq_false (show ¬ (dp : Int) > 0 by omega)]
      refine iteF (iteF ?_)
      exact rtt _ H1 wy w0 w1 k1 pot1 rfl
theorem ok_tst {f : Addr} {fd dD : FuncData} (F : Fun K "_law_test" "_law_test" sTst f fd) (gR : mg "_law_test" = some (.ref f)) (kR : PySem.W.keepIn K (.ref f) = true) (bR : Binds K fd aTst [])
    (FD : FnOk P w K mg base CX0 1 fDg dD ["_law_pot_here", "_law_many"] spDigit) (gD : mg "_law_digit" = some (.ref fDg)) (kD : PySem.W.keepIn K (.ref fDg) = true) (bD : Binds K dD ["_law_pot_here", "_law_many"] []) (mL : mg "len" = none) : ∀ d : Nat, FnOk P w K mg base CX0 (2 + d) f fd aTst (spTst d)
  | 0 => tst0
  | d + 1 => tstS F gR kR bR FD gD kD bD mL (ok_tst F gR kR bR FD gD kD bD mL d)
end
end Fs
/-! Kinds stay. -/
namespace Fs
open PySem L2 TL
theorem KindsAt.keep0 {C : Addr} {H H' : Hp} {kd : Addr} {ps : List (Str × Str)} (h : KindsAt C H kd ps) (k : Keep [] H H') : KindsAt C H' kd ps := h.keep k fun b z => absurd z nin0
end Fs
/-! The program's tests: is_test. -/
namespace Fs
open PySem L2 TL
/-- the words that have tests behind them -/
structure TBx (K : PySem.W.Frag) (mg : Str → Option Value) (w : World) (d : Addr) : Prop where
  g : mg "_TESTS_BEHIND" = some (.ref d)
  kd : ∃ es n, KDict K w d es n
  hN : ∃ u, PySem.W.nsIn K d wNot = some (some u) ∧ RelV (.int 1) u
  hA : ∃ u, PySem.W.nsIn K d wAnd = some (some u) ∧ RelV (.int 2) u
  hO : ∃ u, PySem.W.nsIn K d wOr = some (some u) ∧ RelV (.int 2) u
  nK : PySem.W.nsIn K d wKind = some none
  nS : PySem.W.nsIn K d wSays = some none
  nN : PySem.W.nsIn K d wNoted = some none
theorem TBx.dct {K : PySem.W.Frag} {mg : Str → Option Value} {w : World} {d : Addr} (T : TBx K mg w d) {z : Str} {v : V} (h : ∃ u, PySem.W.nsIn K d z = some (some u) ∧ RelV v u) : KDct K w d z v := by
  obtain ⟨es, n, D⟩ := T.kd
  obtain ⟨u, e, r⟩ := h
  exact ⟨es, n, u, D.at_, D.lit, e, r⟩
abbrev sSing : Stmt := top 10 --def _is_single
abbrev nSing : List Str := ["kinds", "thing", "word", "told"]
theorem scSing : FnScope nSing ["kinds", "thing"] (defScope sSing) := ⟨rfl, rfl, rfl, by decide +kernel, rfl, by decide +kernel, by decide +kernel⟩
def spSing (CK : Addr) : Sp := fun vs H Q _ => ∃ (kd p : Addr) (ps : List (Str × Str)) (wd x : Str), vs = [.ref kd, .ref p] ∧ KindsAt CK H kd ps ∧ H p = some (.tup [.str wd, .str x]) ∧ ((wd = wKind ∧ x ∈ allK ps) ∨ (wd = wSays ∨ wd = wNoted)) ∧ ∀ H', Keep [] H H' → Q (.bl true) H'
abbrev sIsT : Stmt := top 9 --def is_test
abbrev nIsT : List Str := ["kinds", "thing", "waiting", "found"]
theorem scIsT : FnScope nIsT ["kinds", "thing"] (defScope sIsT) := ⟨rfl, rfl, rfl, by decide +kernel, rfl, by decide +kernel, by decide +kernel⟩
def spIsT (CK : Addr) : Sp := fun vs H Q _ => ∃ (kd : Addr) (v : V) (ps : List (Str × Str)) (t : Ts), vs = [.ref kd, v] ∧ KindsAt CK H kd ps ∧ TestAt H t v ∧ t.Ok ps ∧ t.dp ≤ 9 ∧ ∀ H', Keep [] H H' → Q (.bl true) H'
end Fs
/-! Odd things, as trees. -/
namespace Fs
open PySem L2 TL
inductive Th where
  | flat (v : V)
  | lis (z : Str)
  | box
  | tup (l : List Th)
def Flt : V → Prop
  | .non => True
  | .bl _ => True
  | .int _ => True
  | .str z => IsTx z
  | _ => False
mutual
def ThAt (p : List Addr) (H : Hp) : Th → V → Prop
  | .flat u, v => v = u ∧ Flt u
  | .lis z, v => ∃ a, v = .ref a ∧ a ∉ p ∧ H a = some (.lst [.str z]) ∧ IsTx z
  | .box, v => ∃ a, v = .ref a ∧ a ∉ p ∧ ((∃ ys, H a = some (.lst ys)) ∨ ∃ kvs, H a = some (.dK kvs))
  | .tup l, v => ∃ a ys, v = .ref a ∧ H a = some (.tup ys) ∧ ThsAt p H l ys
def ThsAt (p : List Addr) (H : Hp) : List Th → List V → Prop
  | [], [] => True
  | x :: l, y :: ys => ThAt p H x y ∧ ThsAt p H l ys
  | [], _ :: _ => False
  | _ :: _, [] => False
end
mutual
def Th.sz : Th → Nat
  | .tup l => Th.szs l + 1
  | _ => 1
def Th.szs : List Th → Nat
  | [] => 0
  | x :: l => x.sz + Th.szs l
end
mutual
def Th.dp : Th → Nat
  | .tup l => Th.dps l + 1
  | _ => 0
def Th.dps : List Th → Nat
  | [] => 0
  | x :: l => max x.dp (Th.dps l)
end
def isS : Th → Bool
  | .flat (.str _) => true
  | _ => false
def oneT (ps : List (Str × Str)) (w : Str) : Th → Bool
  | .flat (.str z) => if w = wKind then decide (z ∈ allK ps) else decide (w = wSays) || decide (w = wNoted)
  | _ => false
def oneL (ps : List (Str × Str)) (w : Str) : List Th → Bool
  | [y] => oneT ps w y
  | _ => false
mutual
def isP (ps : List (Str × Str)) : Th → Bool
  | .tup l => isL ps l
  | _ => false
def isL (ps : List (Str × Str)) : List Th → Bool
  | [] => false
  | .flat (.str w) :: r => if w = wNot then decide (r.length = 1) && allP ps r else if w = wAnd ∨ w = wOr then decide (r.length = 2) && allP ps r else oneL ps w r
  | _ :: _ => false
def allP (ps : List (Str × Str)) : List Th → Bool
  | [] => true
  | x :: r => isP ps x && allP ps r
end
mutual
theorem ThAt.map {p : List Addr} {H H' : Hp} (k1 : ∀ a xs, H a = some (.tup xs) → H' a = some (.tup xs)) (k2 : ∀ a xs, a ∉ p → H a = some (.lst xs) → H' a = some (.lst xs)) (k3 : ∀ a xs, H a = some (.dK xs) → H' a = some (.dK xs)) : ∀ {t : Th} {v : V}, ThAt p H t v → ThAt p H' t v
  | .flat u, v, h => by
    simp only [ThAt] at h ⊢
    exact h
  | .lis z, v, h => by
    simp only [ThAt] at h ⊢
    obtain ⟨a, e, n, g, t⟩ := h
    exact ⟨a, e, n, k2 _ _ n g, t⟩
  | .box, v, h => by
    simp only [ThAt] at h ⊢
    obtain ⟨a, e, n, g⟩ := h
    refine ⟨a, e, n, ?_⟩
    rcases g with ⟨ys, g⟩ | ⟨ys, g⟩
    · exact .inl ⟨ys, k2 _ _ n g⟩
    · exact .inr ⟨ys, k3 _ _ g⟩
  | .tup l, v, h => by
    simp only [ThAt] at h ⊢
    obtain ⟨a, ys, e, g, t⟩ := h
    exact ⟨a, ys, e, k1 _ _ g, ThsAt.map k1 k2 k3 t⟩
theorem ThsAt.map {p : List Addr} {H H' : Hp} (k1 : ∀ a xs, H a = some (.tup xs) → H' a = some (.tup xs)) (k2 : ∀ a xs, a ∉ p → H a = some (.lst xs) → H' a = some (.lst xs)) (k3 : ∀ a xs, H a = some (.dK xs) → H' a = some (.dK xs)) : ∀ {l : List Th} {ys : List V}, ThsAt p H l ys → ThsAt p H' l ys
  | [], [], _ => by simp only [ThsAt]
  | x :: l, y :: ys, h => by
    simp only [ThsAt] at h ⊢
    exact ⟨ThAt.map k1 k2 k3 h.1, ThsAt.map k1 k2 k3 h.2⟩
  | [], _ :: _, h => by simp only [ThsAt] at h
  | _ :: _, [], h => by simp only [ThsAt] at h
end
theorem ThAt.keep0 {p : List Addr} {H H' : Hp} {t : Th} {v : V} (h : ThAt p H t v) (k : Keep [] H H') : ThAt p H' t v := h.map (fun a xs e => k.at e nin0) (fun a xs _ e => k.at e nin0) (fun a xs e => k.at e nin0)
theorem ThsAt.keep0 {p : List Addr} {H H' : Hp} {t : List Th} {v : List V} (h : ThsAt p H t v) (k : Keep [] H H') : ThsAt p H' t v := h.map (fun a xs e => k.at e nin0) (fun a xs _ e => k.at e nin0) (fun a xs e => k.at e nin0)
theorem ThAt.keepP {p : List Addr} {c : Addr} {H H' : Hp} {t : Th} {v : V} (h : ThAt p H t v) (hc : c ∈ p) (k : Keep [c] H H') (hp : ∃ xs, H c = some (.lst xs)) : ThAt p H' t v := by
  obtain ⟨xs, ep⟩ := hp
  exact h.map (fun a ys e => k.at e (nin1 (ne_of e ep (fun z => by cases z)))) (fun a ys n e => k.at e (nin1 fun z => n (by rw [z]; exact hc))) (fun a ys e => k.at e (nin1 (ne_of e ep (fun z => by cases z))))
theorem ThsAt.keepP {p : List Addr} {c : Addr} {H H' : Hp} {t : List Th} {v : List V} (h : ThsAt p H t v) (hc : c ∈ p) (k : Keep [c] H H') (hp : ∃ xs, H c = some (.lst xs)) : ThsAt p H' t v := by
  obtain ⟨xs, ep⟩ := hp
  exact h.map (fun a ys e => k.at e (nin1 (ne_of e ep (fun z => by cases z)))) (fun a ys n e => k.at e (nin1 fun z => n (by rw [z]; exact hc))) (fun a ys e => k.at e (nin1 (ne_of e ep (fun z => by cases z))))
theorem ThsAt.len {p : List Addr} {H : Hp} : ∀ {l : List Th} {ys : List V}, ThsAt p H l ys → ys.length = l.length
  | [], [], _ => rfl
  | x :: l, y :: ys, h => by
    simp only [ThsAt] at h
    rw [List.length_cons, List.length_cons, ThsAt.len h.2]
  | [], _ :: _, h => by simp only [ThsAt] at h
  | _ :: _, [], h => by simp only [ThsAt] at h
theorem Th.pos (t : Th) : 1 ≤ t.sz := by
  cases t <;> simp [Th.sz]
/-- a proper test is one -/
def thOf : Ts → Th
  | .one w x => .tup [.flat (.str w), .flat (.str x)]
  | .not a => .tup [.flat (.str wNot), thOf a]
  | .two w a b => .tup [.flat (.str w), thOf a, thOf b]
theorem tx_word : IsTx wKind ∧ IsTx wSays ∧ IsTx wNoted ∧ IsTx wNot ∧ IsTx wAnd ∧ IsTx wOr := by
  have go : ∀ z : Str, (decide (z.cps.toList.length ≤ 40) && z.cps.toList.all fun c => decide (c < 128)) = true → IsTx z := fun z h => by
    rw [Bool.and_eq_true, List.all_eq_true] at h
    exact ⟨of_decide_eq_true h.1, fun c hc => of_decide_eq_true (h.2 c hc)⟩
  exact ⟨go _ (by decide +kernel), go _ (by decide +kernel), go _ (by decide +kernel), go _ (by decide +kernel), go _ (by decide +kernel), go _ (by decide +kernel)⟩
theorem tx_go (z : Str) (h : (decide (z.cps.toList.length ≤ 40) && z.cps.toList.all fun c => decide (c < 128)) = true) : IsTx z := by
  rw [Bool.and_eq_true, List.all_eq_true] at h
  exact ⟨of_decide_eq_true h.1, fun c hc => of_decide_eq_true (h.2 c hc)⟩
theorem tx_kind {ps : List (Str × Str)} (hw : ∀ x ∈ allK ps, IsTx x) {t : Ts} (ok : t.Ok ps) {p : List Addr} {H : Hp} : ∀ {v : V}, TestAt H t v → ThAt p H (thOf t) v := by
  obtain ⟨t1, t2, t3, t4, t5, t6⟩ := tx_word
  induction t with
  | one w x =>
    intro v h
    obtain ⟨q, rfl, e⟩ := h
    simp only [thOf, ThAt, ThsAt]
    refine ⟨q, _, rfl, e, ⟨rfl, ?_⟩, ⟨rfl, ?_⟩, True.intro⟩
    · rcases ok with ⟨rfl, _⟩ | ⟨rfl | rfl, _⟩
      · exact t1
      · exact t2
      · exact t3
    · rcases ok with ⟨_, h⟩ | ⟨_, h⟩
      · exact hw x h
      · exact h
  | not a ih =>
    intro v h
    obtain ⟨q, u, rfl, e, g⟩ := h
    simp only [thOf, ThAt, ThsAt]
    exact ⟨q, _, rfl, e, ⟨rfl, t4⟩, ih ok g, True.intro⟩
  | two w a b iha ihb =>
    intro v h
    obtain ⟨q, u, u', rfl, e, g, g'⟩ := h
    obtain ⟨hw', oa, ob⟩ := ok
    simp only [thOf, ThAt, ThsAt]
    refine ⟨q, _, rfl, e, ⟨rfl, ?_⟩, iha oa g, ihb ob g', True.intro⟩
    rcases hw' with rfl | rfl
    · exact t5
    · exact t6
def isTu : Th → Bool
  | .tup _ => true
  | _ => false
theorem isi_th {K : PySem.W.Frag} {p : List Addr} {H : Hp} {t : Th} {v : V} (h : ThAt p H t v) : ∃ ty, TyX K H v (.type ty) ∧ kitB ty "tuple" = some (isTu t) ∧ kitB ty "str" = some (isS t) := by
  have no : ∀ ty : String, (kitB ty "tuple" = some false ∧ kitB ty "str" = some false) → isTu t = false → isS t = false → kitB ty "tuple" = some (isTu t) ∧ kitB ty "str" = some (isS t) := fun ty h a b => by rw [a, b]; exact h
  cases t with
  | flat u =>
    simp only [ThAt] at h
    obtain ⟨rfl, f⟩ := h
    cases v with
    | non => exact ⟨"NoneType", .base .non, no _ (by decide +kernel) rfl rfl⟩
    | bl b => exact ⟨"bool", .base (.bl b), no _ (by decide +kernel) rfl rfl⟩
    | int i => exact ⟨"int", .base (.int i), no _ (by decide +kernel) rfl rfl⟩
    | str z => exact ⟨"str", .base (.str z), show kitB "str" "tuple" = some false ∧ kitB "str" "str" = some true by decide +kernel⟩
    | byt b => exact f.elim
    | flt b => exact f.elim
    | ref a => exact f.elim
    | ty n => exact f.elim
  | lis z =>
    simp only [ThAt] at h
    obtain ⟨a, rfl, n, g, _⟩ := h
    exact ⟨"list", .base (.lst g), no _ (by decide +kernel) rfl rfl⟩
  | box =>
    simp only [ThAt] at h
    obtain ⟨a, rfl, n, g⟩ := h
    rcases g with ⟨ys, g⟩ | ⟨ys, g⟩
    · exact ⟨"list", .base (.lst g), no _ (by decide +kernel) rfl rfl⟩
    · exact ⟨"dict", .base (.dK g), no _ (by decide +kernel) rfl rfl⟩
  | tup l =>
    simp only [ThAt] at h
    obtain ⟨a, ys, rfl, g, _⟩ := h
    exact ⟨"tuple", .base (.tup g), show kitB "tuple" "tuple" = some true ∧ kitB "tuple" "str" = some false by decide +kernel⟩
theorem isS_of {p : List Addr} {H : Hp} {t : Th} {v : V} (h : ThAt p H t v) : isS t = true ↔ ∃ z, v = .str z := by
  cases t with
  | flat u =>
    simp only [ThAt] at h
    obtain ⟨rfl, f⟩ := h
    cases v <;> simp [isS]
  | lis z =>
    simp only [ThAt] at h
    obtain ⟨a, rfl, _⟩ := h
    simp [isS]
  | box =>
    simp only [ThAt] at h
    obtain ⟨a, rfl, _⟩ := h
    simp [isS]
  | tup l =>
    simp only [ThAt] at h
    obtain ⟨a, ys, rfl, _⟩ := h
    simp [isS]
end Fs
/-! The program: what is a test, of anything. -/
namespace Fs
open PySem L2 TL
theorem wf1 {a b : Str} {A B : Prop} (h : a ≠ b) (x : B) : if decide (V.str a = V.str b) = true then A else B := by
  rw [decide_eq_false (fun z => h (V.str.inj z))]
  exact iteF x
theorem wt1 {a b : Str} {A B : Prop} (h : a = b) (x : A) : if decide (V.str a = V.str b) = true then A else B := by
  rw [decide_eq_true (show V.str a = V.str b by rw [h])]
  exact iteT x
def isK (ps : List (Str × Str)) : Th → Bool
  | .flat (.str z) => decide (z ∈ allK ps)
  | _ => false
theorem isK_no {ps : List (Str × Str)} {t : Th} (h : isS t = false) : isK ps t = false := by
  cases t with
  | flat v => cases v <;> first | rfl | (simp [isS] at h)
  | lis z => rfl
  | box => rfl
  | tup l => rfl
theorem oneT_kind {ps : List (Str × Str)} {w : Str} (h : w = wKind) (t : Th) : oneT ps w t = isK ps t := by
  cases t with
  | flat v => cases v <;> first | rfl | exact if_pos h
  | lis z => rfl
  | box => rfl
  | tup l => rfl
theorem oneT_not {ps : List (Str × Str)} {w : Str} (h : w ≠ wKind) (t : Th) : oneT ps w t = ((decide (w = wSays) || decide (w = wNoted)) && isS t) := by
  cases t with
  | flat v => cases v <;> first | exact (Bool.and_false _).symm | exact (if_neg h).trans (Bool.and_true _).symm
  | lis z => exact (Bool.and_false _).symm
  | box => exact (Bool.and_false _).symm
  | tup l => exact (Bool.and_false _).symm
def spTxT : Sp := fun vs H Q _ => ∃ (p : List Addr) (t : Th) (v : V), vs = [v] ∧ ThAt p H t v ∧ Q (.bl (isS t)) H
def spKdT (C : Addr) : Sp := fun vs H Q _ => ∃ (p : List Addr) (kd : Addr) (t : Th) (v : V) (ps : List (Str × Str)), vs = [.ref kd, v] ∧ KindsAt C H kd ps ∧ ThAt p H t v ∧ Q (.bl (isK ps t)) H
def spSiT (CK : Addr) : Sp := fun vs H Q _ => ∃ (p : List Addr) (kd q : Addr) (ps : List (Str × Str)) (w : Str) (r : List Th) (ys : List V), vs = [.ref kd, .ref q] ∧ KindsAt CK H kd ps ∧ H q = some (.tup (.str w :: ys)) ∧ ThsAt p H r ys ∧ ∀ H', Keep [] H H' → Q (.bl (oneL ps w r)) H'
def spTeT (CK : Addr) : Sp := fun vs H Q _ => ∃ (p : List Addr) (kd : Addr) (v : V) (ps : List (Str × Str)) (t : Th), vs = [.ref kd, v] ∧ KindsAt CK H kd ps ∧ ThAt p H t v ∧ t.sz ≤ 9000 ∧ ∀ H', Keep [] H H' → Q (.bl (isP ps t)) H'
structure TBy (K : PySem.W.Frag) (mg : Str → Option Value) (w : World) (d : Addr) : Prop extends TBx K mg w d where
  no : ∀ z, z ≠ wNot → z ≠ wAnd → z ≠ wOr → PySem.W.nsIn K d z = some none
section
variable {P : Program} {w : World} {K : PySem.W.Frag} {mg : Str → Option Value} {base : Heap} {CK fI fK fN fT fS dT : Addr}
theorem ok_txT {f : Addr} {fd : FuncData} (F : Fun K "is_text" "is_text" sIsText f fd) (mI : mg "isinstance" = none) (mS : mg "str" = none) : FnOk P w K mg base CX0 1 f fd ["thing"] spTxT := by
  refine F.ok scIsText (fun vs H Q E h => ?_) (fun cdv A outer s H vs Q E hr h => ?_)
  · obtain ⟨p, t, v, rfl, _⟩ := h
    rfl
  · obtain ⟨p, t, v, rfl, th, kk⟩ := h
    refine ⟨_, pss_one (ps_ret (pe_callB call_isi (by rfl) mI (by decide +kernel) (pa_cons (pv 0) (pa_cons (pe_bltn (v := .ty "str") (u := .type "str") (by rfl) mS (by decide +kernel) rfl) pa_nil)))), ?_⟩
    obtain ⟨ty, h1, h2, h3⟩ := isi_th (K := K) th
    exact ⟨_, rfl, _, _, _, _, _, rfl, .ty "str", h1, kit_ty h3, kk⟩
theorem ok_kdT {fd fdT : FuncData} (F : Fun K "is_kind" "Kinds.is_kind" sIsKind fK fd) (T : KTxt K mg CK fI fK fN) (FT : FnOk P w K mg base CX0 1 fT fdT ["thing"] spTxT) (mT : mg "is_text" = some (.ref fT)) (kT : PySem.W.keepIn K (.ref fT) = true) (bT : Binds K fdT ["thing"] []) : FnOk P w K mg base CX0 2 fK fd ["self", "thing"] (spKdT CK) := by
  refine F.ok scIsKind (fun vs H Q E h => ?_) (fun cdv A outer s H vs Q E hr h => ?_)
  · obtain ⟨p, kd, t, v, ps, rfl, _⟩ := h
    rfl
  · obtain ⟨p, kd, t, v, ps, rfl, ⟨dx, d, e1, e2⟩, th, kk⟩ := h
    refine ⟨_, pss_one (ps_ret (pe_and (pe_call FT hr rfl mT kT bT .nil pass0 (pa_cons (pv 1) pa_nil)) (pe_one (pe_cmp (pc_din (hu_of hr) (pv 1) (pe_fld (pv 0) rfl)) rfl)))), ?_⟩
    refine ⟨_, rfl, p, t, v, rfl, th, _, rfl, ?_⟩
    cases hs : isS t with
    | false =>
      refine iteF ?_
      have e : isK ps t = false := isK_no hs
      rw [e] at kk
      exact kk
    | true =>
      obtain ⟨z, rfl⟩ := (isS_of th).mp hs
      have et : t = .flat (.str z) := by
        cases t with
        | flat u => simp only [ThAt] at th; rw [th.1]
        | lis y => simp only [ThAt] at th; obtain ⟨a, e, _⟩ := th; cases e
        | box => simp only [ThAt] at th; obtain ⟨a, e, _⟩ := th; cases e
        | tup l => simp only [ThAt] at th; obtain ⟨a, ys, e, _⟩ := th; cases e
      subst et
      refine iteT ⟨_, rfl, _, rfl, kd, CK, dx, _, _, rfl, e1, T.cl, T.nA, ab_look _, d, _, rfl, DGet.k (k := Sum.inr z) e2, ?_⟩
      rw [kvs_is]
      exact kk
theorem ok_siT {f : Addr} {fd dK dTx : FuncData} (F : Fun K "_is_single" "_is_single" sSing f fd) (T : KTxt K mg CK fI fK fN) (FK : FnOk P w K mg base CX0 2 fK dK ["self", "thing"] (spKdT CK)) (bK : Binds K dK ["self", "thing"] [])
    (FT : FnOk P w K mg base CX0 1 fT dTx ["thing"] spTxT) (gT : mg "is_text" = some (.ref fT)) (kT : PySem.W.keepIn K (.ref fT) = true) (bT : Binds K dTx ["thing"] []) (mL : mg "len" = none) :
    FnOk P w K mg base CX0 3 f fd ["kinds", "thing"] (spSiT CK) := by
  refine F.ok scSing (fun vs H Q E h => ?_) (fun cdv A outer s H vs Q E hr h => ?_)
  · obtain ⟨p, kd, q, ps, wd, r, ys, rfl, _⟩ := h
    rfl
  · obtain ⟨p, kd, q, ps, wd, r, ys, rfl, hK, hp, th, kk⟩ := h
    have hr1 : Room 1 _ := hr.mono (by omega)
    obtain ⟨dk, dd, g1, g2⟩ := id hK
    refine ⟨_, pss_cons (ps_if (pt_cmpR op_ne (pe_callB call_len_seq (by rfl) mL PySem.boot_len (pa_cons (pv 1) pa_nil)) pe_int (nomark _)) (pss_one (ps_ret pe_bl)) pss_nil)
      (pss_cons (ps_asg (pv 1) (pg_tup rfl (pgs_cons (pg_name (i := 2) scSing.nd rfl (Or.inl rfl)) (pgs_cons (pg_name (i := 3) scSing.nd rfl (Or.inl rfl)) pgs_nil))))
      (pss_cons (ps_if (pt_cmpR op_eq (pv 2) pe_str (nomark _)) (pss_one (ps_ret (pe_meth (pv 0) T.cl T.mK FK hr bK .nil pass0 (pa_cons (pv 3) pa_nil)))) pss_nil)
      (pss_one (ps_ret (pe_and (pe_cmpR op_in_seq (pv 2) (pe_tup (pa_cons pe_str (pa_cons pe_str pa_nil))) (by rfl)) (pe_one (pe_call FT hr1 rfl gT kT bT .nil pass0 (pa_cons (pv 3) pa_nil)))))))), ?_⟩
    refine ⟨_, rfl, q, _, rfl, .inr (SqT.of hp), rfl, _, rfl, ?_⟩
    have lr := th.len
    rw [List.length_cons, lr]
    by_cases h1 : r.length = 1
    case neg =>
      rw [decide_eq_false (show ¬ V.int ((r.length + 1 : Nat) : Int) = V.int 2 from fun z => h1 (by have := V.int.inj z; omega))]
      refine iteT ?_
      have e : oneL ps wd r = false := by
        match r, h1 with
        | [], _ => rfl
        | _ :: _ :: _, _ => rfl
      have := kk H (Keep.refl _ _)
      rw [e] at this
      exact this
    rw [decide_eq_true (show V.int ((r.length + 1 : Nat) : Int) = V.int 2 by rw [h1]; rfl)]
    refine iteF ?_
    obtain ⟨y, rfl⟩ : ∃ y, r = [y] := by
      match r, h1 with
      | [y], _ => exact ⟨y, rfl⟩
    obtain ⟨v, rfl⟩ : ∃ v, ys = [v] := by
      match ys, lr with
      | [v], _ => exact ⟨v, rfl⟩
    have ty : ThAt p H y v := by simp only [ThsAt] at th; exact th.1
    refine ⟨_, rfl, q, _, rfl, SqT.of hp, rfl, _, _, rfl, _, _, rfl, rfl, ?_⟩
    refine ⟨_, rfl, rfl, _, rfl, ?_⟩
    by_cases hk : wd = wKind
    · refine wt1 hk ?_
      refine ⟨_, rfl, kd, dk, _, rfl, g1, ab_no _ (by decide +kernel), _, rfl, p, kd, y, v, ps, rfl, hK, ty, ?_⟩
      have := kk H (Keep.refl _ _)
      have e : oneL ps wd [y] = isK ps y := oneT_kind hk y
      rw [e] at this
      exact this
    · refine wf1 hk ?_
      refine ⟨_, rfl, (by show 2 ≤ sizeLine; decide), fun t ht => ?_⟩
      have e2 : inV (.str wd) [V.str wSays, V.str wNoted] = (decide (wd = wSays) || decide (wd = wNoted)) := by
        have a1 : eqV (.str wSays) (.str wd) = decide (wd = wSays) := by
          show (wSays == wd) = _
          rw [Bool.eq_iff_iff, beq_iff_eq, decide_eq_true_eq]
          exact ⟨fun h => h.symm, fun h => h.symm⟩
        have a2 : eqV (.str wNoted) (.str wd) = decide (wd = wNoted) := by
          show (wNoted == wd) = _
          rw [Bool.eq_iff_iff, beq_iff_eq, decide_eq_true_eq]
          exact ⟨fun h => h.symm, fun h => h.symm⟩
        show (eqV (.str wSays) (.str wd) || (eqV (.str wNoted) (.str wd) || false)) = _
        rw [a1, a2, Bool.or_false]
      refine ⟨t, _, rfl, .inr (SqT.of upd_same), rfl, rfl, (decide (wd = wSays) || decide (wd = wNoted)), congrArg V.bl e2, ?_⟩
      have kt : Keep [] H (upd H t (.tup [V.str wSays, V.str wNoted])) := Keep.new ht
      have last := kk _ kt
      have e : oneL ps wd [y] = ((decide (wd = wSays) || decide (wd = wNoted)) && isS y) := oneT_not hk y
      rw [e] at last
      cases hw : (decide (wd = wSays) || decide (wd = wNoted)) with
      | false =>
        rw [hw, Bool.false_and] at last
        exact iteF last
      | true =>
        rw [hw, Bool.true_and] at last
        refine iteT ⟨_, rfl, p, y, v, rfl, ty.keep0 kt, ?_⟩
        exact last
end
end Fs
/-! The program: is_test, of anything. -/
namespace Fs
open PySem L2 TL
theorem two_ne {wd : Str} (h : wd = wAnd ∨ wd = wOr) : wd ≠ wKind ∧ wd ≠ wSays ∧ wd ≠ wNoted ∧ wd ≠ wNot := by
  rcases h with h | h <;> rw [h] <;> decide +kernel
theorem cut_from {xs : List V} {k : Nat} (h : k ≤ xs.length) : cutV xs (some (k : Int)) none = xs.drop k := by
  unfold cutV
  rw [HT.sIx_nat, HT.sIx_none, Nat.min_eq_left h]
  exact List.take_of_length_le (by rw [List.length_drop]; exact Nat.le_refl _)
theorem cut_to {xs : List V} {k : Nat} (h : k ≤ xs.length) : cutV xs none (some (k : Int)) = xs.take k := by
  unfold cutV
  rw [HT.sIx_nat, HT.sIx_none, Nat.min_eq_left h, List.drop_zero, Nat.sub_zero]
theorem cut_1 {x : V} {xs : List V} : cutV (x :: xs) (some 1) none = xs := cut_from (k := 1) (Nat.le_add_left 1 _)
theorem cut_h1 {x : V} {xs : List V} : cutV (x :: xs) none (some 1) = [x] := cut_to (k := 1) (Nat.le_add_left 1 _)
theorem at0 {α : Type} (y : α) (ys : List α) : atI (y :: ys) 0 = some y := atI_nat (j := 0) rfl
mutual
theorem ThAt.re {p : List Addr} {W : Addr} {H : Hp} (n : H W = none) : ∀ {t : Th} {v : V}, ThAt p H t v → ThAt [W] H t v
  | .flat u, v, h => by simp only [ThAt] at h ⊢; exact h
  | .lis z, v, h => by
    simp only [ThAt] at h ⊢
    obtain ⟨a, e, _, g, t⟩ := h
    exact ⟨a, e, fun z => (by rw [List.mem_singleton.mp z, n] at g; cases g), g, t⟩
  | .box, v, h => by
    simp only [ThAt] at h ⊢
    obtain ⟨a, e, _, g⟩ := h
    refine ⟨a, e, fun z => ?_, g⟩
    rw [List.mem_singleton.mp z, n] at g
    rcases g with ⟨ys, g⟩ | ⟨ys, g⟩ <;> cases g
  | .tup l, v, h => by
    simp only [ThAt] at h ⊢
    obtain ⟨a, ys, e, g, t⟩ := h
    exact ⟨a, ys, e, g, ThsAt.re n t⟩
theorem ThsAt.re {p : List Addr} {W : Addr} {H : Hp} (n : H W = none) : ∀ {l : List Th} {ys : List V}, ThsAt p H l ys → ThsAt [W] H l ys
  | [], [], _ => by simp only [ThsAt]
  | x :: l, y :: ys, h => by
    simp only [ThsAt] at h ⊢
    exact ⟨ThAt.re n h.1, ThsAt.re n h.2⟩
  | [], _ :: _, h => by simp only [ThsAt] at h
  | _ :: _, [], h => by simp only [ThsAt] at h
end
theorem ThAt.up {W : Addr} {H : Hp} {t : Th} {v : V} {xs ys : List V} (h : ThAt [W] H t v) (e : H W = some (.lst xs)) : ThAt [W] (upd H W (.lst ys)) t v :=
  h.map (fun a zs g => by rw [upd_ne (ne_of g e (fun z => by cases z))]; exact g) (fun a zs n g => by rw [upd_ne (fun z => n (by rw [z]; exact List.mem_singleton_self _))]; exact g) (fun a zs g => by rw [upd_ne (ne_of g e (fun z => by cases z))]; exact g)
theorem ThsAt.up {W : Addr} {H : Hp} {t : List Th} {v : List V} {xs ys : List V} (h : ThsAt [W] H t v) (e : H W = some (.lst xs)) : ThsAt [W] (upd H W (.lst ys)) t v :=
  h.map (fun a zs g => by rw [upd_ne (ne_of g e (fun z => by cases z))]; exact g) (fun a zs n g => by rw [upd_ne (fun z => n (by rw [z]; exact List.mem_singleton_self _))]; exact g) (fun a zs g => by rw [upd_ne (ne_of g e (fun z => by cases z))]; exact g)
theorem ThsAt.zip {p : List Addr} {H : Hp} (ps : List (Str × Str)) : ∀ {r : List Th} {ys : List V}, ThsAt p H r ys → (∀ z ∈ r.zip ys, ThAt p H z.1 z.2) ∧ (r.zip ys).map Prod.snd = ys ∧ ((r.zip ys).map fun z => z.1.sz).sum = Th.szs r ∧ ((r.zip ys).all fun z => isP ps z.1) = allP ps r
  | [], [], _ => ⟨fun z h => (List.not_mem_nil h).elim, rfl, by simp [Th.szs], by simp [allP]⟩
  | x :: l, y :: ys, h => by
    simp only [ThsAt] at h
    obtain ⟨a, b, c, d⟩ := ThsAt.zip ps h.2
    refine ⟨fun z hz => ?_, ?_, ?_, ?_⟩
    · rcases List.mem_cons.mp hz with q | q
      · rw [q]; exact h.1
      · exact a z q
    · rw [List.zip_cons_cons, List.map_cons, b]
    · rw [List.zip_cons_cons, List.map_cons, List.sum_cons, c]; simp only [Th.szs]
    · rw [List.zip_cons_cons, List.all_cons, d]; simp only [allP]
  | [], _ :: _, h => by simp only [ThsAt] at h
  | _ :: _, [], h => by simp only [ThsAt] at h
theorem isL_w (ps : List (Str × Str)) (w : Str) (r : List Th) : isL ps (.flat (.str w) :: r) = (if w = wNot then decide (r.length = 1) && allP ps r else if w = wAnd ∨ w = wOr then decide (r.length = 2) && allP ps r else oneL ps w r) := by simp only [isL]
theorem isL_not (ps : List (Str × Str)) (r : List Th) : isL ps (.flat (.str wNot) :: r) = (decide (r.length = 1) && allP ps r) := (isL_w ps wNot r).trans (if_pos rfl)
theorem isL_two (ps : List (Str × Str)) {w : Str} (h : w = wAnd ∨ w = wOr) (r : List Th) : isL ps (.flat (.str w) :: r) = (decide (r.length = 2) && allP ps r) := (isL_w ps w r).trans ((if_neg (two_ne h).2.2.2).trans (if_pos h))
theorem isL_one (ps : List (Str × Str)) {w : Str} (h1 : w ≠ wNot) (h2 : ¬ (w = wAnd ∨ w = wOr)) (r : List Th) : isL ps (.flat (.str w) :: r) = oneL ps w r := (isL_w ps w r).trans ((if_neg h1).trans (if_neg h2))
theorem isL_no {ps : List (Str × Str)} {x : Th} {r : List Th} (h : isS x = false) : isL ps (x :: r) = false := by
  cases x with
  | flat v => cases v <;> first | (simp [isL]; done) | (simp [isS] at h)
  | lis z => simp [isL]
  | box => simp [isL]
  | tup l => simp [isL]
theorem isP_no {ps : List (Str × Str)} {t : Th} (h : isTu t = false) : isP ps t = false := by
  cases t with
  | tup l => simp [isTu] at h
  | _ => simp [isP]
theorem th_tot : ∀ zs : List (Th × V), zs.length ≤ (zs.map fun z => z.1.sz).sum := fun zs => by
  induction zs with
  | nil => exact Nat.le_refl _
  | cons z r ih => rw [List.map_cons, List.sum_cons, List.length_cons]; have := z.1.pos; omega
theorem szs_len : ∀ r : List Th, r.length ≤ Th.szs r := fun r => by
  induction r with
  | nil => exact Nat.zero_le _
  | cons z r ih => rw [List.length_cons]; simp only [Th.szs]; have := z.pos; omega
section
variable {P : Program} {w : World} {K : PySem.W.Frag} {mg : Str → Option Value} {base : Heap} {CK fI fK fN fT fS dT : Addr}
theorem ok_isTT {f fS : Addr} {fd dS dTx : FuncData} (F : Fun K "is_test" "is_test" sIsT f fd) (B : TBy K mg w dT) (FS : FnOk P w K mg base CX0 3 fS dS ["kinds", "thing"] (spSiT CK)) (gS : mg "_is_single" = some (.ref fS)) (kS : PySem.W.keepIn K (.ref fS) = true) (bS : Binds K dS ["kinds", "thing"] [])
    (FT : FnOk P w K mg base CX0 1 fT dTx ["thing"] spTxT) (gT : mg "is_text" = some (.ref fT)) (kT : PySem.W.keepIn K (.ref fT) = true) (bT : Binds K dTx ["thing"] []) (mL : mg "len" = none) (mI : mg "isinstance" = none) (mT : mg "tuple" = none) :
    FnOk P w K mg base CX0 4 f fd ["kinds", "thing"] (spTeT CK) := by
  refine F.ok scIsT (fun vs H Q E h => ?_) (fun cdv A outer s H vs Q E hr h => ?_)
  · obtain ⟨p, kd, v, ps, t, rfl, _⟩ := h
    rfl
  · obtain ⟨p, kd, v, ps, t, rfl, hK, ta, hsz, kk⟩ := h
    have hr1 : Room 1 _ := hr.mono (by omega)
    obtain ⟨es, nn, D⟩ := B.kd
    refine ⟨_, pss_cons (ps_set (i := 2) scIsT.nd rfl (Or.inl rfl) (pe_lst (pa_cons (pv 1) pa_nil)))
      (pss_cons (ps_while PassesOwn.never (pt_truth (pv 2) (fun _ => rfl))
        (pss_cons (ps_set (i := 3) scIsT.nd rfl (Or.inl rfl) (pe_bm0 PySem.F.plainAttrs_list PySem.F.slot_list_pop PySem.F.type_list_pop mt_pop (pv 2)))
        (pss_cons (ps_if (PW.pt (pw_or (pt_not (pt_val (pe_callB call_isi (by rfl) mI (by decide +kernel) (pa_cons (pv 3) (pa_cons (pe_bltn (v := .ty "tuple") (u := .type "tuple") (by rfl) mT (by decide +kernel) rfl) pa_nil)))))
            (pw_or (pt_not (pt_truth (pv 3) (fun _ => rfl))) (pw_or1 (pt_not (pt_val (pe_call FT hr1 rfl gT kT bT .nil pass0 (pa_cons (pe_ix ix_tup (pv 3) pe_int (fun _ _ => rfl)) pa_nil))))))))
          (pss_one (ps_ret pe_bl)) pss_nil)
        (pss_one (ps_if (pt_cmpR (op_in_kd D) (pe_ix ix_tup (pv 3) pe_int (fun _ _ => rfl)) (pe_glob (v := .ref dT) rfl B.g rfl) (by rfl))
          (pss_cons (ps_if (pt_cmpR op_ne (pe_callB call_len_seq (by rfl) mL PySem.boot_len (pa_cons (pv 3) pa_nil)) (pe_op op_add pe_int (pe_ix ix_kdict (pe_glob (v := .ref dT) rfl B.g rfl) (pe_ix ix_tup (pv 3) pe_int (fun _ _ => rfl)) (fun _ _ => rfl))) (nomark _)) (pss_one (ps_ret pe_bl)) pss_nil)
          (pss_one (ps_expr (pe_bm PySem.F.plainAttrs_list PySem.F.slot_list_extend PySem.F.type_list_extend mt_extT (pv 2) (pa_cons (pe_slice sl_tupA (pv 3) (po_some pe_int) po_none) pa_nil)))))
          (pss_one (ps_if (pt_not (pt_val (pe_call FS hr rfl gS kS bS .nil pass0 (pa_cons (pv 0) (pa_cons (pv 3) pa_nil))))) (pss_one (ps_ret pe_bl)) pss_nil)))))))
      (pss_one (ps_ret pe_bl))), ?_⟩
    refine ⟨_, rfl, (by show 1 ≤ sizeLine; decide), fun W hW => ?_⟩
    have k0 : Keep [] H (upd H W (.lst [v])) := Keep.new hW
    have e0 : (upd H W (.lst [v])) W = some (.lst [v]) := upd_same
    have ta0 : ThAt [W] (upd H W (.lst [v])) t v := (ta.re hW).keep0 k0
    generalize (upd H W (.lst [v])) = G0 at k0 e0 ta0 ⊢
    let Inv : Nat → L2.St → Hp → Prop := fun m σ G => ∃ (zs : List (Th × V)) (v3 : Option V), σ = [some (.ref kd), some v, some (.ref W), v3] ∧ Keep [] H G ∧ G W = some (.lst (zs.map Prod.snd)) ∧ (∀ z ∈ zs, ThAt [W] G z.1 z.2) ∧ isP ps t = (zs.all fun z => isP ps z.1) ∧ m = (zs.map fun z => z.1.sz).sum ∧ m ≤ 9000
    refine ⟨Inv, ⟨_, [(t, v)], none, rfl, k0, e0, fun z hz => ?_, by simp, rfl, by simpa using hsz⟩, ?_⟩
    · rw [List.mem_singleton.mp hz]
      exact ta0
    rintro m σ G ⟨zs, v3, rfl, kG, eW, hz, hall, rfl, hm⟩
    refine ⟨_, rfl, !(zs.map Prod.snd).isEmpty, .inl ⟨_, SqL.of eW, rfl⟩, ?_⟩
    rcases List.eq_nil_or_concat zs with hst | ⟨l0, x, hst⟩
    · subst hst
      refine iteF ?_
      have := kk G kG
      rw [hall] at this
      exact this
    rw [List.concat_eq_append] at hst
    subst hst
    have ene : ((l0 ++ [x]).map Prod.snd).isEmpty = false := by cases l0 <;> rfl
    rw [ene]
    refine iteT ⟨fun σ' H' => ∃ m', m' < ((l0 ++ [x]).map fun z => z.1.sz).sum ∧ Inv m' σ' H', fun σ' H' h => h, ?_⟩
    have get : ((l0 ++ [x]).map Prod.snd)[((l0 ++ [x]).map Prod.snd).length - 1]? = some x.2 := by
      rw [List.map_append, List.length_append, List.getElem?_append_right (by simp)]
      simp
    refine ⟨_, rfl, .inl ⟨rfl, _, SqL.of eW⟩, W, _, x.2, rfl, rfl, eW, get, ?_⟩
    have edr : ((l0 ++ [x]).map Prod.snd).dropLast = l0.map Prod.snd := by rw [List.map_append]; simp
    rw [edr]
    have kG2 : Keep [] H (upd G W (.lst (l0.map Prod.snd))) := kG.freshTo hW
    have hz2 : ∀ z ∈ l0, ThAt [W] (upd G W (.lst (l0.map Prod.snd))) z.1 z.2 := fun z h => (hz z (List.mem_append_left _ h)).up eW
    have tx : ThAt [W] (upd G W (.lst (l0.map Prod.snd))) x.1 x.2 := (hz x (List.mem_append_right _ List.mem_cons_self)).up eW
    have eW2 : (upd G W (.lst (l0.map Prod.snd))) W = some (.lst (l0.map Prod.snd)) := upd_same
    generalize (upd G W (.lst (l0.map Prod.snd))) = G2 at kG2 hz2 tx eW2 ⊢
    have sum2 : ((l0 ++ [x]).map fun z => z.1.sz).sum = (l0.map fun z => z.1.sz).sum + x.1.sz := by rw [List.map_append, List.sum_append]; simp
    rw [sum2] at hm ⊢
    have ll := th_tot l0
    have all2 : isP ps t = ((l0.all fun z => isP ps z.1) && isP ps x.1) := by rw [hall, List.all_append]; simp
    have out : isP ps x.1 = false → ∀ H', Keep [] H H' → Q (.bl false) H' := fun e H' k => by
      have := kk H' k
      rw [all2, e, Bool.and_false] at this
      exact this
    obtain ⟨x, y⟩ := x
    dsimp only at tx all2 out hm sum2 ⊢
    obtain ⟨ty, h1, h2, _⟩ := isi_th (K := K) tx
    refine ⟨_, rfl, _, _, _, _, _, rfl, .ty "tuple", h1, kit_ty h2, isTu x, rfl, ?_⟩
    cases hx : isTu x with
    | false => exact iteT (out (isP_no hx) _ kG2)
    | true =>
    refine iteF ?_
    obtain ⟨l, rfl⟩ : ∃ l, x = .tup l := by
      cases x with
      | tup l => exact ⟨l, rfl⟩
      | _ => simp [isTu] at hx
    simp only [ThAt] at tx
    obtain ⟨q, us, rfl, hp, tl⟩ := tx
    refine ⟨_, rfl, !us.isEmpty, .inr (.inl ⟨_, SqT.of hp, rfl⟩), ?_⟩
    cases l with
    | nil =>
      obtain rfl : us = [] := by
        cases us with
        | nil => rfl
        | cons _ _ => simp only [ThsAt] at tl
      exact iteT (out (by simp [isP, isL]) _ kG2)
    | cons h0 r =>
    cases us with
    | nil => simp only [ThsAt] at tl
    | cons y0 ys =>
    simp only [ThsAt] at tl
    obtain ⟨t0, tr⟩ := tl
    refine iteF ?_
    refine ⟨_, rfl, q, _, 0, y0, rfl, rfl, SqT.of hp, at0 _ _, [W], h0, y0, rfl, t0, _, rfl, ?_⟩
    cases h0s : isS h0 with
    | false => exact iteT (out (by simp only [isP]; exact isL_no h0s) _ kG2)
    | true =>
    refine iteF ?_
    obtain ⟨wd, rfl⟩ : ∃ wd, h0 = .flat (.str wd) := by
      cases h0 with
      | flat v => cases v <;> first | exact ⟨_, rfl⟩ | (simp [isS] at h0s)
      | _ => simp [isS] at h0s
    simp only [ThAt] at t0
    obtain ⟨rfl, twd⟩ := t0
    obtain ⟨z1, z2, z3, z4⟩ := tr.zip ps
    have sl := szs_len r
    have lr := tr.len
    have szx : Th.sz (.tup (.flat (.str wd) :: r)) = 2 + Th.szs r := by simp only [Th.sz, Th.szs]; omega
    rw [szx] at hm ⊢
    have eP : isP ps (.tup (.flat (.str wd) :: r)) = isL ps (.flat (.str wd) :: r) := by simp only [isP]
    by_cases hw : wd = wNot ∨ wd = wAnd ∨ wd = wOr
    · obtain ⟨n, hn, hb, eL⟩ : ∃ n : Nat, n ≤ 2 ∧ (∃ u, PySem.W.nsIn K dT wd = some (some u) ∧ RelV (.int (n : Int)) u) ∧ isL ps (.flat (.str wd) :: r) = (decide (r.length = n) && allP ps r) := by
        rcases hw with rfl | rfl | rfl
        · exact ⟨1, by decide, B.hN, isL_not ps r⟩
        · exact ⟨2, by decide, B.hA, isL_two ps (Or.inl rfl) r⟩
        · exact ⟨2, by decide, B.hO, isL_two ps (Or.inr rfl) r⟩
      obtain ⟨u0, b1, b2⟩ := id hb
      refine ⟨_, rfl, q, _, 0, .str wd, rfl, rfl, SqT.of hp, at0 _ _, wd, some u0, rfl, rfl, b1, _, rfl, iteT ?_⟩
      refine ⟨_, rfl, q, _, rfl, .inr (SqT.of hp), _, rfl, q, _, 0, .str wd, rfl, rfl, SqT.of hp, at0 _ _, dT, wd, .int (n : Int), rfl, rfl, B.dct hb, 1, (n : Int), rfl, rfl, rfl, _, rfl, ?_⟩
      rw [List.length_cons, lr]
      by_cases hl : r.length = n
      case neg =>
        rw [decide_eq_false (show ¬ V.int ((r.length + 1 : Nat) : Int) = V.int (1 + (n : Int)) from fun z => hl (by have := V.int.inj z; omega))]
        exact iteT (out (by rw [eP, eL, decide_eq_false hl, Bool.false_and]) _ kG2)
      rw [decide_eq_true (show V.int ((r.length + 1 : Nat) : Int) = V.int (1 + (n : Int)) by rw [hl]; congr 1; omega)]
      refine iteF ?_
      refine ⟨_, rfl, .inl ⟨rfl, _, SqL.of eW2⟩, _, rfl, _, rfl, ?_⟩
      dsimp only [tNoPart]
      refine slA_one hp fun c H3 k3 ec => ?_
      rw [cut_1] at ec
      have eW3 := k3.at eW2 nin0
      refine ⟨W, c, _, _, rfl, rfl, eW3, SqT.of ec, by rw [List.length_map]; omega, ?_⟩
      have kG4 : Keep [] H (upd H3 W (.lst (l0.map Prod.snd ++ ys))) := (kG2.trans k3).freshTo hW
      have eW4 : (upd H3 W (.lst (l0.map Prod.snd ++ ys))) W = some (.lst ((l0 ++ r.zip ys).map Prod.snd)) := by rw [upd_same, List.map_append, z2]
      have se : ((l0 ++ r.zip ys).map fun z => z.1.sz).sum = (l0.map fun z => z.1.sz).sum + Th.szs r := by rw [List.map_append, List.sum_append, z3]
      refine ⟨_, by rw [se]; omega, l0 ++ r.zip ys, _, rfl, kG4, eW4, fun z h => ?_, ?_, rfl, ?_⟩
      · rcases List.mem_append.mp h with h | h
        · exact ((hz2 z h).keep0 k3).up eW3
        · exact ((z1 z h).keep0 k3).up eW3
      · rw [List.all_append, z4, all2, eP, eL, decide_eq_true hl, Bool.true_and]
      · rw [se]; omega
    · have hn := not_or.mp hw
      have hn2 := not_or.mp hn.2
      have eL : isL ps (.flat (.str wd) :: r) = oneL ps wd r := isL_one ps hn.1 hn.2 r
      refine ⟨_, rfl, q, _, 0, .str wd, rfl, rfl, SqT.of hp, at0 _ _, wd, none, rfl, rfl, B.no wd hn.1 hn2.1 hn2.2, _, rfl, iteF ?_⟩
      refine ⟨_, rfl, _, rfl, [W], kd, q, ps, wd, r, ys, rfl, hK.keep0 kG2, hp, tr, fun H3 k3 => ⟨_, rfl, ?_⟩⟩
      cases ho : oneL ps wd r with
      | false => exact iteT (out (by rw [eP, eL, ho]) _ (kG2.trans k3))
      | true =>
        refine iteF ?_
        refine ⟨(l0.map fun z => z.1.sz).sum, by omega, l0, _, rfl, kG2.trans k3, k3.at eW2 nin0, fun z h => (hz2 z h).keep0 k3, ?_, rfl, by omega⟩
        rw [all2, eP, eL, ho, Bool.and_true]
end
end Fs
/-! The law: what is a test, of anything. -/
namespace Fs
open PySem L2 TL
def dF : V → PyData
  | .bl b => .bool b
  | .int i => .int i
  | .str z => .str z
  | _ => .none
mutual
def thD : Th → PyData
  | .flat v => dF v
  | .lis z => .list [.str z]
  | .box => .none
  | .tup l => .tuple (thDs l)
def thDs : List Th → List PyData
  | [] => []
  | x :: r => thD x :: thDs r
end
mutual
def pl : Th → Bool
  | .box => false
  | .tup l => pls l
  | _ => true
def pls : List Th → Bool
  | [] => true
  | x :: r => pl x && pls r
end
mutual
def gd : Th → Bool
  | .tup l => gdl l
  | _ => true
def gdl : List Th → Bool
  | [] => true
  | x :: r => pl x && gds r
def gds : List Th → Bool
  | [] => true
  | x :: r => gd x && gds r
end
theorem txOk {z : Str} (h : IsTx z) : PyData.strOk z = true := by
  unfold PyData.strOk
  rw [← Array.all_toList, List.all_eq_true]
  intro c hc
  have := h.2 c hc
  exact decide_eq_true (by omega)
mutual
theorem dp_th {K : PySem.W.Frag} {p : List Addr} {H : Hp} : ∀ {t : Th} {v : V}, pl t = true → ThAt p H t v → Dp K H v (thD t) ∧ (thD t).canLay0 = true ∧ (thD t).depth ≤ t.dp + 1
  | .flat u, v, h, ta => by
    simp only [ThAt] at ta
    obtain ⟨rfl, f⟩ := ta
    cases v with
    | non => exact ⟨.non, rfl, Nat.zero_le _⟩
    | bl b => exact ⟨.bl b, rfl, Nat.zero_le _⟩
    | int i => exact ⟨.int i, rfl, Nat.zero_le _⟩
    | str z => exact ⟨.str z, txOk f, Nat.zero_le _⟩
    | _ => exact f.elim
  | .lis z, v, h, ta => by
    simp only [ThAt] at ta
    obtain ⟨a, rfl, _, e, t⟩ := ta
    refine ⟨.lst (SqL.of e) (.cons (.str z) .nil), ?_, ?_⟩
    · show (PyData.strOk z && true) = true
      rw [txOk t]; rfl
    · show max 0 0 + 1 ≤ 0 + 1
      exact Nat.le_refl _
  | .box, v, h, ta => by simp [pl] at h
  | .tup l, v, h, ta => by
    simp only [ThAt] at ta
    obtain ⟨a, ys, rfl, e, t⟩ := ta
    simp only [pl] at h
    obtain ⟨x, y, z⟩ := dp_ths h t
    simp only [thD, Th.dp]
    exact ⟨.tup (SqT.of e) x, y, by show PyData.depthAll _ + 1 ≤ _; omega⟩
theorem dp_ths {K : PySem.W.Frag} {p : List Addr} {H : Hp} : ∀ {t : List Th} {v : List V}, pls t = true → ThsAt p H t v → DpAll K H v (thDs t) ∧ PyData.canLayAll0 (thDs t) = true ∧ PyData.depthAll (thDs t) ≤ Th.dps t + 1
  | [], [], _, _ => by simp only [thDs]; exact ⟨.nil, rfl, Nat.zero_le _⟩
  | x :: r, y :: ys, h, ta => by
    simp only [ThsAt] at ta
    simp only [pls, Bool.and_eq_true] at h
    obtain ⟨a, b, c⟩ := dp_th h.1 ta.1
    obtain ⟨a', b', c'⟩ := dp_ths h.2 ta.2
    simp only [thDs, Th.dps]
    refine ⟨.cons a a', ?_, ?_⟩
    · show (PyData.canLay0 _ && PyData.canLayAll0 _) = true
      rw [b, b']; rfl
    · show max (PyData.depth _) (PyData.depthAll _) ≤ _
      omega
  | [], _ :: _, _, h => by simp only [ThsAt] at h
  | _ :: _, [], _, h => by simp only [ThsAt] at h
end
/-- a head's data against a word -/
def hd (t : Th) (w : Str) : Bool := match t with
  | .flat (.str z) => decide (z = w)
  | _ => false
theorem eqS (a b : Str) : PyData.eqv (.str a) (.str b) = decide (a = b) := by
  show (a == b) = _
  rw [Bool.eq_iff_iff, beq_iff_eq, decide_eq_true_eq]
theorem hd_eqv {t : Th} {p : List Addr} {H : Hp} {v : V} (ta : ThAt p H t v) (w : Str) : PyData.eqv (thD t) (.str w) = hd t w := by
  cases t with
  | flat u =>
    simp only [ThAt] at ta
    obtain ⟨rfl, f⟩ := ta
    cases v with
    | str z => exact eqS z w
    | non => rfl
    | bl b => rfl
    | int i => rfl
    | _ => exact f.elim
  | lis z => rfl
  | box => rfl
  | tup l => rfl
theorem hd_veq {t : Th} {p : List Addr} {H : Hp} {v : V} (ta : ThAt p H t v) (w : Str) : PyData.eqv (.str w) (thD t) = hd t w := by
  cases t with
  | flat u =>
    simp only [ThAt] at ta
    obtain ⟨rfl, f⟩ := ta
    cases v with
    | str z =>
      refine (eqS w z).trans ?_
      show decide (w = z) = decide (z = w)
      exact decide_eq_decide.mpr ⟨Eq.symm, Eq.symm⟩
    | non => rfl
    | bl b => rfl
    | int i => rfl
    | _ => exact f.elim
  | lis z => rfl
  | box => rfl
  | tup l => rfl
theorem hd_no {t : Th} (h : isS t = false) (w : Str) : hd t w = false := by
  cases t with
  | flat v => cases v <;> first | rfl | (simp [isS] at h)
  | _ => rfl
theorem isL3 {ps : List (Str × Str)} (x a b : Th) : isL ps [x, a, b] = ((hd x wAnd || (hd x wOr || false)) && (isP ps a && isP ps b)) := by
  cases h : isS x with
  | false => rw [isL_no h, hd_no h, hd_no h]; rfl
  | true =>
    obtain ⟨wd, rfl⟩ : ∃ wd, x = .flat (.str wd) := by
      cases x with
      | flat v => cases v <;> first | exact ⟨_, rfl⟩ | (simp [isS] at h)
      | _ => simp [isS] at h
    show _ = ((decide (wd = wAnd) || (decide (wd = wOr) || false)) && _)
    by_cases h1 : wd = wNot
    · rw [h1, isL_not]
      rw [decide_eq_false (show ¬ wNot = wAnd by decide +kernel), decide_eq_false (show ¬ wNot = wOr by decide +kernel)]
      rfl
    by_cases h2 : wd = wAnd ∨ wd = wOr
    · rw [isL_two ps h2]
      have e : (decide (wd = wAnd) || (decide (wd = wOr) || false)) = true := by
        rcases h2 with h | h
        · rw [decide_eq_true h]; rfl
        · rw [decide_eq_true h, Bool.true_or, Bool.or_true]
      rw [e]
      simp [allP]
    · rw [isL_one ps h1 h2, decide_eq_false (fun z => h2 (.inl z)), decide_eq_false (fun z => h2 (.inr z))]
      rfl
theorem isL2 {ps : List (Str × Str)} (x a : Th) : isL ps [x, a] = (if hd x wKind = true then isK ps a else if hd x wNot = true then isP ps a else ((hd x wSays || (hd x wNoted || false)) && isS a)) := by
  cases h : isS x with
  | false => rw [isL_no h, hd_no h, hd_no h, hd_no h, hd_no h]; rfl
  | true =>
    obtain ⟨wd, rfl⟩ : ∃ wd, x = .flat (.str wd) := by
      cases x with
      | flat v => cases v <;> first | exact ⟨_, rfl⟩ | (simp [isS] at h)
      | _ => simp [isS] at h
    show _ = (if decide (wd = wKind) = true then _ else if decide (wd = wNot) = true then _ else ((decide (wd = wSays) || (decide (wd = wNoted) || false)) && _))
    by_cases h0 : wd = wKind
    · rw [h0, isL_one ps (by decide +kernel) (by decide +kernel), if_pos (by decide +kernel)]
      exact oneT_kind rfl a
    rw [if_neg (by rw [decide_eq_false h0]; exact Bool.false_ne_true)]
    by_cases h1 : wd = wNot
    · rw [h1, isL_not, if_pos (by decide +kernel)]
      simp [allP]
    rw [if_neg (by rw [decide_eq_false h1]; exact Bool.false_ne_true), Bool.or_false]
    by_cases h2 : wd = wAnd ∨ wd = wOr
    · rw [isL_two ps h2]
      obtain ⟨_, n1, n2, _⟩ := two_ne h2
      rw [decide_eq_false n1, decide_eq_false n2]
      rfl
    · rw [isL_one ps h1 h2]
      exact oneT_not h0 a
abbrev sLt : Stmt := top 21 --def _law_is_test
abbrev nLt : List Str := ["_law_sorts", "_law_thing"]
theorem scLt : FnScope nLt ["_law_sorts", "_law_thing"] (defScope sLt) := ⟨rfl, rfl, rfl, by decide +kernel, rfl, by decide +kernel, by decide +kernel⟩
def spLt (d : Nat) : Sp := fun vs H Q _ => ∃ (p : List Addr) (l : Addr) (t : Th) (v : V) (ps : List (Str × Str)) (ss : List Str), vs = [.ref l, v] ∧ t.dp < d ∧ H l = some (.lst (ss.map V.str)) ∧ ThAt p H t v ∧ gd t = true ∧ (∀ z, z ∈ ss ↔ z ∈ allK ps) ∧ ∀ H', Keep [] H H' → Q (.bl (isP ps t)) H'
section
variable {P : Program} {w : World} {K : PySem.W.Frag} {mg : Str → Option Value} {base : Heap}
theorem lt0 {f : Addr} {fd : FuncData} {k : Nat} : FnOk P w K mg base CX0 k f fd ["_law_sorts", "_law_thing"] (spLt 0) :=
  ⟨fun vs H Q E h => by obtain ⟨_, _, _, _, _, _, _, h, _⟩ := h; omega, fun A outer s H args us vs Q E _ _ _ _ h => by obtain ⟨_, _, _, _, _, _, _, h, _⟩ := h; omega⟩
theorem th_tail {p : List Addr} {H : Hp} {r : List Th} {ys : List V} (h : ThsAt p H r ys) {n : Nat} (hl : r.length = n) : ys.length = n := h.len.trans hl
theorem ltS {f : Addr} {fd : FuncData} (F : Fun K "_law_is_test" "_law_is_test" sLt f fd) (gR : mg "_law_is_test" = some (.ref f)) (kR : PySem.W.keepIn K (.ref f) = true) (bR : Binds K fd ["_law_sorts", "_law_thing"] [])
    (mL : mg "len" = none) (mI : mg "isinstance" = none) (mT : mg "tuple" = none) (mS : mg "str" = none)
    {d : Nat} (hd40 : d ≤ 40) (FR : FnOk P w K mg base CX0 (1 + d) f fd ["_law_sorts", "_law_thing"] (spLt d)) : FnOk P w K mg base CX0 (1 + d + 1) f fd ["_law_sorts", "_law_thing"] (spLt (d + 1)) := by
  refine F.ok scLt (fun vs H Q E h => ?_) (fun cdv A outer s H vs Q E hr h => ?_)
  · obtain ⟨p, l, t, v, ps, ss, rfl, _⟩ := h
    rfl
  · obtain ⟨p, l, t, v, ps, ss, rfl, hdp, hl, ta, hg, hss, kk⟩ := h
    have hu := hr.units
    have hu65 : (A.deeper (PyProof.Rows.envOfC "_law_is_test" (defScope sLt) s.heap.objs.size f cdv)).units + 65 < cLine := by have := hr.un; omega
    refine ⟨_, pss_cons (ps_if (PW.pt (pw_or (pt_not (pt_val (pe_callB call_isi (by rfl) mI (by decide +kernel) (pa_cons (pv 1) (pa_cons (pe_bltn (v := .ty "tuple") (u := .type "tuple") (by rfl) mT (by decide +kernel) rfl) pa_nil)))))
        (pw_or (pt_cmpR op_lt (pe_callB call_len_seq (by rfl) mL PySem.boot_len (pa_cons (pv 1) pa_nil)) pe_int (nomark _)) (pw_or1 (pt_cmpR op_gt (pe_callB call_len_seq (by rfl) mL PySem.boot_len (pa_cons (pv 1) pa_nil)) pe_int (nomark _))))))
        (pss_one (ps_ret pe_bl)) pss_nil)
      (pss_cons (ps_if (pt_cmpR op_eq (pe_callB call_len_seq (by rfl) mL PySem.boot_len (pa_cons (pv 1) pa_nil)) pe_int (nomark _))
        (pss_one (ps_ret (pe_and (pe_cmpR (op_inD hu65) (pe_ix ix_tup (pv 1) pe_int (fun _ _ => rfl)) (pe_lst (pa_cons pe_str (pa_cons pe_str pa_nil))) (by rfl))
          (pe_and (pe_call FR hr rfl gR kR bR .nil pass0 (pa_cons (pv 0) (pa_cons (pe_ix ix_tup (pv 1) pe_int (fun _ _ => rfl)) pa_nil))) (pe_one (pe_call FR hr rfl gR kR bR .nil pass0 (pa_cons (pv 0) (pa_cons (pe_ix ix_tup (pv 1) pe_int (fun _ _ => rfl)) pa_nil)))))))) pss_nil)
      (pss_cons (ps_if (pt_cmpR (op_eqD hu) (pe_ix ix_tup (pv 1) pe_int (fun _ _ => rfl)) pe_str (nomark _))
        (pss_one (ps_ret (pe_and (pe_callB call_isi (by rfl) mI (by decide +kernel) (pa_cons (pe_ix ix_tup (pv 1) pe_int (fun _ _ => rfl)) (pa_cons (pe_bltn (v := .ty "str") (u := .type "str") (by rfl) mS (by decide +kernel) rfl) pa_nil)))
          (pe_one (pe_cmpR op_in_seq (pe_ix ix_tup (pv 1) pe_int (fun _ _ => rfl)) (pv 0) (by rfl)))))) pss_nil)
      (pss_cons (ps_if (pt_cmpR (op_eqD hu) (pe_ix ix_tup (pv 1) pe_int (fun _ _ => rfl)) pe_str (nomark _))
        (pss_one (ps_ret (pe_call FR hr rfl gR kR bR .nil pass0 (pa_cons (pv 0) (pa_cons (pe_ix ix_tup (pv 1) pe_int (fun _ _ => rfl)) pa_nil))))) pss_nil)
      (pss_one (ps_ret (pe_and (pe_cmpR (op_inD hu65) (pe_ix ix_tup (pv 1) pe_int (fun _ _ => rfl)) (pe_lst (pa_cons pe_str (pa_cons pe_str pa_nil))) (by rfl))
          (pe_one (pe_callB call_isi (by rfl) mI (by decide +kernel) (pa_cons (pe_ix ix_tup (pv 1) pe_int (fun _ _ => rfl)) (pa_cons (pe_bltn (v := .ty "str") (u := .type "str") (by rfl) mS (by decide +kernel) rfl) pa_nil)))))))))), ?_⟩
    obtain ⟨ty, h1, h2, _⟩ := isi_th (K := K) ta
    refine ⟨_, rfl, _, _, _, _, _, rfl, .ty "tuple", h1, kit_ty h2, isTu t, rfl, ?_⟩
    cases hx : isTu t with
    | false =>
      have := kk H (Keep.refl _ _)
      rw [isP_no hx] at this
      exact iteT this
    | true =>
    refine iteF ?_
    obtain ⟨lt, rfl⟩ : ∃ l, t = .tup l := by
      cases t with
      | tup l => exact ⟨l, rfl⟩
      | _ => simp [isTu] at hx
    simp only [ThAt] at ta
    obtain ⟨q, us, rfl, hp, tl⟩ := ta
    have ln := tl.len
    have out : ∀ G, Keep [] H G → isL ps lt = false → Q (.bl false) G := fun G k e => by
      have := kk G k
      simp only [isP] at this
      rw [e] at this
      exact this
    refine ⟨_, rfl, q, _, rfl, .inr (SqT.of hp), _, _, rfl, rfl, _, rfl, ?_⟩
    rw [ln]
    by_cases c1 : lt.length < 2
    · rw [decide_eq_true (show ((lt.length : Nat) : Int) < 2 by omega)]
      refine iteT (out H (Keep.refl _ _) ?_)
      match lt, c1 with
      | [], _ => simp [isL]
      | [x], _ =>
        cases hs : isS x with
        | false => exact isL_no hs
        | true =>
          obtain ⟨wd, rfl⟩ : ∃ wd, x = .flat (.str wd) := by
            cases x with
            | flat v => cases v <;> first | exact ⟨_, rfl⟩ | (simp [isS] at hs)
            | _ => simp [isS] at hs
          rw [isL_w]
          split
          · rfl
          · split <;> rfl
    rw [decide_eq_false (show ¬ ((lt.length : Nat) : Int) < 2 by omega)]
    refine iteF ?_
    refine ⟨_, rfl, q, _, rfl, .inr (SqT.of hp), _, _, rfl, rfl, _, rfl, ?_⟩
    rw [ln]
    by_cases c2 : 3 < lt.length
    · rw [decide_eq_true (show (3 : Int) < ((lt.length : Nat) : Int) by omega)]
      refine iteT (out H (Keep.refl _ _) ?_)
      match lt, c2 with
      | x :: a :: b :: c :: r, _ =>
        cases hs : isS x with
        | false => exact isL_no hs
        | true =>
          obtain ⟨wd, rfl⟩ : ∃ wd, x = .flat (.str wd) := by
            cases x with
            | flat v => cases v <;> first | exact ⟨_, rfl⟩ | (simp [isS] at hs)
            | _ => simp [isS] at hs
          rw [isL_w]
          split
          · rfl
          · split
            · rw [decide_eq_false (by simp)]; rfl
            · rfl
    rw [decide_eq_false (show ¬ (3 : Int) < ((lt.length : Nat) : Int) by omega)]
    refine iteF ?_
    refine ⟨_, rfl, q, _, rfl, .inr (SqT.of hp), rfl, _, rfl, ?_⟩
    rw [ln]
    have hg2 : gdl lt = true := by simp only [gd] at hg; exact hg
    have hdd : Th.dps lt < d := by simp only [Th.dp] at hdp; omega
    have two : ∀ {x : Th} {v : V} {r : List Th} {G : Hp} {w1 w2 : Str}, pl x = true → x.dp < d → ThAt p H x v → Keep [] H G → PyData.strOk w1 = true → PyData.strOk w2 = true → G q = some (.tup us) → ∀ (R : VK), (∀ G', Keep [] G G' → R (.bl (hd x w1 || (hd x w2 || false))) G') → ∀ a, G a = some (.lst [.str w1, .str w2]) → rInD K v (.ref a) G R := fun {x v r G w1 w2} hpl hxd hx kG o1 o2 hq R h a ha => by
      obtain ⟨D1, D2, D3⟩ := dp_th (K := K) hpl (hx.keep0 kG)
      refine ⟨thD x, [.str w1, .str w2], D1, .lst (SqL.of ha) (.cons (.str _) (.cons (.str _) .nil)), ?_, ?_, ?_⟩
      · unfold SeqAt.shaped; rw [D2, decide_eq_true (show (thD x).depth ≤ 64 by omega)]; rfl
      · show ((PyData.strOk w1 && (PyData.strOk w2 && true)) && decide _) = true
        rw [o1, o2]; rfl
      · have := h G (Keep.refl _ _)
        have e : ([PyData.str w1, PyData.str w2].any fun z => PyData.eqv z (thD x)) = (hd x w1 || (hd x w2 || false)) := by
          show (PyData.eqv (.str w1) (thD x) || (PyData.eqv (.str w2) (thD x) || false)) = _
          rw [hd_veq hx, hd_veq hx]
        rw [e]; exact this
    by_cases c3 : lt.length = 3
    · rw [decide_eq_true (show V.int ((lt.length : Nat) : Int) = V.int 3 by rw [c3]; rfl)]
      refine iteT ?_
      obtain ⟨x, a, b, rfl⟩ : ∃ x a b, lt = [x, a, b] := by
        match lt, c3 with
        | [x, a, b], _ => exact ⟨x, a, b, rfl⟩
      obtain ⟨y0, y1, y2, rfl⟩ : ∃ x a b, us = [x, a, b] := by
        match us, ln with
        | [x, a, b], _ => exact ⟨x, a, b, rfl⟩
      simp only [ThsAt] at tl
      obtain ⟨tx, tA, tB, _⟩ := tl
      simp only [gdl, gds, Bool.and_eq_true] at hg2
      simp only [Th.dps] at hdd
      have hv : isP ps (.tup [x, a, b]) = ((hd x wAnd || (hd x wOr || false)) && (isP ps a && isP ps b)) := by simp only [isP]; exact isL3 x a b
      refine ⟨_, rfl, q, _, 0, y0, rfl, rfl, SqT.of hp, rfl, (by show 2 ≤ sizeLine; decide), fun S hS => ?_⟩
      have kS : Keep [] H (upd H S (.lst [.str wAnd, .str wOr])) := Keep.new hS
      refine two (r := []) hg2.1 (by omega) tx kS (by decide +kernel) (by decide +kernel) (kS.at hp nin0) _ (fun G kG => ?_) S upd_same
      have kHG := kS.trans kG
      cases c : (hd x wAnd || (hd x wOr || false)) with
      | false =>
        refine ⟨_, rfl, iteF ?_⟩
        have := kk G kHG
        rw [hv, c] at this
        exact this
      | true =>
      refine ⟨_, rfl, iteT ?_⟩
      refine ⟨_, rfl, _, rfl, q, _, 1, y1, rfl, rfl, SqT.of (kHG.at hp nin0), rfl, p, l, a, y1, ps, ss, rfl, by omega, kHG.at hl nin0, tA.keep0 kHG, hg2.2.1, hss, fun G2 k2 => ?_⟩
      cases ca : isP ps a with
      | false =>
        refine ⟨_, rfl, iteF ?_⟩
        have := kk G2 (kHG.trans k2)
        rw [hv, ca, Bool.false_and, Bool.and_false] at this
        exact this
      | true =>
      refine ⟨_, rfl, iteT ?_⟩
      refine ⟨_, rfl, _, rfl, q, _, 2, y2, rfl, rfl, SqT.of ((kHG.trans k2).at hp nin0), rfl, p, l, b, y2, ps, ss, rfl, by omega, (kHG.trans k2).at hl nin0, tB.keep0 (kHG.trans k2), hg2.2.2.1, hss, fun G3 k3 => ?_⟩
      have := kk G3 ((kHG.trans k2).trans k3)
      rw [hv, c, ca, Bool.true_and, Bool.true_and] at this
      exact this
    rw [decide_eq_false (show ¬ V.int ((lt.length : Nat) : Int) = V.int 3 from fun z => c3 (by have := V.int.inj z; omega))]
    refine iteF ?_
    have c4 : lt.length = 2 := by omega
    obtain ⟨x, a, rfl⟩ : ∃ x a, lt = [x, a] := by
      match lt, c4 with
      | [x, a], _ => exact ⟨x, a, rfl⟩
    obtain ⟨y0, y1, rfl⟩ : ∃ x a, us = [x, a] := by
      match us, ln with
      | [x, a], _ => exact ⟨x, a, rfl⟩
    simp only [ThsAt] at tl
    obtain ⟨tx, tA, _⟩ := tl
    simp only [gdl, gds, Bool.and_eq_true] at hg2
    simp only [Th.dps] at hdd
    have hv : isP ps (.tup [x, a]) = (if hd x wKind = true then isK ps a else if hd x wNot = true then isP ps a else ((hd x wSays || (hd x wNoted || false)) && isS a)) := by simp only [isP]; exact isL2 x a
    obtain ⟨D1, D2, D3⟩ := dp_th (K := K) hg2.1 tx
    have sx : SeqAt.shaped (thD x) = true := by unfold SeqAt.shaped; rw [D2, decide_eq_true (show (thD x).depth ≤ 64 by omega)]; rfl
    have sw : ∀ {z : Str}, PyData.strOk z = true → SeqAt.shaped (.str z) = true := fun {z} h => by
      show (PyData.strOk z && decide _) = true
      rw [h]; rfl
    obtain ⟨ty, a1, _, a3⟩ := isi_th (K := K) tA
    refine ⟨_, rfl, q, _, 0, y0, rfl, rfl, SqT.of hp, rfl, thD x, .str wKind, D1, .str _, sx, sw (by decide +kernel), _, rfl, ?_⟩
    rw [hd_eqv tx]
    cases e0 : hd x wKind with
    | true =>
      refine iteT ?_
      refine ⟨_, rfl, q, _, 1, y1, rfl, rfl, SqT.of hp, rfl, _, _, _, _, _, rfl, .ty "str", a1, kit_ty a3, _, rfl, ?_⟩
      have last := kk H (Keep.refl _ _)
      rw [hv, if_pos e0] at last
      cases hs : isS a with
      | false =>
        rw [isK_no hs] at last
        exact iteF last
      | true =>
      refine iteT ?_
      obtain ⟨z, rfl⟩ := (isS_of tA).mp hs
      have et : a = .flat (.str z) := by
        cases a with
        | flat u => simp only [ThAt] at tA; rw [tA.1]
        | lis y => simp only [ThAt] at tA; obtain ⟨a, e, _⟩ := tA; cases e
        | box => simp only [ThAt] at tA; obtain ⟨a, e, _⟩ := tA; cases e
        | tup l => simp only [ThAt] at tA; obtain ⟨a, ys, e, _⟩ := tA; cases e
      subst et
      refine ⟨_, rfl, q, _, 1, .str z, rfl, rfl, SqT.of hp, rfl, _, rfl, l, _, rfl, .inl (SqL.of hl), rfl, ?_, ?_⟩
      · rw [List.all_eq_true]
        intro y hy
        obtain ⟨z, _, rfl⟩ := List.mem_map.mp hy
        rfl
      rw [inV_strs]
      have e : isK ps (.flat (.str z)) = decide (z ∈ ss) := decide_eq_decide.mpr (hss z).symm
      rw [e] at last
      exact last
    | false =>
    refine iteF ?_
    refine ⟨_, rfl, q, _, 0, y0, rfl, rfl, SqT.of hp, rfl, thD x, .str wNot, D1, .str _, sx, sw (by decide +kernel), _, rfl, ?_⟩
    rw [hd_eqv tx]
    cases e1 : hd x wNot with
    | true =>
      refine iteT ?_
      refine ⟨_, rfl, _, rfl, q, _, 1, y1, rfl, rfl, SqT.of hp, rfl, p, l, a, y1, ps, ss, rfl, by omega, hl, tA, hg2.2.1, hss, fun G kG => ?_⟩
      have last := kk G kG
      rw [hv, if_neg (by rw [e0]; exact Bool.false_ne_true), if_pos e1] at last
      exact last
    | false =>
    refine iteF ?_
    have hv2 : isP ps (.tup [x, a]) = ((hd x wSays || (hd x wNoted || false)) && isS a) := by
      rw [hv, if_neg (by rw [e0]; exact Bool.false_ne_true), if_neg (by rw [e1]; exact Bool.false_ne_true)]
    refine ⟨_, rfl, q, _, 0, y0, rfl, rfl, SqT.of hp, rfl, (by show 2 ≤ sizeLine; decide), fun S hS => ?_⟩
    have kS : Keep [] H (upd H S (.lst [.str wSays, .str wNoted])) := Keep.new hS
    refine two (r := []) hg2.1 (by omega) tx kS (by decide +kernel) (by decide +kernel) (kS.at hp nin0) _ (fun G kG => ?_) S upd_same
    have kHG := kS.trans kG
    have last := kk G kHG
    rw [hv2] at last
    cases c : (hd x wSays || (hd x wNoted || false)) with
    | false =>
      rw [c] at last
      exact ⟨_, rfl, iteF last⟩
    | true =>
    rw [c, Bool.true_and] at last
    obtain ⟨ty', a1', _, a3'⟩ := isi_th (K := K) (tA.keep0 kHG)
    exact ⟨_, rfl, iteT ⟨_, rfl, q, _, 1, y1, rfl, rfl, SqT.of (kHG.at hp nin0), rfl, _, _, _, _, _, rfl, .ty "str", a1', kit_ty a3', last⟩⟩
end
end Fs
/-! A tuple turned round: t[::-1]. -/
namespace Fs
open PySem L2 TL PySem.Spec PyProof.Rows
theorem rev_adjust (n : Nat) : Builtin.Slice.sliceAdjust none none (-1) (n : Int) = ((n : Int) - 1, -1) := rfl
theorem rev_places (n : Nat) : Builtin.Slice.slicePlaces ((n : Int) - 1) (-1) (-1) = n := by
  unfold Builtin.Slice.slicePlaces
  have h1 : ¬ ((-1 : Int) > 0) := by omega
  simp only [h1, if_false]
  split
  · have : ((n : Int) - 1 - (-1) - 1) / (-(-1)) = (n : Int) - 1 := by
      rw [show (-(-1) : Int) = 1 from rfl, Int.ediv_one]; omega
    omega
  · omega
theorem rev_pick (xs : Array Value) : ((List.range xs.size).filterMap fun (m : Nat) => xs[(((xs.size : Nat) : Int) - 1 + (m : Int) * (-1)).toNat]?).toArray = xs.toList.reverse.toArray := by
  congr 1
  refine List.ext_getElem? fun i => ?_
  have key : ∀ (f : Nat → Option Value) (g : Nat → Value) (n : Nat), (∀ m, m < n → f m = some (g m)) → (List.range n).filterMap f = (List.range n).map g := fun f g n h => by
    have go : ∀ l : List Nat, (∀ m ∈ l, f m = some (g m)) → l.filterMap f = l.map g := fun l => by
      induction l with
      | nil => exact fun _ => rfl
      | cons a l ih => exact fun h => by rw [List.filterMap_cons, h a List.mem_cons_self, List.map_cons, ih fun m hm => h m (List.mem_cons_of_mem _ hm)]
    exact go _ fun m hm => h m (List.mem_range.mp hm)
  rw [key _ (fun m => xs.toList.getD (xs.size - 1 - m) .none) xs.size fun m hm => ?_]
  · rw [List.getElem?_map]
    by_cases hi : i < xs.size
    · rw [List.getElem?_range hi, List.getElem?_reverse (by simpa using hi), Array.length_toList]
      show some (xs.toList.getD (xs.size - 1 - i) .none) = _
      rw [List.getD_eq_getElem?_getD, List.getElem?_eq_getElem (by rw [Array.length_toList]; omega)]
      rfl
    · rw [List.getElem?_eq_none (by rw [List.length_range]; omega), List.getElem?_eq_none (by rw [List.length_reverse, Array.length_toList]; omega)]
      rfl
  · have e : (((xs.size : Nat) : Int) - 1 + (m : Int) * (-1)).toNat = xs.size - 1 - m := by omega
    rw [e, List.getD_eq_getElem?_getD, Array.getElem?_toList, Array.getElem?_eq_getElem (by omega)]
    rfl
section
variable {P : Program} {w : World} {A : Around} {s : Shared} {E : Value → Shared → Prop}
theorem rev_part {v : Value} {o : Option Int} {Q : Option Int → Shared → Prop} (p : IsPart v o) (h : Q o s) : wpAny (model P w) A (Builtin.Slice.slicePartIndex v) Q E s := by
  cases p with
  | none => exact slicePart_none h
  | int i t => exact slicePart_int h
theorem rev_applied {sl : Addr} {vs : Value} {n : Nat} {Q : Int × Int × Nat → Shared → Prop} (hs : s.heap.IsSliceOf sl .none .none vs) (p : IsPart vs (some (-1)))
    (h : Q ((n : Int) - 1, -1, n) s) : wpAny (model P w) A (Builtin.Slice.sliceApplied (.ref sl) (pure (n : Int))) Q E s := by
  obtain ⟨os, hos, hcs, hds⟩ := id hs
  unfold Builtin.Slice.sliceApplied Builtin.Slice.sliceFields
  refine wpAny_bind (wpAny_bind (wpAny_field hos hds (x := .none) rfl (wpAny_bind (wpAny_field hos hds (x := .none) rfl (wpAny_bind (wpAny_field hos hds (x := vs) rfl (wpAny_pure ?_)))))))
  refine wpAny_bind (rev_part p ?_)
  show wpAny _ _ (if ((-1 : Int) == 0) = true then _ else _) _ _ s
  rw [if_neg (by decide)]
  refine wpAny_bind (slicePart_none (wpAny_bind (slicePart_none (wpAny_bind (wpAny_pure ?_)))))
  show wpAny _ _ (match Builtin.Slice.sliceAdjust none none (-1) (n : Int) with | (lo, hi) => pure (lo, (-1 : Int), Builtin.Slice.slicePlaces lo hi (-1))) _ _ s
  rw [rev_adjust n]
  show wpAny _ _ (pure ((n : Int) - 1, (-1 : Int), Builtin.Slice.slicePlaces ((n : Int) - 1) (-1) (-1))) _ _ s
  rw [rev_places]
  exact wpAny_pure h
theorem rev_get {t sl : Addr} {items : Array Value} {vs : Value} {Q : Value → Shared → Prop} (ht : IsTup s.heap t items) (hs : s.heap.IsSliceOf sl .none .none vs) (p : IsPart vs (some (-1)))
    (h : Q (.ref s.heap.objs.size) { s with heap := s.heap.push { cls := .type "tuple", data := .seq items.toList.reverse.toArray } })
    (hsz : items.size ≤ sizeLine) : wpAny (model P w) A (getItem (.ref t) (.ref sl)) Q E s := by
  have htake : sizeOk (.seq items.toList.reverse.toArray) := by
    show items.toList.reverse.toArray.size ≤ sizeLine
    rw [List.size_toArray, List.length_reverse, Array.length_toList]
    exact hsz
  obtain ⟨os, hos, hcs, hds⟩ := id hs
  have hTs : s.TypeIs (.ref sl) "slice" := ⟨os, hos, hcs⟩
  unfold getItem
  try with_reducible refine wpAny_holding ?_
  first | refine wpAny_bind (wpAny_pure ?_) | skip
  refine wpAny_bind (wpAny_sequenceKey ht.typeIs (by decide) ?_)
  refine wpAny_bind (wpAny_callSpecial?_slot (name := Str.ofString "__getitem__") ht.typeIs slot_tuple_getitem
    (wpAny_call_entry slot_tuple_getitem ht.typeIs entry_tuple_getitem ?_ (args_tuple_getitem _ _)))
  show wpAny _ _ (Builtin.Tuple.tupleItemsOf (.ref t) >>= _) _ _ s
  refine wpAny_bind (tupleItemsOf_ ht ?_)
  refine wpAny_bind (wpAny_typeOf hTs ?_)
  rw [if_pos (by decide)]
  refine wpAny_bind (rev_applied hs p ?_)
  have hno : ¬ ((((items.size : Int) - 1) == 0 && (-1 : Int) == 1 && items.size == items.size) = true) := by
    rw [show ((-1 : Int) == 1) = false from rfl, Bool.and_false, Bool.false_and]
    exact Bool.false_ne_true
  show wpAny _ _ (if (((items.size : Int) - 1) == 0 && (-1 : Int) == 1 && items.size == items.size) = true then _ else _) _ _ s
  rw [if_neg hno, rev_pick]
  first
    | exact wpAny_bind (m := Builtin.Tuple.tupleExact _) (wpAny_newObj_type (wpAny_pure ⟨_, rfl, wpAny_pure h⟩) htake)
    | exact wpAny_bind (m := Builtin.Tuple.tupleExact _) (wpAny_newObj_type (wpAny_bind (wpAny_pure (wpAny_pure ⟨_, rfl, wpAny_pure h⟩))) htake)
    | exact wpAny_bind (wpAny_bind (m := Builtin.Tuple.tupleExact _) (wpAny_newObj_type (wpAny_pure (wpAny_pure ⟨_, rfl, wpAny_pure h⟩)) htake))
    | exact wpAny_bind (wpAny_bind (m := Builtin.Tuple.tupleExact _) (wpAny_newObj_type (wpAny_pure ⟨_, rfl, wpAny_pure h⟩) htake))
end
def tRev (K : PySem.W.Frag) (te ts : TE) : TE := fun σ H Q => te σ H fun x H1 => ts σ H1 fun y H2 => y = .int (-1) ∧ ∃ a xs, x = .ref a ∧ SqT K H2 a xs ∧ ∀ p, H2 p = none → Q (.ref p) (upd H2 p (.tup xs.reverse))
theorem pe_rev {X : Cx} {e st : Expr} {te ts : TE} {pos p2 : Pos} (he : PE X e te) (hst : PE X st ts) : PE X (.Subscript e (.Slice none none (some st) p2) pos) (tRev X.K te ts) := by
  refine ⟨fun pins s σ H Q I h => ?_⟩
  refine Subscript_ (thn (he.run pins s σ H _ I h) fun v s1 ⟨x, H1, I1, r1, q1⟩ => ?_)
  refine wpAny_Slice ?_
  rw [evalPart_none]
  refine wpAny_pure ?_
  refine wpAny_pure ?_
  rw [evalPart_some]
  refine thn (hst.run pins s1 σ H1 _ I1 q1) fun vu s3 ⟨y, H3, I3, r3, ey, a, xs, ex, hx, q⟩ => ?_
  subst ey ex
  obtain ⟨tk, rfl⟩ := r3
  cases r1
  have I4 : Inv X pins σ H3 { s3 with heap := s3.heap.push { cls := .type "slice", data := .fields #[.none, .none, .int (-1) tk] } } := I3.kept (t' := s3.toks) fun b ob q => Heap.get?_push_of_some _ q
  obtain ⟨its, r, ht, hz⟩ := I4.tuple hx
  have hlen : its.toArray.size = xs.length := by rw [List.size_toArray]; exact r.length.symm
  refine tail_any (ops := [.ref a, .ref s3.heap.objs.size]) ht.typeIs PyProof.Rows.slot_tuple_getitem.lookup ?_ (by with_unfolding_all rfl)
  refine rev_get ht (Heap.IsSliceOf.new ..) (.int _ tk) ?_ (by rw [hlen]; exact hz)
  refine ⟨.ref _, _, I4.laid (t' := s3.toks) (o := .tup xs.reverse) (fun b ob q => Heap.get?_push_of_some _ q) (Nat.le_refl _) ?_, rfl, q _ (I4.hok.fresh (Nat.le_refl _))⟩
  refine ⟨by rw [List.length_reverse]; exact hz, _, r.reverse, IsTup.new _ _⟩
end Fs
/-! Odd things that the law makes: what is good of them. -/
namespace Fs
open PySem L2 TL
theorem gds_app (a b : List Th) : gds (a ++ b) = (gds a && gds b) := by
  induction a with
  | nil => simp [gds]
  | cons x r ih => rw [List.cons_append]; simp only [gds]; rw [ih, Bool.and_assoc]
theorem dps_app (a b : List Th) : Th.dps (a ++ b) = max (Th.dps a) (Th.dps b) := by
  induction a with
  | nil => simp [Th.dps]
  | cons x r ih => rw [List.cons_append]; simp only [Th.dps]; rw [ih]; omega
theorem szs_app (a b : List Th) : Th.szs (a ++ b) = Th.szs a + Th.szs b := by
  induction a with
  | nil => simp [Th.szs]
  | cons x r ih => rw [List.cons_append]; simp only [Th.szs]; rw [ih]; omega
theorem ths_app {p : List Addr} {H : Hp} : ∀ {a b : List Th} {xs ys : List V}, ThsAt p H a xs → ThsAt p H b ys → ThsAt p H (a ++ b) (xs ++ ys)
  | [], b, [], ys, _, h => h
  | x :: a, b, y :: xs, ys, h, h' => by
    simp only [ThsAt] at h
    rw [List.cons_append, List.cons_append]
    simp only [ThsAt]
    exact ⟨h.1, ths_app h.2 h'⟩
  | [], _, _ :: _, _, h, _ => by simp only [ThsAt] at h
  | _ :: _, _, [], _, h, _ => by simp only [ThsAt] at h
theorem ths_rev {p : List Addr} {H : Hp} : ∀ {a : List Th} {xs : List V}, ThsAt p H a xs → ThsAt p H a.reverse xs.reverse
  | [], [], _ => by simp only [List.reverse_nil, ThsAt]
  | x :: a, y :: xs, h => by
    simp only [ThsAt] at h
    rw [List.reverse_cons, List.reverse_cons]
    exact ths_app (ths_rev h.2) (by simp only [ThsAt]; exact ⟨h.1, True.intro⟩)
  | [], _ :: _, h => by simp only [ThsAt] at h
  | _ :: _, [], h => by simp only [ThsAt] at h
def wordT : Ts → Str
  | .one w _ => w
  | .not _ => wNot
  | .two w _ _ => w
def restT : Ts → List Th
  | .one _ x => [.flat (.str x)]
  | .not a => [thOf a]
  | .two _ a b => [thOf a, thOf b]
theorem thOf_eq (t : Ts) : thOf t = .tup (.flat (.str (wordT t)) :: restT t) := by cases t <;> simp [thOf, wordT, restT]
theorem good_th (t : Ts) : gd (thOf t) = true ∧ pl (thOf t) = true ∧ (thOf t).dp = t.dp + 1 ∧ (thOf t).sz ≤ 3 * t.sz := by
  induction t with
  | one w x => simp [thOf, gd, gdl, gds, pl, pls, Th.dp, Th.dps, Th.sz, Th.szs, Ts.dp, Ts.sz]
  | not a ih =>
    obtain ⟨a1, a2, a3, a4⟩ := ih
    refine ⟨?_, ?_, ?_, ?_⟩
    · simp [thOf, gd, gdl, gds, pl, a1]
    · simp [thOf, pl, pls, a2]
    · simp [thOf, Th.dp, Th.dps, Ts.dp, a3]
    · simp only [thOf, Th.sz, Th.szs, Ts.sz]; omega
  | two w a b iha ihb =>
    obtain ⟨a1, a2, a3, a4⟩ := iha
    obtain ⟨b1, b2, b3, b4⟩ := ihb
    refine ⟨?_, ?_, ?_, ?_⟩
    · simp [thOf, gd, gdl, gds, pl, a1, b1]
    · simp [thOf, pl, pls, a2, b2]
    · simp only [thOf, Th.dp, Th.dps, Ts.dp, a3, b3]
      have : Nat.max a.dp b.dp = max a.dp b.dp := rfl
      omega
    · simp only [thOf, Th.sz, Th.szs, Ts.sz]; omega
theorem rest_good (t : Ts) : ∃ r0 r', restT t = r0 :: r' ∧ gd r0 = true ∧ pl r0 = true ∧ gds r' = true ∧ r'.length ≤ 1 ∧ max r0.dp (Th.dps r') ≤ t.dp ∧ (r0.sz + Th.szs r') + 2 = (thOf t).sz ∧ gdl ((.flat (.str (wordT t)) :: r0 :: r').reverse) = true := by
  cases t with
  | one w x => exact ⟨_, [], rfl, rfl, rfl, rfl, by simp, by simp [Th.dp, Th.dps], by simp [thOf, Th.sz, Th.szs], by simp [gdl, gds, gd, pl]⟩
  | not a =>
    obtain ⟨a1, a2, a3, a4⟩ := good_th a
    refine ⟨_, [], rfl, a1, a2, rfl, by simp, by simp [Th.dps, a3, Ts.dp], by simp only [thOf, Th.sz, Th.szs]; omega, by simp [gdl, gds, gd, a2]⟩
  | two w a b =>
    obtain ⟨a1, a2, a3, a4⟩ := good_th a
    obtain ⟨b1, b2, b3, b4⟩ := good_th b
    refine ⟨_, [thOf b], rfl, a1, a2, by simp [gds, b1], by simp, ?_, by simp only [thOf, Th.sz, Th.szs]; omega, by simp [gdl, gds, gd, b2, a1]⟩
    simp only [Th.dps, a3, b3, Ts.dp]
    have : Nat.max a.dp b.dp = max a.dp b.dp := rfl
    omega
/-- a value that is a good odd thing -/
def GV (p : List Addr) (D S : Nat) (G : Hp) (v : V) : Prop := ∃ x, ThAt p G x v ∧ gd x = true ∧ x.dp ≤ D ∧ x.sz ≤ S
def AG (p : List Addr) (D S : Nat) (G : Hp) (vs : List V) : Prop := ∀ v ∈ vs, GV p D S G v
theorem AG.nil {p : List Addr} {D S : Nat} {G : Hp} : AG p D S G [] := fun v h => absurd h List.not_mem_nil
theorem AG.cons {p : List Addr} {D S : Nat} {G : Hp} {v : V} {vs : List V} (h : GV p D S G v) (t : AG p D S G vs) : AG p D S G (v :: vs) := fun u hu => by
  rcases List.mem_cons.mp hu with q | q
  · rw [q]; exact h
  · exact t u q
theorem AG.app {p : List Addr} {D S : Nat} {G : Hp} {vs us : List V} (h : AG p D S G vs) (t : AG p D S G us) : AG p D S G (vs ++ us) := fun u hu => by
  rcases List.mem_append.mp hu with q | q
  · exact h u q
  · exact t u q
theorem GV.keep0 {p : List Addr} {D S : Nat} {G G' : Hp} {v : V} (h : GV p D S G v) (k : Keep [] G G') : GV p D S G' v := by
  obtain ⟨x, a, b⟩ := h
  exact ⟨x, a.keep0 k, b⟩
theorem GV.keepP {p : List Addr} {D S : Nat} {G G' : Hp} {v : V} {c : Addr} (h : GV p D S G v) (hc : c ∈ p) (k : Keep [c] G G') (hp : ∃ xs, G c = some (.lst xs)) : GV p D S G' v := by
  obtain ⟨x, a, b⟩ := h
  exact ⟨x, a.keepP hc k hp, b⟩
theorem AG.keep0 {p : List Addr} {D S : Nat} {G G' : Hp} {vs : List V} (h : AG p D S G vs) (k : Keep [] G G') : AG p D S G' vs := fun v hv => (h v hv).keep0 k
theorem AG.keepP {p : List Addr} {D S : Nat} {G G' : Hp} {vs : List V} {c : Addr} (h : AG p D S G vs) (hc : c ∈ p) (k : Keep [c] G G') (hp : ∃ xs, G c = some (.lst xs)) : AG p D S G' vs := fun v hv => (h v hv).keepP hc k hp
/-- a good flat thing -/
def gf {p : List Addr} {D S : Nat} {G : Hp} {v : V} (h : Flt v) (hS : 1 ≤ S) : GV p D S G v := ⟨.flat v, by simp only [ThAt, true_and]; exact h, by simp [gd], by simp [Th.dp], by simpa [Th.sz] using hS⟩
theorem gbL {p : List Addr} {D S : Nat} {G : Hp} {a : Addr} {xs : List V} (n : a ∉ p) (e : G a = some (.lst xs)) (hS : 1 ≤ S) : GV p D S G (.ref a) := ⟨.box, by simp only [ThAt]; exact ⟨a, rfl, n, .inl ⟨xs, e⟩⟩, by simp [gd], by simp [Th.dp], by simpa [Th.sz] using hS⟩
theorem gbD {p : List Addr} {D S : Nat} {G : Hp} {a : Addr} {xs : List (Key × V)} (n : a ∉ p) (e : G a = some (.dK xs)) (hS : 1 ≤ S) : GV p D S G (.ref a) := ⟨.box, by simp only [ThAt]; exact ⟨a, rfl, n, .inr ⟨xs, e⟩⟩, by simp [gd], by simp [Th.dp], by simpa [Th.sz] using hS⟩
theorem gtp {p : List Addr} {D S : Nat} {G : Hp} {a : Addr} {ys : List V} {l : List Th} (e : G a = some (.tup ys)) (t : ThsAt p G l ys) (g : gdl l = true) (d : Th.dps l + 1 ≤ D) (z : Th.szs l + 1 ≤ S) : GV p D S G (.ref a) := ⟨.tup l, by simp only [ThAt]; exact ⟨a, ys, rfl, e, t⟩, by simp only [gd]; exact g, by simp only [Th.dp]; exact d, by simp only [Th.sz]; exact z⟩
theorem fl_at {p : List Addr} {G : Hp} {v : V} (h : Flt v) : ThAt p G (.flat v) v := by simp only [ThAt, true_and]; exact h
theorem bxL {p : List Addr} {G : Hp} {a : Addr} {xs : List V} (n : a ∉ p) (e : G a = some (.lst xs)) : ThAt p G .box (.ref a) := by simp only [ThAt]; exact ⟨a, rfl, n, .inl ⟨xs, e⟩⟩
theorem bxD {p : List Addr} {G : Hp} {a : Addr} {xs : List (Key × V)} (n : a ∉ p) (e : G a = some (.dK xs)) : ThAt p G .box (.ref a) := by simp only [ThAt]; exact ⟨a, rfl, n, .inr ⟨xs, e⟩⟩
theorem liA {p : List Addr} {G : Hp} {a : Addr} {z : Str} (n : a ∉ p) (e : G a = some (.lst [.str z])) (t : IsTx z) : ThAt p G (.lis z) (.ref a) := by simp only [ThAt]; exact ⟨a, rfl, n, e, t⟩
theorem tpA {p : List Addr} {G : Hp} {a : Addr} {ys : List V} {l : List Th} (e : G a = some (.tup ys)) (t : ThsAt p G l ys) : ThAt p G (.tup l) (.ref a) := by simp only [ThAt]; exact ⟨a, ys, rfl, e, t⟩
theorem t0 {p : List Addr} {G : Hp} : ThsAt p G [] [] := by simp only [ThsAt]
theorem tc {p : List Addr} {G : Hp} {x : Th} {v : V} {l : List Th} {ys : List V} (a : ThAt p G x v) (b : ThsAt p G l ys) : ThsAt p G (x :: l) (v :: ys) := by simp only [ThsAt]; exact ⟨a, b⟩
theorem up_tx {z : Str} (h : IsTx z) : IsTx (Txt.upper z) := by
  have e : z = SX.S z.cps.toList := TL.ext_tl rfl
  have h2 : z.cps.toList.all (· < 128) = true := List.all_eq_true.mpr fun c hc => decide_eq_true (h.2 c hc)
  have hu : Txt.upper z = SX.S (z.cps.toList.map PyProof.Rows.up1) := by
    conv => lhs; rw [e]
    exact SX.upper_S h2
  rw [hu]
  constructor
  · show (z.cps.toList.map PyProof.Rows.up1).length ≤ 40
    rw [List.length_map]; exact h.1
  · intro c hc
    obtain ⟨d, hd, rfl⟩ := List.mem_map.mp (show c ∈ z.cps.toList.map PyProof.Rows.up1 from hc)
    have := h.2 d hd
    unfold PyProof.Rows.up1
    split <;> omega
theorem cat_ok {K : PySem.W.Frag} {H : Hp} {a b : Addr} {xs ys : List V} {Q : VK} (ha : H a = some (.tup xs)) (hb : H b = some (.tup ys)) (n1 : xs ≠ []) (n2 : ys ≠ []) (hl : xs.length + ys.length ≤ 1000) (q : ∀ p, H p = none → Q (.ref p) (upd H p (.tup (xs ++ ys)))) : rCatT K (.ref a) (.ref b) H Q :=
  ⟨a, b, xs, ys, rfl, rfl, SqT.of ha, SqT.of hb, n1, Nat.le_trans hl (by decide), fun e => absurd e n2, fun _ => q⟩
end Fs
/-! What the law makes of a test. -/
namespace Fs
open PySem L2 TL
theorem tx_at {ls : List Str} (h : ∀ z ∈ ls, IsTx z) {d : Int} (d0 : 0 ≤ d) (d1 : d < ls.length) : ∃ t, IsTx t ∧ t ∈ ls ∧ atI (ls.map V.str) d = some (.str t) := by
  obtain ⟨k, rfl⟩ := Int.eq_ofNat_of_zero_le d0
  have hl : k < ls.length := by omega
  exact ⟨ls[k], h _ (List.getElem_mem hl), List.getElem_mem hl, atI_nat (by rw [List.getElem?_map, List.getElem?_eq_getElem hl]; rfl)⟩
theorem get_at {vs : List V} {d : Int} (d0 : 0 ≤ d) (d1 : d < vs.length) : ∃ v, v ∈ vs ∧ atI vs d = some v := by
  obtain ⟨k, rfl⟩ := Int.eq_ofNat_of_zero_le d0
  have hl : k < vs.length := by omega
  exact ⟨vs[k], List.getElem_mem hl, atI_nat (List.getElem?_eq_getElem hl)⟩
def It (H0 : Hp) (p : List Addr) (D S : Nat) (σ : L2.St) (te : TE) : Prop := ∀ (H : Hp) (Q : VK), Keep [] H0 H → (∀ v H', Keep [] H H' → GV p D S H' v → Q v H') → te σ H Q
def ItL (H0 : Hp) (p : List Addr) (D S : Nat) (σ : L2.St) (n : Nat) (ta : TA) : Prop := ∀ (H : Hp) (Q : List V → Hp → Prop), Keep [] H0 H → (∀ vs H', Keep [] H H' → AG p D S H' vs → vs.length = n → Q vs H') → ta σ H Q
theorem itNil {H0 : Hp} {p : List Addr} {D S : Nat} {σ : L2.St} : ItL H0 p D S σ 0 tNil := fun H Q _ h => h [] H (Keep.refl _ _) AG.nil rfl
theorem itCons {H0 : Hp} {p : List Addr} {D S n : Nat} {σ : L2.St} {te : TE} {ta : TA} (h1 : It H0 p D S σ te) (h2 : ItL H0 p D S σ n ta) : ItL H0 p D S σ (n + 1) (tCons te ta) := fun H Q k h =>
  h1 H _ k fun v H1 k1 g1 => h2 H1 _ (k.trans k1) fun vs H2 k2 g2 l2 => h (v :: vs) H2 (k1.trans k2) (AG.cons (g1.keep0 k2) g2) (by rw [List.length_cons, l2])
/-- what is known of the test, at some heap -/
structure Bs (p : List Addr) (q c : Addr) (w : Str) (r0 : Th) (r' : List Th) (y0 : V) (ys : List V) (T : Th) (G : Hp) : Prop where
  hq : G q = some (.tup (.str w :: y0 :: ys))
  hc : G c = some (.tup (y0 :: ys))
  tr : ThsAt p G (r0 :: r') (y0 :: ys)
  t0 : ThAt p G r0 y0
  tT : ThAt p G T (.ref q)
  hp : ∀ b ∈ p, ∃ o, G b = some o
theorem Bs.keep {p : List Addr} {q c : Addr} {w : Str} {r0 : Th} {r' : List Th} {y0 : V} {ys : List V} {T : Th} {G G' : Hp} (B : Bs p q c w r0 r' y0 ys T G) (k : Keep [] G G') : Bs p q c w r0 r' y0 ys T G' :=
  ⟨k.at B.hq nin0, k.at B.hc nin0, B.tr.keep0 k, B.t0.keep0 k, B.tT.keep0 k, fun b hb => by obtain ⟨o, e⟩ := B.hp b hb; exact ⟨o, k.at e nin0⟩⟩
theorem Bs.ne {p : List Addr} {q c : Addr} {w : Str} {r0 : Th} {r' : List Th} {y0 : V} {ys : List V} {T : Th} {G : Hp} (B : Bs p q c w r0 r' y0 ys T G) {a : Addr} (h : G a = none) : a ∉ p := fun z => by
  obtain ⟨x, e⟩ := B.hp a z
  rw [h] at e; cases e
theorem stepL {i : Nat} {v : V} {σ : L2.St} {H : Hp} {ta : TA} {g : TG} {u : TS} {D : Ends} (h : ta (σ.set i (some v)) H fun xs H1 => xs.length ≤ sizeLine ∧ ∀ p, H1 p = none → g (.ref p) (σ.set i (some v)) (upd H1 p (.lst xs)) (u D)) : gName i v σ H (tSeq (tAsg (tLst ta) g) u D) := h
theorem stepC {i j : Nat} {v : V} {σ : L2.St} {H : Hp} {r : R2} {ta : TA} {g : TG} {u : TS} {D : Ends} (h : ∃ x, (σ.set i (some v))[j]? = some (some x) ∧ ta (σ.set i (some v)) H fun xs H1 => xs.length ≤ sizeLine ∧ ∀ p, H1 p = none → r x (.ref p) (upd H1 p (.lst xs)) fun z H2 => g z (σ.set i (some v)) H2 (u D)) : gName i v σ H (tSeq (tAsg (tOp r (tVar j) (tLst ta)) g) u D) := h
theorem dps_rev (a : List Th) : Th.dps a.reverse = Th.dps a := by
  induction a with
  | nil => rfl
  | cons x r ih => rw [List.reverse_cons, dps_app, ih]; simp only [Th.dps]; omega
theorem szs_rev (a : List Th) : Th.szs a.reverse = Th.szs a := by
  induction a with
  | nil => rfl
  | cons x r ih => rw [List.reverse_cons, szs_app, ih]; simp only [Th.szs]; omega
theorem it_tup {p : List Addr} {D S : Nat} {H : Hp} {a : Addr} {ys : List V} {l : List Th} {Q : VK} (ha : H a = none) (th : ∀ H', Keep [] H H' → ThsAt p H' l ys) (g : gdl l = true) (d : Th.dps l + 1 ≤ D) (z : Th.szs l + 1 ≤ S) (kk : ∀ v H', Keep [] H H' → GV p D S H' v → Q v H') : Q (.ref a) (upd H a (.tup ys)) :=
  kk _ _ (Keep.new ha) (gtp upd_same (th _ (Keep.new ha)) g d z)
theorem it_cat {K : PySem.W.Frag} {p : List Addr} {D S : Nat} {H : Hp} {a b : Addr} {xs ys : List V} {l m : List Th} {Q : VK} (ha : H a = some (.tup xs)) (hb : H b = some (.tup ys)) (ta : ThsAt p H l xs) (tb : ThsAt p H m ys) (n1 : xs ≠ []) (n2 : ys ≠ []) (hl : xs.length + ys.length ≤ 1000)
    (g : gdl (l ++ m) = true) (d : Th.dps (l ++ m) + 1 ≤ D) (z : Th.szs (l ++ m) + 1 ≤ S) (kk : ∀ v H', Keep [] H H' → GV p D S H' v → Q v H') : rCatT K (.ref a) (.ref b) H Q :=
  cat_ok ha hb n1 n2 hl fun c hc => kk _ _ (Keep.new hc) (gtp upd_same ((ths_app ta tb).keep0 (Keep.new hc)) g d z)
theorem Bs.keepP {p : List Addr} {q c : Addr} {w : Str} {r0 : Th} {r' : List Th} {y0 : V} {ys : List V} {T : Th} {G G' : Hp} {n : Nat} {pa : Addr} (B : Bs p q c w r0 r' y0 ys T G) (hpa : pa ∈ p) (k : Keep [pa] G G') (hp : ∃ xs, G pa = some (.lst xs)) (pot : PotAt G' pa n) : Bs p q c w r0 r' y0 ys T G' := by
  obtain ⟨x, e⟩ := id hp
  have nq : q ≠ pa := ne_of B.hq e (fun z => by cases z)
  have nc : c ≠ pa := ne_of B.hc e (fun z => by cases z)
  refine ⟨k.at B.hq (nin1 nq), k.at B.hc (nin1 nc), B.tr.keepP hpa k hp, B.t0.keepP hpa k hp, B.tT.keepP hpa k hp, fun b hb => ?_⟩
  by_cases z : b = pa
  · obtain ⟨y, h⟩ := pot.some
    exact ⟨_, by rw [z]; exact h⟩
  · obtain ⟨o, h⟩ := B.hp b hb
    exact ⟨o, k.at h (nin1 z)⟩
abbrev sOth : Stmt := top 22 --def _law_other
abbrev nOth : List Str := ["_law_pot_here", "_law_test_here", "_law_rest", "_law_some", "_law_word"]
theorem scOth : FnScope nOth ["_law_pot_here", "_law_test_here"] (defScope sOth) := ⟨rfl, rfl, rfl, by decide +kernel, rfl, by decide +kernel, by decide +kernel⟩
def spOth : Sp := fun vs H Q _ => ∃ (p : Addr) (ex : List Addr) (n : Nat) (v : V) (t : Ts) (ps : List (Str × Str)), vs = [.ref p, v] ∧ PotAt H p n ∧ n < 2 ^ 32 ∧ TestAt H t v ∧ t.Ok ps ∧ (∀ x ∈ allK ps, IsTx x) ∧ p ∈ ex ∧ (∀ b ∈ ex, ∃ o, H b = some o) ∧
  ∀ (H' : Hp) (u : V), Keep [p] H H' → GV ex (t.dp + 2) (2 * (thOf t).sz + 4) H' u → PotAt H' p (n + 2) → Q u H'
theorem wordT_tx {ps : List (Str × Str)} (hw : ∀ x ∈ allK ps, IsTx x) {t : Ts} (ok : t.Ok ps) : IsTx (wordT t) := by
  obtain ⟨t1, t2, t3, t4, t5, t6⟩ := tx_word
  cases t with
  | one w x =>
    rcases ok with ⟨rfl, _⟩ | ⟨rfl | rfl, _⟩
    · exact t1
    · exact t2
    · exact t3
  | not a => exact t4
  | two w a b =>
    rcases ok.1 with rfl | rfl
    · exact t5
    · exact t6
theorem test_open {ps : List (Str × Str)} (hw : ∀ x ∈ allK ps, IsTx x) {t : Ts} (ok : t.Ok ps) {p : List Addr} {H : Hp} {v : V} (ta : TestAt H t v) : ∃ q y0 ys r0 r', v = .ref q ∧ H q = some (.tup (.str (wordT t) :: y0 :: ys)) ∧ restT t = r0 :: r' ∧ ThsAt p H (r0 :: r') (y0 :: ys) ∧ ys.length = r'.length ∧ ThAt p H (thOf t) v := by
  have h := tx_kind (p := p) hw ok ta
  have h2 := h
  rw [thOf_eq] at h
  simp only [ThAt] at h
  obtain ⟨q, us, e1, e2, e3⟩ := h
  obtain ⟨r0, r', hr, _⟩ := rest_good t
  rw [hr] at e3
  match us, e3 with
  | [], e3 => simp only [ThsAt] at e3
  | [_], e3 => simp only [ThsAt] at e3; exact e3.2.elim
  | a :: y :: ys, e3 =>
    simp only [ThsAt, ThAt] at e3
    obtain ⟨⟨rfl, _⟩, a2, a3⟩ := e3
    exact ⟨q, y, ys, r0, r', e1, e2, hr, tc a2 a3, a3.len, h2⟩
section
variable {P : Program} {w : World} {K : PySem.W.Frag} {mg : Str → Option Value} {base : Heap} {fDg : Addr}
theorem ok_oth {f : Addr} {fd dD : FuncData} (F : Fun K "_law_other" "_law_other" sOth f fd) (FD : FnOk P w K mg base CX0 1 fDg dD ["_law_pot_here", "_law_many"] spDigit) (bD : Binds K dD ["_law_pot_here", "_law_many"] []) (gD : mg "_law_digit" = some (.ref fDg)) (kD : PySem.W.keepIn K (.ref fDg) = true) (mL : mg "len" = none) (mLi : mg "list" = none) :
    FnOk P w K mg base CX0 2 f fd ["_law_pot_here", "_law_test_here"] spOth := by
  refine F.ok scOth (fun vs H Q E h => ?_) (fun cdv A outer s H vs Q E hr h => ?_)
  · obtain ⟨p, ex, n, v, t, ps, rfl, _⟩ := h
    rfl
  · obtain ⟨p, ex, n, v, t, ps, rfl, pot, hn, ta, ok, hps, hpe, hex, kk⟩ := h
    have hr1 : Room 1 _ := hr
    have wTx := wordT_tx hps ok
    refine ⟨_, (pss_cons (ps_set (i := 2) scOth.nd rfl (Or.inl rfl) (pe_slice sl_tupA (pv 1) (po_some pe_int) po_none))
      (pss_cons (ps_set (i := 3) scOth.nd rfl (Or.inl rfl) (pe_lst (pa_cons (pe_callTy call_list_of (by rfl) mLi (by decide +kernel) (pa_cons (pv 1) pa_nil)) (pa_cons (pv 2) (pa_cons (pe_slice sl_tupA (pv 1) po_none (po_some pe_int)) (pa_cons (pe_op op_catT (pv 1) (pe_tup (pa_cons pe_non pa_nil))) (pa_cons (pe_op op_catT (pv 1) (pe_slice sl_tupA (pv 2) po_none (po_some pe_int))) (pa_cons (pe_op op_catT (pe_tup (pa_cons (pe_upper (pe_ix ix_tup (pv 1) pe_int (fun _ _ => rfl))) pa_nil)) (pv 2)) pa_nil))))))))
      (pss_cons (ps_set (i := 3) scOth.nd rfl (Or.inl rfl) (pe_op op_cat (pv 3) (pe_lst (pa_cons (pe_op op_catT (pe_tup (pa_cons pe_str pa_nil)) (pv 2)) (pa_cons (pe_rev (pv 1) (pe_un un_neg pe_int)) (pa_cons (pe_op op_catT (pe_tup (pa_cons pe_non pa_nil)) (pv 2)) (pa_cons (pe_op op_catT (pe_tup (pa_cons (pe_lst (pa_cons (pe_ix ix_tup (pv 1) pe_int (fun _ _ => rfl)) pa_nil)) pa_nil)) (pv 2)) (pa_cons pe_non (pa_cons (pe_tup pa_nil) (pa_cons (pe_ix ix_tup (pv 1) pe_int (fun _ _ => rfl)) (pa_cons pe_int (pa_cons (pe_lst pa_nil) (pa_cons pe_dnewK pa_nil)))))))))))))
      (pss_cons (ps_set (i := 4) scOth.nd rfl (Or.inl rfl) (pe_ix ix_list (pe_lst (pa_cons pe_str (pa_cons pe_str (pa_cons pe_str (pa_cons pe_str (pa_cons pe_str (pa_cons pe_str pa_nil))))))) (pe_call FD hr1 rfl gD kD bD .nil pass0 (pa_cons (pv 0) (pa_cons pe_int pa_nil))) (fun _ _ => rfl)))
      (pss_cons (ps_set (i := 3) scOth.nd rfl (Or.inl rfl) (pe_op op_cat (pv 3) (pe_lst (pa_cons (pe_op op_catT (pe_tup (pa_cons (pv 4) pa_nil)) (pv 2)) (pa_cons (pe_tup (pa_cons (pv 4) (pa_cons pe_non pa_nil))) (pa_cons (pe_tup (pa_cons (pv 4) (pa_cons pe_int pa_nil))) (pa_cons (pe_tup (pa_cons (pv 4) (pa_cons pe_bl pa_nil))) (pa_cons (pe_tup (pa_cons (pv 4) (pa_cons (pe_lst (pa_cons (pe_ix ix_tup (pv 2) pe_int (fun _ _ => rfl)) pa_nil)) pa_nil))) (pa_cons (pe_tup (pa_cons (pv 4) (pa_cons (pe_tup (pa_cons (pe_ix ix_tup (pv 2) pe_int (fun _ _ => rfl)) pa_nil)) pa_nil))) pa_nil)))))))))
      (pss_cons (ps_set (i := 3) scOth.nd rfl (Or.inl rfl) (pe_op op_cat (pv 3) (pe_lst (pa_cons (pe_tup (pa_cons (pv 4) (pa_cons pe_str pa_nil))) (pa_cons (pe_tup (pa_cons (pv 4) (pa_cons pe_str pa_nil))) (pa_cons (pe_tup (pa_cons (pv 4) (pa_cons pe_str pa_nil))) (pa_cons (pe_tup (pa_cons (pv 4) (pa_cons pe_str pa_nil))) (pa_cons (pe_tup (pa_cons (pv 4) (pa_cons pe_dnewK pa_nil))) (pa_cons (pe_tup (pa_cons (pv 4) (pa_cons (pv 1) pa_nil))) pa_nil)))))))))
      (pss_cons (ps_set (i := 3) scOth.nd rfl (Or.inl rfl) (pe_op op_cat (pv 3) (pe_lst (pa_cons (pe_tup (pa_cons (pv 4) (pa_cons (pv 1) (pa_cons (pv 1) pa_nil)))) (pa_cons (pe_tup (pa_cons (pv 4) (pa_cons (pv 1) (pa_cons pe_non pa_nil)))) (pa_cons (pe_tup (pa_cons (pv 4) (pa_cons pe_non (pa_cons (pv 1) pa_nil)))) (pa_cons (pe_tup (pa_cons (pv 4) (pa_cons (pv 1) (pa_cons pe_str pa_nil)))) (pa_cons (pe_tup (pa_cons (pv 4) (pa_cons pe_str pa_nil))) pa_nil))))))))
      (pss_one (ps_ret (pe_ix ix_list (pv 3) (pe_call FD hr1 rfl gD kD bD .nil pass0 (pa_cons (pv 0) (pa_cons (pe_callB call_len_seq (by rfl) mL PySem.boot_len (pa_cons (pv 3) pa_nil)) pa_nil))) (fun _ _ => rfl))))))))))), ?_⟩
    obtain ⟨q, y0, ys, r0, r', rfl, hq, hr0, trT, lys, tT⟩ := test_open (p := ex) hps ok ta
    obtain ⟨r0', r'', hr1', g0, p0, g2, l2, hd, hz, gR⟩ := rest_good t
    rw [hr0] at hr1'
    obtain ⟨rfl, rfl⟩ := List.cons.inj hr1'
    clear hr1'
    obtain ⟨gT, pT, dT, _⟩ := good_th t
    generalize thOf t = T at tT gT pT dT hz kk
    obtain ⟨x0, ep0⟩ := pot.some
    refine ⟨_, rfl, _, rfl, ?_⟩
    dsimp only [tNoPart]
    refine slA_one hq fun c H0 k0 e0 => ?_
    rw [cut_1] at e0
    have B0 : Bs ex q c (wordT t) r0 r' y0 ys T H0 := ⟨k0.at hq nin0, e0, trT.keep0 k0, by simp only [ThsAt] at trT; exact trT.1.keep0 k0, tT.keep0 k0, fun b hb => by obtain ⟨o, e⟩ := hex b hb; exact ⟨o, k0.at e nin0⟩⟩
    generalize hw : wordT t = wd0 at wTx hq gR B0
    refine stepL ?_
    refine (itCons (D := t.dp + 2) (S := 2 * T.sz + 4) (p := ex) (H0 := H0) ?_ (itCons ?_ (itCons ?_ (itCons ?_ (itCons ?_ (itCons ?_ itNil)))))) H0 _ (Keep.refl _ _) fun vs1 H1 k1 ag1 ln1 => ?_
    · intro H Q k kk
      have B := B0.keep k
      exact ⟨_, rfl, q, _, rfl, .inr (SqT.of B.hq), fun a ha => kk _ _ (Keep.new ha) (gbL (B.ne ha) upd_same (by omega))⟩
    · intro H Q k kk
      have B := B0.keep k
      exact ⟨_, rfl, kk _ _ (Keep.refl _ _) (gtp B.hc B.tr (by simp [gdl, gds, gd, pl, gds_app, g0, p0, g2, gT, pT]) (by simp only [Th.dps, Th.dp, dps_app]; omega) (by simp only [Th.szs, Th.sz, szs_app]; omega))⟩
    · intro H Q k kk
      have B := B0.keep k
      refine ⟨_, rfl, ?_⟩
      dsimp only [tNoPart]
      refine ⟨_, rfl, ?_⟩
      refine slA_one B.hq fun a H2 k2 e2 => ?_
      rw [cut_h1] at e2
      exact kk _ _ k2 (gtp e2 (tc (fl_at wTx) t0) (by simp [gdl, gds, gd, pl, gds_app, g0, p0, g2, gT, pT]) (by simp only [Th.dps, Th.dp, dps_app]; omega) (by simp only [Th.szs, Th.sz, szs_app]; omega))
    · intro H Q k kk
      have B := B0.keep k
      refine ⟨_, rfl, (by show 1 ≤ sizeLine; decide), fun a ha => ?_⟩
      have k2 : Keep [] H (upd H a (.tup [.non])) := Keep.new ha
      have B2 := B.keep k2
      exact it_cat B2.hq upd_same (tc (fl_at wTx) B2.tr) (tc (fl_at (v := .non) True.intro) t0) (by simp) (by simp) (by simp; omega) (by simp [gdl, gds, gd, pl, gds_app, g0, p0, g2, gT, pT]) (by simp only [Th.dps, Th.dp, dps_app]; omega) (by simp only [Th.szs, Th.sz, szs_app]; omega) (fun u H3 k3 g3 => kk u H3 (k2.trans k3) g3)
    · intro H Q k kk
      have B := B0.keep k
      refine ⟨_, rfl, _, rfl, ?_⟩
      dsimp only [tNoPart]
      refine ⟨_, rfl, ?_⟩
      refine slA_one B.hc fun a H2 k2 e2 => ?_
      rw [cut_h1] at e2
      have B2 := B.keep k2
      exact it_cat B2.hq e2 (tc (fl_at wTx) B2.tr) (tc B2.t0 t0) (by simp) (by simp) (by simp; omega) (by simp [gdl, gds, gd, pl, gds_app, g0, p0, g2, gT, pT]) (by simp only [Th.dps, Th.dp, dps_app]; omega) (by simp only [Th.szs, Th.sz, szs_app]; omega) (fun u H3 k3 g3 => kk u H3 (k2.trans k3) g3)
    · intro H Q k kk
      have B := B0.keep k
      refine ⟨_, rfl, q, _, 0, .str wd0, rfl, rfl, SqT.of B.hq, at0 _ _, ⟨wd0, rfl⟩, wd0, rfl, rfl, Nat.le_trans wTx.1 (by decide), (by show 1 ≤ sizeLine; decide), fun a ha => ?_⟩
      have k2 : Keep [] H (upd H a (.tup [.str (Txt.upper wd0)])) := Keep.new ha
      have B2 := B.keep k2
      refine ⟨_, rfl, ?_⟩
      exact it_cat upd_same B2.hc (tc (fl_at (v := .str (Txt.upper wd0)) (up_tx wTx)) t0) B2.tr (by simp) (by simp) (by simp; omega) (by simp [gdl, gds, gd, pl, gds_app, g0, p0, g2, gT, pT]) (by simp only [Th.dps, Th.dp, dps_app]; omega) (by simp only [Th.szs, Th.sz, szs_app]; omega) (fun u H3 k3 g3 => kk u H3 (k2.trans k3) g3)
    have B1 := B0.keep k1
    refine ⟨by rw [ln1]; decide, fun L1 hL1 => ?_⟩
    have kA : Keep [] H1 (upd H1 L1 (.lst vs1)) := Keep.new hL1
    have eA : (upd H1 L1 (.lst vs1)) L1 = some (.lst vs1) := upd_same
    have agA := ag1.keep0 kA
    have kHA := (k0.trans k1).trans kA
    have B0 := B1.keep kA
    generalize (upd H1 L1 (.lst vs1)) = HA at kA eA agA kHA B0 ⊢
    refine stepC ⟨_, rfl, (itCons (D := t.dp + 2) (S := 2 * T.sz + 4) (p := ex) (H0 := HA) ?_ (itCons ?_ (itCons ?_ (itCons ?_ (itCons ?_ (itCons ?_ (itCons ?_ (itCons ?_ (itCons ?_ (itCons ?_ itNil)))))))))) HA _ (Keep.refl _ _) fun vs3 H3 k3 ag3 ln3 => ?_⟩
    · intro H Q k kk
      have B := B0.keep k
      refine ⟨(by show 1 ≤ sizeLine; decide), fun a ha => ?_⟩
      have k2 : Keep [] H (upd H a (.tup [.str "nor"])) := Keep.new ha
      have B2 := B.keep k2
      refine ⟨_, rfl, ?_⟩
      exact it_cat upd_same B2.hc (tc (fl_at (v := .str "nor") (tx_go _ (by decide +kernel))) t0) B2.tr (by simp) (by simp) (by simp; omega) (by simp [gdl, gds, gd, pl, gds_app, g0, p0, g2, gT, pT]) (by simp only [Th.dps, Th.dp, dps_app]; omega) (by simp only [Th.szs, Th.sz, szs_app]; omega) (fun u H3 k3 g3 => kk u H3 (k2.trans k3) g3)
    · intro H Q k kk
      have B := B0.keep k
      refine ⟨_, rfl, _, rfl, rfl, q, _, rfl, SqT.of B.hq, fun a ha => ?_⟩
      exact it_tup ha (fun H3 k3 => (ths_rev (tc (fl_at (v := .str wd0) wTx) B.tr)).keep0 k3) gR (by simp only [List.reverse_cons, List.append_assoc, Th.dps, Th.dp, dps_app, dps_rev]; omega) (by simp only [List.reverse_cons, List.append_assoc, Th.szs, Th.sz, szs_app, szs_rev]; omega) kk
    · intro H Q k kk
      have B := B0.keep k
      refine ⟨(by show 1 ≤ sizeLine; decide), fun a ha => ?_⟩
      have k2 : Keep [] H (upd H a (.tup [.non])) := Keep.new ha
      have B2 := B.keep k2
      refine ⟨_, rfl, ?_⟩
      exact it_cat upd_same B2.hc (tc (fl_at (v := .non) True.intro) t0) B2.tr (by simp) (by simp) (by simp; omega) (by simp [gdl, gds, gd, pl, gds_app, g0, p0, g2, gT, pT]) (by simp only [Th.dps, Th.dp, dps_app]; omega) (by simp only [Th.szs, Th.sz, szs_app]; omega) (fun u H3 k3 g3 => kk u H3 (k2.trans k3) g3)
    · intro H Q k kk
      have B := B0.keep k
      refine ⟨_, rfl, q, _, 0, .str wd0, rfl, rfl, SqT.of B.hq, at0 _ _, (by show 1 ≤ sizeLine; decide), fun b hb => ?_⟩
      have k1 : Keep [] H (upd H b (.lst [.str wd0])) := Keep.new hb
      have e1 : (upd H b (.lst [.str wd0])) b = some (.lst [.str wd0]) := upd_same
      have nb := B.ne hb
      have B := B.keep k1
      generalize (upd H b (.lst [.str wd0])) = H1 at k1 e1 B ⊢
      refine ⟨(by show 1 ≤ sizeLine; decide), fun a ha => ?_⟩
      have k2 : Keep [] H1 (upd H1 a (.tup [.ref b])) := Keep.new ha
      have B2 := B.keep k2
      refine ⟨_, rfl, ?_⟩
      exact it_cat upd_same B2.hc (tc (liA nb (k2.at e1 nin0) wTx) t0) B2.tr (by simp) (by simp) (by simp; omega) (by simp [gdl, gds, gd, pl, gds_app, g0, p0, g2, gT, pT]) (by simp only [Th.dps, Th.dp, dps_app]; omega) (by simp only [Th.szs, Th.sz, szs_app]; omega) (fun u H3 k3 g3 => kk u H3 ((k1.trans k2).trans k3) g3)
    · intro H Q k kk
      have B := B0.keep k
      exact kk _ _ (Keep.refl _ _) (gf True.intro (by omega))
    · intro H Q k kk
      have B := B0.keep k
      exact ⟨by decide, fun a ha => it_tup ha (fun H3 k3 => t0) (by simp [gdl, gds, gd, pl, gds_app, g0, p0, g2, gT, pT]) (by simp only [Th.dps, Th.dp, dps_app]; omega) (by simp only [Th.szs, Th.sz, szs_app]; omega) kk⟩
    · intro H Q k kk
      have B := B0.keep k
      exact ⟨_, rfl, q, _, 0, .str wd0, rfl, rfl, SqT.of B.hq, at0 _ _, kk _ _ (Keep.refl _ _) (gf wTx (by omega))⟩
    · intro H Q k kk
      have B := B0.keep k
      exact kk _ _ (Keep.refl _ _) (gf True.intro (by omega))
    · intro H Q k kk
      have B := B0.keep k
      exact ⟨by decide, fun a ha => kk _ _ (Keep.new ha) (gbL (B.ne ha) upd_same (by omega))⟩
    · intro H Q k kk
      have B := B0.keep k
      exact fun a ha => kk _ _ (Keep.new ha) (gbD (B.ne ha) upd_same (by omega))
    refine ⟨by rw [ln3]; decide, fun M3 hM3 => ?_⟩
    have kM3 : Keep [] H3 (upd H3 M3 (.lst vs3)) := Keep.new hM3
    have kc3 := k3.trans kM3
    have eM3 : (upd H3 M3 (.lst vs3)) M3 = some (.lst vs3) := upd_same
    have agM3 := (agA.keep0 kc3).app (ag3.keep0 kM3)
    have ls3 := kc3.at eA nin0
    have B30 := B0.keep kc3
    generalize (upd H3 M3 (.lst vs3)) = HM3 at kM3 kc3 eM3 agM3 ls3 B30 ⊢
    refine ⟨_, _, _, _, rfl, rfl, ls3, eM3, (by rw [ln1, ln3]; decide), fun N3 hN3 => ?_⟩
    have kN3 : Keep [] HM3 (upd HM3 N3 (.lst (vs1 ++ vs3))) := Keep.new hN3
    have n3p : N3 ≠ p := fun z => B30.ne hN3 (by rw [z]; exact hpe)
    have eN3 : (upd HM3 N3 (.lst (vs1 ++ vs3))) N3 = some (.lst (vs1 ++ vs3)) := upd_same
    have agN3 := agM3.keep0 kN3
    have kE3 := (kHA.trans kc3).trans kN3
    have B0 := B30.keep kN3
    have lN3 : (vs1 ++ vs3).length = 16 := by rw [List.length_append, ln1, ln3]
    generalize (upd HM3 N3 (.lst (vs1 ++ vs3))) = HE3 at kN3 eN3 agN3 kE3 B0 ⊢
    generalize vs1 ++ vs3 = ws3 at eN3 agN3 lN3 ⊢
    refine ⟨(by show 6 ≤ sizeLine; decide), fun X hX => ?_⟩
    have kX : Keep [] HE3 (upd HE3 X (.lst ([wKind, wSays, wNoted, wNot, wAnd, wOr].map V.str))) := Keep.new hX
    have eX : (upd HE3 X (.lst ([wKind, wSays, wNoted, wNot, wAnd, wOr].map V.str))) X = some (.lst ([wKind, wSays, wNoted, wNot, wAnd, wOr].map V.str)) := upd_same
    have nX : X ≠ p := fun z => B0.ne hX (by rw [z]; exact hpe)
    have BX := B0.keep kX
    have agX := agN3.keep0 kX
    have eNX := kX.at eN3 nin0
    have kEX := kE3.trans kX
    generalize hHX : (upd HE3 X (.lst ([wKind, wSays, wNoted, wNot, wAnd, wOr].map V.str))) = HX at kX eX BX agX eNX kEX
    refine ⟨_, rfl, p, n, 6, rfl, (by have := pot.keep kEX nin0; rw [← hHX] at this; exact this), by omega, by decide, by decide, fun d HY d0 d1 hkY potY => ?_⟩
    have kY := keep_of_dig hkY
    rw [show (upd HE3 X (HO.lst [V.str wKind, V.str wSays, V.str wNoted, V.str wNot, V.str wAnd, V.str wOr])) = HX from hHX] at kY
    have hpX : ∃ xs, HX p = some (.lst xs) := (pot.keep kEX nin0).some
    obtain ⟨z1, z2, z3, z4, z5, z6⟩ := tx_word
    obtain ⟨wd, twd, _, hat⟩ := tx_at (ls := [wKind, wSays, wNoted, wNot, wAnd, wOr]) (by intro z hz; simp only [List.mem_cons, List.not_mem_nil, or_false] at hz; rcases hz with rfl | rfl | rfl | rfl | rfl | rfl <;> assumption) d0 (by simpa using d1)
    refine ⟨X, _, d, .str wd, rfl, rfl, SqL.of (kY.at eX (nin1 nX)), hat, ?_⟩
    have B0 : Bs ex q c wd0 r0 r' y0 ys T HY := BX.keepP hpe kY hpX potY
    have agY := agX.keepP hpe kY hpX
    have nN3 := n3p
    have eY := kY.at eNX (nin1 nN3)
    have kHY := (kEX.more fun b z => absurd z nin0).trans kY
    refine stepC ⟨_, rfl, (itCons (D := t.dp + 2) (S := 2 * T.sz + 4) (p := ex) (H0 := HY) ?_ (itCons ?_ (itCons ?_ (itCons ?_ (itCons ?_ (itCons ?_ itNil)))))) HY _ (Keep.refl _ _) fun vs5 H5 k5 ag5 ln5 => ?_⟩
    · intro H Q k kk
      have B := B0.keep k
      refine ⟨_, rfl, (by show 1 ≤ sizeLine; decide), fun a ha => ?_⟩
      have k2 : Keep [] H (upd H a (.tup [.str wd])) := Keep.new ha
      have B2 := B.keep k2
      refine ⟨_, rfl, ?_⟩
      exact it_cat upd_same B2.hc (tc (fl_at (v := .str wd) twd) t0) B2.tr (by simp) (by simp) (by simp; omega) (by simp [gdl, gds, gd, pl, gds_app, g0, p0, g2, gT, pT]) (by simp only [Th.dps, Th.dp, dps_app]; omega) (by simp only [Th.szs, Th.sz, szs_app]; omega) (fun u H3 k3 g3 => kk u H3 (k2.trans k3) g3)
    · intro H Q k kk
      have B := B0.keep k
      refine ⟨_, rfl, (by show 2 ≤ sizeLine; decide), fun a ha => ?_⟩
      have k2 : Keep [] H (upd H a (.tup [.str wd, .non])) := Keep.new ha
      have B2 := B.keep k2
      exact it_tup ha (fun H3 k3 => tc (fl_at (v := .str wd) twd) (tc (fl_at (v := .non) True.intro) t0)) (by simp [gdl, gds, gd, pl, gds_app, g0, p0, g2, gT, pT]) (by simp only [Th.dps, Th.dp, dps_app]; omega) (by simp only [Th.szs, Th.sz, szs_app]; omega) kk
    · intro H Q k kk
      have B := B0.keep k
      refine ⟨_, rfl, (by show 2 ≤ sizeLine; decide), fun a ha => ?_⟩
      have k2 : Keep [] H (upd H a (.tup [.str wd, .int 7])) := Keep.new ha
      have B2 := B.keep k2
      exact it_tup ha (fun H3 k3 => tc (fl_at (v := .str wd) twd) (tc (fl_at (v := .int 7) True.intro) t0)) (by simp [gdl, gds, gd, pl, gds_app, g0, p0, g2, gT, pT]) (by simp only [Th.dps, Th.dp, dps_app]; omega) (by simp only [Th.szs, Th.sz, szs_app]; omega) kk
    · intro H Q k kk
      have B := B0.keep k
      refine ⟨_, rfl, (by show 2 ≤ sizeLine; decide), fun a ha => ?_⟩
      have k2 : Keep [] H (upd H a (.tup [.str wd, .bl true])) := Keep.new ha
      have B2 := B.keep k2
      exact it_tup ha (fun H3 k3 => tc (fl_at (v := .str wd) twd) (tc (fl_at (v := .bl true) True.intro) t0)) (by simp [gdl, gds, gd, pl, gds_app, g0, p0, g2, gT, pT]) (by simp only [Th.dps, Th.dp, dps_app]; omega) (by simp only [Th.szs, Th.sz, szs_app]; omega) kk
    · intro H Q k kk
      have B := B0.keep k
      refine ⟨_, rfl, _, rfl, c, _, 0, y0, rfl, rfl, SqT.of B.hc, at0 _ _, (by show 1 ≤ sizeLine; decide), fun b hb => ?_⟩
      have k1 : Keep [] H (upd H b (.lst [y0])) := Keep.new hb
      have e1 : (upd H b (.lst [y0])) b = some (.lst [y0]) := upd_same
      have nb := B.ne hb
      generalize (upd H b (.lst [y0])) = H1 at k1 e1 ⊢
      refine ⟨(by show 2 ≤ sizeLine; decide), fun a ha => ?_⟩
      exact it_tup ha (fun H3 k3 => tc (fl_at (v := .str wd) twd) (tc (bxL nb (k3.at e1 nin0)) t0)) (by simp [gdl, gds, gd, pl, gds_app, g0, p0, g2, gT, pT]) (by simp only [Th.dps, Th.dp, dps_app]; omega) (by simp only [Th.szs, Th.sz, szs_app]; omega) (fun u H3 k3 g3 => kk u H3 (k1.trans k3) g3)
    · intro H Q k kk
      have B := B0.keep k
      refine ⟨_, rfl, _, rfl, c, _, 0, y0, rfl, rfl, SqT.of B.hc, at0 _ _, (by show 1 ≤ sizeLine; decide), fun b hb => ?_⟩
      have k1 : Keep [] H (upd H b (.tup [y0])) := Keep.new hb
      have e1 : (upd H b (.tup [y0])) b = some (.tup [y0]) := upd_same
      have B := B.keep k1
      generalize (upd H b (.tup [y0])) = H1 at k1 e1 B ⊢
      refine ⟨(by show 2 ≤ sizeLine; decide), fun a ha => ?_⟩
      exact it_tup ha (fun H3 k3 => tc (fl_at (v := .str wd) twd) (tc (tpA (k3.at e1 nin0) (tc (B.t0.keep0 k3) t0)) t0)) (by simp [gdl, gds, gd, pl, gds_app, g0, p0, g2, gT, pT]) (by simp only [Th.dps, Th.dp, dps_app]; omega) (by simp only [Th.szs, Th.sz, szs_app]; omega) (fun u H3 k3 g3 => kk u H3 (k1.trans k3) g3)
    have kHY0 := kHY
    refine ⟨by rw [ln5]; decide, fun M5 hM5 => ?_⟩
    have kM5 : Keep [] H5 (upd H5 M5 (.lst vs5)) := Keep.new hM5
    have kc5 := k5.trans kM5
    have eM5 : (upd H5 M5 (.lst vs5)) M5 = some (.lst vs5) := upd_same
    have agM5 := (agY.keep0 kc5).app (ag5.keep0 kM5)
    have ls5 := kc5.at eY nin0
    have B50 := B0.keep kc5
    generalize (upd H5 M5 (.lst vs5)) = HM5 at kM5 kc5 eM5 agM5 ls5 B50 ⊢
    refine ⟨_, _, _, _, rfl, rfl, ls5, eM5, (by rw [lN3, ln5]; decide), fun N5 hN5 => ?_⟩
    have kN5 : Keep [] HM5 (upd HM5 N5 (.lst (ws3 ++ vs5))) := Keep.new hN5
    have eN5 : (upd HM5 N5 (.lst (ws3 ++ vs5))) N5 = some (.lst (ws3 ++ vs5)) := upd_same
    have nN5 : N5 ≠ p := fun z => B50.ne hN5 (by rw [z]; exact hpe)
    have agN5 := agM5.keep0 kN5
    have kE5 := kHY.trans ((kc5.trans kN5).more fun b z => absurd z nin0)
    have kP5 := kc5.trans kN5
    have B0 := B50.keep kN5
    have lN5 : (ws3 ++ vs5).length = 22 := by rw [List.length_append, lN3, ln5]
    generalize (upd HM5 N5 (.lst (ws3 ++ vs5))) = HE5 at kN5 eN5 agN5 kE5 kP5 B0 ⊢
    generalize ws3 ++ vs5 = ws5 at eN5 agN5 lN5 ⊢
    refine stepC ⟨_, rfl, (itCons (D := t.dp + 2) (S := 2 * T.sz + 4) (p := ex) (H0 := HE5) ?_ (itCons ?_ (itCons ?_ (itCons ?_ (itCons ?_ (itCons ?_ itNil)))))) HE5 _ (Keep.refl _ _) fun vs6 H6 k6 ag6 ln6 => ?_⟩
    · intro H Q k kk
      have B := B0.keep k
      refine ⟨_, rfl, (by show 2 ≤ sizeLine; decide), fun a ha => ?_⟩
      have k2 : Keep [] H (upd H a (.tup [.str wd, .str "a"])) := Keep.new ha
      have B2 := B.keep k2
      exact it_tup ha (fun H3 k3 => tc (fl_at (v := .str wd) twd) (tc (fl_at (v := .str "a") (tx_go _ (by decide +kernel))) t0)) (by simp [gdl, gds, gd, pl, gds_app, g0, p0, g2, gT, pT]) (by simp only [Th.dps, Th.dp, dps_app]; omega) (by simp only [Th.szs, Th.sz, szs_app]; omega) kk
    · intro H Q k kk
      have B := B0.keep k
      refine ⟨_, rfl, (by show 2 ≤ sizeLine; decide), fun a ha => ?_⟩
      have k2 : Keep [] H (upd H a (.tup [.str wd, .str "zzzzzzzzz"])) := Keep.new ha
      have B2 := B.keep k2
      exact it_tup ha (fun H3 k3 => tc (fl_at (v := .str wd) twd) (tc (fl_at (v := .str "zzzzzzzzz") (tx_go _ (by decide +kernel))) t0)) (by simp [gdl, gds, gd, pl, gds_app, g0, p0, g2, gT, pT]) (by simp only [Th.dps, Th.dp, dps_app]; omega) (by simp only [Th.szs, Th.sz, szs_app]; omega) kk
    · intro H Q k kk
      have B := B0.keep k
      refine ⟨_, rfl, (by show 2 ≤ sizeLine; decide), fun a ha => ?_⟩
      have k2 : Keep [] H (upd H a (.tup [.str wd, .str "Fault"])) := Keep.new ha
      have B2 := B.keep k2
      exact it_tup ha (fun H3 k3 => tc (fl_at (v := .str wd) twd) (tc (fl_at (v := .str "Fault") (tx_go _ (by decide +kernel))) t0)) (by simp [gdl, gds, gd, pl, gds_app, g0, p0, g2, gT, pT]) (by simp only [Th.dps, Th.dp, dps_app]; omega) (by simp only [Th.szs, Th.sz, szs_app]; omega) kk
    · intro H Q k kk
      have B := B0.keep k
      refine ⟨_, rfl, (by show 2 ≤ sizeLine; decide), fun a ha => ?_⟩
      have k2 : Keep [] H (upd H a (.tup [.str wd, .str ""])) := Keep.new ha
      have B2 := B.keep k2
      exact it_tup ha (fun H3 k3 => tc (fl_at (v := .str wd) twd) (tc (fl_at (v := .str "") (tx_go _ (by decide +kernel))) t0)) (by simp [gdl, gds, gd, pl, gds_app, g0, p0, g2, gT, pT]) (by simp only [Th.dps, Th.dp, dps_app]; omega) (by simp only [Th.szs, Th.sz, szs_app]; omega) kk
    · intro H Q k kk
      have B := B0.keep k
      refine ⟨_, rfl, fun b hb => ?_⟩
      have k1 : Keep [] H (upd H b (.dK [])) := Keep.new hb
      have e1 : (upd H b (.dK [])) b = some (.dK []) := upd_same
      have nb := B.ne hb
      generalize (upd H b (.dK [])) = H1 at k1 e1 ⊢
      refine ⟨(by show 2 ≤ sizeLine; decide), fun a ha => ?_⟩
      exact it_tup ha (fun H3 k3 => tc (fl_at (v := .str wd) twd) (tc (bxD nb (k3.at e1 nin0)) t0)) (by simp [gdl, gds, gd, pl, gds_app, g0, p0, g2, gT, pT]) (by simp only [Th.dps, Th.dp, dps_app]; omega) (by simp only [Th.szs, Th.sz, szs_app]; omega) (fun u H3 k3 g3 => kk u H3 (k1.trans k3) g3)
    · intro H Q k kk
      have B := B0.keep k
      refine ⟨_, rfl, _, rfl, (by show 2 ≤ sizeLine; decide), fun a ha => ?_⟩
      have k2 : Keep [] H (upd H a (.tup [.str wd, .ref q])) := Keep.new ha
      have B2 := B.keep k2
      exact it_tup ha (fun H3 k3 => tc (fl_at (v := .str wd) twd) (tc (B.tT.keep0 k3) t0)) (by simp [gdl, gds, gd, pl, gds_app, g0, p0, g2, gT, pT]) (by simp only [Th.dps, Th.dp, dps_app]; omega) (by simp only [Th.szs, Th.sz, szs_app]; omega) kk
    refine ⟨by rw [ln6]; decide, fun M6 hM6 => ?_⟩
    have kM6 : Keep [] H6 (upd H6 M6 (.lst vs6)) := Keep.new hM6
    have kc6 := k6.trans kM6
    have eM6 : (upd H6 M6 (.lst vs6)) M6 = some (.lst vs6) := upd_same
    have agM6 := (agN5.keep0 kc6).app (ag6.keep0 kM6)
    have ls6 := kc6.at eN5 nin0
    have B60 := B0.keep kc6
    generalize (upd H6 M6 (.lst vs6)) = HM6 at kM6 kc6 eM6 agM6 ls6 B60 ⊢
    refine ⟨_, _, _, _, rfl, rfl, ls6, eM6, (by rw [lN5, ln6]; decide), fun N6 hN6 => ?_⟩
    have kN6 : Keep [] HM6 (upd HM6 N6 (.lst (ws5 ++ vs6))) := Keep.new hN6
    have eN6 : (upd HM6 N6 (.lst (ws5 ++ vs6))) N6 = some (.lst (ws5 ++ vs6)) := upd_same
    have nN6 : N6 ≠ p := fun z => B60.ne hN6 (by rw [z]; exact hpe)
    have agN6 := agM6.keep0 kN6
    have kE6 := kE5.trans ((kc6.trans kN6).more fun b z => absurd z nin0)
    have kP6 := kc6.trans kN6
    have B0 := B60.keep kN6
    have lN6 : (ws5 ++ vs6).length = 28 := by rw [List.length_append, lN5, ln6]
    generalize (upd HM6 N6 (.lst (ws5 ++ vs6))) = HE6 at kN6 eN6 agN6 kE6 kP6 B0 ⊢
    generalize ws5 ++ vs6 = ws6 at eN6 agN6 lN6 ⊢
    refine stepC ⟨_, rfl, (itCons (D := t.dp + 2) (S := 2 * T.sz + 4) (p := ex) (H0 := HE6) ?_ (itCons ?_ (itCons ?_ (itCons ?_ (itCons ?_ itNil))))) HE6 _ (Keep.refl _ _) fun vs7 H7 k7 ag7 ln7 => ?_⟩
    · intro H Q k kk
      have B := B0.keep k
      refine ⟨_, rfl, _, rfl, _, rfl, (by show 3 ≤ sizeLine; decide), fun a ha => ?_⟩
      have k2 : Keep [] H (upd H a (.tup [.str wd, .ref q, .ref q])) := Keep.new ha
      have B2 := B.keep k2
      exact it_tup ha (fun H3 k3 => tc (fl_at (v := .str wd) twd) (tc (B.tT.keep0 k3) (tc (B.tT.keep0 k3) t0))) (by simp [gdl, gds, gd, pl, gds_app, g0, p0, g2, gT, pT]) (by simp only [Th.dps, Th.dp, dps_app]; omega) (by simp only [Th.szs, Th.sz, szs_app]; omega) kk
    · intro H Q k kk
      have B := B0.keep k
      refine ⟨_, rfl, _, rfl, (by show 3 ≤ sizeLine; decide), fun a ha => ?_⟩
      have k2 : Keep [] H (upd H a (.tup [.str wd, .ref q, .non])) := Keep.new ha
      have B2 := B.keep k2
      exact it_tup ha (fun H3 k3 => tc (fl_at (v := .str wd) twd) (tc (B.tT.keep0 k3) (tc (fl_at (v := .non) True.intro) t0))) (by simp [gdl, gds, gd, pl, gds_app, g0, p0, g2, gT, pT]) (by simp only [Th.dps, Th.dp, dps_app]; omega) (by simp only [Th.szs, Th.sz, szs_app]; omega) kk
    · intro H Q k kk
      have B := B0.keep k
      refine ⟨_, rfl, _, rfl, (by show 3 ≤ sizeLine; decide), fun a ha => ?_⟩
      have k2 : Keep [] H (upd H a (.tup [.str wd, .non, .ref q])) := Keep.new ha
      have B2 := B.keep k2
      exact it_tup ha (fun H3 k3 => tc (fl_at (v := .str wd) twd) (tc (fl_at (v := .non) True.intro) (tc (B.tT.keep0 k3) t0))) (by simp [gdl, gds, gd, pl, gds_app, g0, p0, g2, gT, pT]) (by simp only [Th.dps, Th.dp, dps_app]; omega) (by simp only [Th.szs, Th.sz, szs_app]; omega) kk
    · intro H Q k kk
      have B := B0.keep k
      refine ⟨_, rfl, _, rfl, (by show 3 ≤ sizeLine; decide), fun a ha => ?_⟩
      have k2 : Keep [] H (upd H a (.tup [.str wd, .ref q, .str "a"])) := Keep.new ha
      have B2 := B.keep k2
      exact it_tup ha (fun H3 k3 => tc (fl_at (v := .str wd) twd) (tc (B.tT.keep0 k3) (tc (fl_at (v := .str "a") (tx_go _ (by decide +kernel))) t0))) (by simp [gdl, gds, gd, pl, gds_app, g0, p0, g2, gT, pT]) (by simp only [Th.dps, Th.dp, dps_app]; omega) (by simp only [Th.szs, Th.sz, szs_app]; omega) kk
    · intro H Q k kk
      have B := B0.keep k
      refine ⟨_, rfl, (by show 2 ≤ sizeLine; decide), fun a ha => ?_⟩
      have k2 : Keep [] H (upd H a (.tup [.str wd, .str "sheaf"])) := Keep.new ha
      have B2 := B.keep k2
      exact it_tup ha (fun H3 k3 => tc (fl_at (v := .str wd) twd) (tc (fl_at (v := .str "sheaf") (tx_go _ (by decide +kernel))) t0)) (by simp [gdl, gds, gd, pl, gds_app, g0, p0, g2, gT, pT]) (by simp only [Th.dps, Th.dp, dps_app]; omega) (by simp only [Th.szs, Th.sz, szs_app]; omega) kk
    refine ⟨by rw [ln7]; decide, fun M7 hM7 => ?_⟩
    have kM7 : Keep [] H7 (upd H7 M7 (.lst vs7)) := Keep.new hM7
    have kc7 := k7.trans kM7
    have eM7 : (upd H7 M7 (.lst vs7)) M7 = some (.lst vs7) := upd_same
    have agM7 := (agN6.keep0 kc7).app (ag7.keep0 kM7)
    have ls7 := kc7.at eN6 nin0
    have B70 := B0.keep kc7
    generalize (upd H7 M7 (.lst vs7)) = HM7 at kM7 kc7 eM7 agM7 ls7 B70 ⊢
    refine ⟨_, _, _, _, rfl, rfl, ls7, eM7, (by rw [lN6, ln7]; decide), fun N7 hN7 => ?_⟩
    have kN7 : Keep [] HM7 (upd HM7 N7 (.lst (ws6 ++ vs7))) := Keep.new hN7
    have eN7 : (upd HM7 N7 (.lst (ws6 ++ vs7))) N7 = some (.lst (ws6 ++ vs7)) := upd_same
    have nN7 : N7 ≠ p := fun z => B70.ne hN7 (by rw [z]; exact hpe)
    have agN7 := agM7.keep0 kN7
    have kE7 := kE6.trans ((kc7.trans kN7).more fun b z => absurd z nin0)
    have kP7 := kc7.trans kN7
    have B0 := B70.keep kN7
    have lN7 : (ws6 ++ vs7).length = 33 := by rw [List.length_append, lN6, ln7]
    generalize (upd HM7 N7 (.lst (ws6 ++ vs7))) = HE7 at kN7 eN7 agN7 kE7 kP7 B0 ⊢
    generalize ws6 ++ vs7 = ws7 at eN7 agN7 lN7 ⊢
    have potE := potY.keep ((kP5.trans kP6).trans kP7) nin0
    refine ⟨_, rfl, _, rfl, _, rfl, N7, _, rfl, .inl (SqL.of eN7), p, n + 1, _, rfl, potE, by omega, by rw [lN7]; decide, by rw [lN7]; decide, fun d2 HZ d3 d4 hkZ potZ => ?_⟩
    have kZ := keep_of_dig hkZ
    obtain ⟨v, hv, hat2⟩ := get_at (vs := ws7) d3 d4
    exact ⟨N7, _, d2, v, rfl, rfl, SqL.of (kZ.at eN7 (nin1 nN7)), hat2, kk HZ v (kE7.trans kZ) ((agN7 v hv).keepP hpe kZ potE.some) potZ⟩
end
end Fs
/-! A test that the law spoils. -/
namespace Fs
open PySem L2 TL
abbrev sSpo : Stmt := top 23 --def _law_spoilt
abbrev nSpo : List Str := ["_law_pot_here", "_law_test_here", "_law_deep", "_law_at"]
abbrev aSpo : List Str := ["_law_pot_here", "_law_test_here", "_law_deep"]
theorem scSpo : FnScope nSpo aSpo (defScope sSpo) := ⟨rfl, rfl, rfl, by decide +kernel, rfl, by decide +kernel, by decide +kernel⟩
def spSpo (d : Nat) : Sp := fun vs H Q _ => ∃ (p : Addr) (ex : List Addr) (n : Nat) (v : V) (t : Ts) (ps : List (Str × Str)) (dp : Nat), vs = [.ref p, v, .int (dp : Int)] ∧ dp < d ∧ PotAt H p n ∧ n + 2 * dp < 2 ^ 31 ∧ TestAt H t v ∧ t.Ok ps ∧ (∀ x ∈ allK ps, IsTx x) ∧ p ∈ ex ∧ (∀ b ∈ ex, ∃ o, H b = some o) ∧
  ∀ (H' : Hp) (u : V) (m : Nat), Keep [p] H H' → GV ex (t.dp + 2) (2 * (thOf t).sz + 4) H' u → PotAt H' p m → m ≤ n + 2 * dp + 3 → Q u H'
theorem ex_keep {ex : List Addr} {H G : Hp} {p : Addr} {n : Nat} (h : ∀ b ∈ ex, ∃ o, H b = some o) (k : Keep [p] H G) (pot : PotAt G p n) : ∀ b ∈ ex, ∃ o, G b = some o := fun b hb => by
  by_cases z : b = p
  · obtain ⟨y, h⟩ := pot.some
    exact ⟨_, by rw [z]; exact h⟩
  · obtain ⟨o, e⟩ := h b hb
    exact ⟨o, k.at e (nin1 z)⟩
theorem inV3 (z a b c : Str) : inV (.str z) [.str a, .str b, .str c] = (decide (z = a) || (decide (z = b) || decide (z = c))) := by
  have e : ∀ x : Str, eqV (.str x) (.str z) = decide (z = x) := fun x => by
    show (x == z) = _
    rw [Bool.eq_iff_iff, beq_iff_eq, decide_eq_true_eq]
    exact ⟨fun h => h.symm, fun h => h.symm⟩
  show (eqV (.str a) (.str z) || (eqV (.str b) (.str z) || (eqV (.str c) (.str z) || false))) = _
  rw [e, e, e, Bool.or_false]
theorem catA_ok {K : PySem.W.Frag} {H : Hp} {a b : Addr} {xs ys : List V} {Q : VK} (ha : H a = some (.tup xs)) (hb : H b = some (.tup ys)) (n1 : xs ≠ []) (hl : xs.length + ys.length ≤ 1000) (q : ∀ c H', Keep [] H H' → H' c = some (.tup (xs ++ ys)) → Q (.ref c) H') : rCatA K (.ref a) (.ref b) H Q :=
  ⟨a, b, xs, ys, rfl, rfl, SqT.of ha, SqT.of hb, Nat.le_trans hl (by decide), fun e => absurd e n1, fun _ e => q a H (Keep.refl _ _) (by rw [ha, e, List.append_nil]), fun _ _ c hc => q c _ (Keep.new hc) upd_same⟩
theorem kid_split {ps : List (Str × Str)} (hw : ∀ x ∈ allK ps, IsTx x) {t : Ts} (ok : t.Ok ps) (hin : (decide (wordT t = wNot) || (decide (wordT t = wAnd) || decide (wordT t = wOr))) = true) {p : List Addr} {q : Addr} {H : Hp} {us : List V} (ta : TestAt H t (.ref q)) (hq : H q = some (.tup (.str (wordT t) :: us))) {i : Nat} (hi : i < us.length) :
    ∃ A C A' C' a y, us = A' ++ y :: C' ∧ A'.length = i ∧ ThsAt p H A A' ∧ ThsAt p H C C' ∧ TestAt H a y ∧ a.Ok ps ∧ a.dp + 1 ≤ t.dp ∧ gds A = true ∧ gds C = true ∧ Th.dps A ≤ t.dp ∧ Th.dps C ≤ t.dp ∧ (thOf t).sz = 2 + Th.szs A + (thOf a).sz + Th.szs C ∧ C'.length ≤ 1 ∧ A'.length ≤ 1 := by
  cases t with
  | one w x =>
    exfalso
    have z1 : (decide (wKind = wNot) || (decide (wKind = wAnd) || decide (wKind = wOr))) = false := by decide +kernel
    have z2 : (decide (wSays = wNot) || (decide (wSays = wAnd) || decide (wSays = wOr))) = false := by decide +kernel
    have z3 : (decide (wNoted = wNot) || (decide (wNoted = wAnd) || decide (wNoted = wOr))) = false := by decide +kernel
    rcases ok with ⟨rfl, _⟩ | ⟨rfl | rfl, _⟩
    · exact Bool.false_ne_true (z1.symm.trans hin)
    · exact Bool.false_ne_true (z2.symm.trans hin)
    · exact Bool.false_ne_true (z3.symm.trans hin)
  | not a =>
    obtain ⟨q', u, e, e1, e2⟩ := ta
    cases e
    rw [e1] at hq
    cases hq
    have hi0 : i = 0 := by simpa using hi
    subst hi0
    refine ⟨[], [], [], [], a, u, rfl, rfl, t0, t0, e2, ok, ?_, rfl, rfl, by simp [Th.dps], by simp [Th.dps], ?_, by simp, by simp⟩
    · simp [Ts.dp]
    · simp only [thOf, Th.sz, Th.szs]; omega
  | two w a b =>
    obtain ⟨q', u, u', e, e1, e2, e3⟩ := ta
    cases e
    rw [e1] at hq
    cases hq
    obtain ⟨_, oa, ob⟩ := ok
    obtain ⟨a1, a2, a3, a4⟩ := good_th a
    obtain ⟨b1, b2, b3, b4⟩ := good_th b
    have mx : Nat.max a.dp b.dp = max a.dp b.dp := rfl
    have hi2 : i < 2 := by simpa using hi
    rcases (show i = 0 ∨ i = 1 by omega) with rfl | rfl
    · refine ⟨[], [thOf b], [], [u'], a, u, rfl, rfl, t0, tc (tx_kind hw ob e3) t0, e2, oa, ?_, rfl, by simp [gds, b1], by simp [Th.dps], ?_, ?_, by simp, by simp⟩
      · simp only [Ts.dp]; omega
      · simp only [Th.dps, b3, Ts.dp]; omega
      · simp only [thOf, Th.sz, Th.szs]; omega
    · refine ⟨[thOf a], [], [u], [], b, u', rfl, rfl, tc (tx_kind hw oa e2) t0, t0, e3, ob, ?_, by simp [gds, a1], rfl, ?_, by simp [Th.dps], ?_, by simp, by simp⟩
      · simp only [Ts.dp]; omega
      · simp only [Th.dps, a3, Ts.dp]; omega
      · simp only [thOf, Th.sz, Th.szs]; omega
section
variable {P : Program} {w : World} {K : PySem.W.Frag} {mg : Str → Option Value} {base : Heap} {fDg fOt : Addr}
theorem spo0 {f : Addr} {fd : FuncData} {k : Nat} : FnOk P w K mg base CX0 k f fd aSpo (spSpo 0) :=
  ⟨fun vs H Q E h => by obtain ⟨_, _, _, _, _, _, _, _, h, _⟩ := h; omega, fun A outer s H args us vs Q E _ _ _ _ h => by obtain ⟨_, _, _, _, _, _, _, _, h, _⟩ := h; omega⟩
theorem spoS {f : Addr} {fd dD dO : FuncData} (F : Fun K "_law_spoilt" "_law_spoilt" sSpo f fd) (gR : mg "_law_spoilt" = some (.ref f)) (kR : PySem.W.keepIn K (.ref f) = true) (bR : Binds K fd aSpo [])
    (FD : FnOk P w K mg base CX0 1 fDg dD ["_law_pot_here", "_law_many"] spDigit) (bD : Binds K dD ["_law_pot_here", "_law_many"] []) (gD : mg "_law_digit" = some (.ref fDg)) (kD : PySem.W.keepIn K (.ref fDg) = true)
    (FO : FnOk P w K mg base CX0 2 fOt dO ["_law_pot_here", "_law_test_here"] spOth) (bO : Binds K dO ["_law_pot_here", "_law_test_here"] []) (gO : mg "_law_other" = some (.ref fOt)) (kO : PySem.W.keepIn K (.ref fOt) = true) (mL : mg "len" = none)
    {d : Nat} (FR : FnOk P w K mg base CX0 (2 + d) f fd aSpo (spSpo d)) : FnOk P w K mg base CX0 (2 + d + 1) f fd aSpo (spSpo (d + 1)) := by
  refine F.ok scSpo (fun vs H Q E h => ?_) (fun cdv A outer s H vs Q E hr h => ?_)
  · obtain ⟨p, ex, n, v, t, ps, dp, rfl, _⟩ := h
    rfl
  · obtain ⟨p, ex, n, v, t, ps, dp, rfl, hd, pot, hn, ta, ok, hps, hpe, hex, kk⟩ := h
    have hr1 : Room 1 _ := hr.mono (by omega)
    have hr2 : Room 2 _ := hr.mono (by omega)
    refine ⟨_, pss_cons (ps_if (PW.pt (pw_and (pt_cmpR op_gt (pv 2) pe_int (nomark _)) (pw_and (pt_cmpR op_in_seq (pe_ix ix_tup (pv 1) pe_int (fun _ _ => rfl)) (pe_lst (pa_cons pe_str (pa_cons pe_str (pa_cons pe_str pa_nil)))) (by rfl))
          (pw_and1 (pt_cmpR op_gt (pe_call FD hr1 rfl gD kD bD .nil pass0 (pa_cons (pv 0) (pa_cons pe_int pa_nil))) pe_int (nomark _))))))
        (pss_cons (ps_set (i := 3) scSpo.nd rfl (Or.inl rfl) (pe_op op_add pe_int (pe_call FD hr1 rfl gD kD bD .nil pass0 (pa_cons (pv 0) (pa_cons (pe_op op_sub (pe_callB call_len_seq (by rfl) mL PySem.boot_len (pa_cons (pv 1) pa_nil)) pe_int) pa_nil)))))
        (pss_one (ps_ret (pe_op op_catA (pe_op op_catT (pe_slice sl_tupA (pv 1) po_none (po_some (pv 3))) (pe_tup (pa_cons (pe_call FR hr rfl gR kR bR .nil pass0 (pa_cons (pv 0) (pa_cons (pe_ix ix_tup (pv 1) (pv 3) (fun _ _ => rfl)) (pa_cons (pe_op op_sub (pv 2) pe_int) pa_nil)))) pa_nil))) (pe_slice sl_tupA (pv 1) (po_some (pe_op op_add (pv 3) pe_int)) po_none))))) pss_nil)
      (pss_one (ps_ret (pe_call FO hr2 rfl gO kO bO .nil pass0 (pa_cons (pv 0) (pa_cons (pv 1) pa_nil))))), ?_⟩
    have wTx := wordT_tx hps ok
    obtain ⟨q, y0, ys, r0, r', rfl, hq, hr0, trT, lys, tT⟩ := test_open (p := ex) hps ok ta
    obtain ⟨x0, ep0⟩ := pot.some
    have nq : q ≠ p := ne_of hq ep0 (fun z => by cases z)
    have other : ∀ (G : Hp) (j : Nat), Keep [p] H G → PotAt G p j → j ≤ n + 1 → ∃ (p_1 : Addr) (ex : List Addr) (n_1 : Nat) (v : V) (t : Ts) (ps : List (Str × Str)), [V.ref p, V.ref q] = [.ref p_1, v] ∧ PotAt G p_1 n_1 ∧ n_1 < 2 ^ 32 ∧ TestAt G t v ∧ t.Ok ps ∧ (∀ x ∈ allK ps, IsTx x) ∧ p_1 ∈ ex ∧ (∀ b ∈ ex, ∃ o, G b = some o) ∧
        ∀ (H' : Hp) (u : V), Keep [p_1] G H' → GV ex (t.dp + 2) (2 * (thOf t).sz + 4) H' u → PotAt H' p_1 (n_1 + 2) → Q u H' := fun G j kG potG hj =>
      ⟨p, ex, j, _, t, ps, rfl, potG, by omega, ta.keepP kG pot, ok, hps, hpe, ex_keep hex kG potG, fun H' u k g po => kk H' u (j + 2) (kG.trans k) g po (by omega)⟩
    refine ⟨_, rfl, _, _, rfl, rfl, _, rfl, ?_⟩
    by_cases c0 : 0 < dp
    case neg =>
      rw [decide_eq_false (show ¬ (0 : Int) < (dp : Int) by omega)]
      exact iteF (iteF ⟨_, rfl, _, rfl, other H n (Keep.refl _ _) pot (by omega)⟩)
    rw [decide_eq_true (show (0 : Int) < (dp : Int) by omega)]
    refine iteT ?_
    refine ⟨_, rfl, q, _, 0, .str (wordT t), rfl, rfl, SqT.of hq, at0 _ _, (by show 3 ≤ sizeLine; decide), fun S hS => ?_⟩
    have kS : Keep [] H (upd H S (.lst [.str wNot, .str wAnd, .str wOr])) := Keep.new hS
    have eS : (upd H S (.lst [.str wNot, .str wAnd, .str wOr])) S = some (.lst [.str wNot, .str wAnd, .str wOr]) := upd_same
    have potS := pot.keep kS nin0
    have hqS := kS.at hq nin0
    have taS := ta.keep0 kS
    generalize (upd H S (.lst [.str wNot, .str wAnd, .str wOr])) = HS at kS eS potS hqS taS ⊢
    have kSp : Keep [p] H HS := kS.more fun b z => absurd z nin0
    refine ⟨S, _, rfl, .inl (SqL.of eS), rfl, rfl, _, rfl, ?_⟩
    rw [inV3]
    cases hin : (decide (wordT t = wNot) || (decide (wordT t = wAnd) || decide (wordT t = wOr))) with
    | false => exact iteF (iteF ⟨_, rfl, _, rfl, other HS n kSp potS (by omega)⟩)
    | true =>
    refine iteT ?_
    refine ⟨_, rfl, p, n, 4, rfl, potS, by omega, by decide, by decide, fun d1 H1 d10 d11 hk1 pot1 => ?_⟩
    have k1 := keep_of_dig hk1
    have kH1 := kSp.trans k1
    refine ⟨_, _, rfl, rfl, _, rfl, ?_⟩
    by_cases c1 : (0 : Int) < d1
    case neg =>
      rw [decide_eq_false c1]
      exact iteF ⟨_, rfl, _, rfl, other H1 (n + 1) kH1 pot1 (Nat.le_refl _)⟩
    rw [decide_eq_true c1]
    refine iteT ?_
    have hq1 := kH1.at hq (nin1 nq)
    refine ⟨_, rfl, _, rfl, q, _, rfl, .inr (SqT.of hq1), _, _, rfl, rfl, p, n + 1, _, rfl, pot1, by omega, ?_, ?_, fun d2 H2 d20 d21 hk2 pot2 => ?_⟩
    · simp only [List.length_cons]; omega
    · have : r'.length ≤ 1 := by obtain ⟨_, r'', hh, _, _, _, l, _⟩ := rest_good t; rw [hr0] at hh; cases hh; exact l
      simp only [List.length_cons]; omega
    have k2 := keep_of_dig hk2
    have kH2 := kH1.trans k2
    have hq2 := kH2.at hq (nin1 nq)
    obtain ⟨i, rfl⟩ := Int.eq_ofNat_of_zero_le d20
    have hi : i < (y0 :: ys).length := by
      have := d21
      simp only [List.length_cons] at this ⊢
      omega
    obtain ⟨A, C, A', C', a, y, hus, hA, tA, tC, tay, oka, hda, gA, gC, dA, dC, hsz, lC, lA⟩ := kid_split (p := ex) hps ok hin ta hq hi
    rw [hus] at hq hq2
    have hxs : ∃ xs, H p = some (.lst xs) := ⟨_, ep0⟩
    refine ⟨_, _, rfl, rfl, _, rfl, ?_⟩
    dsimp only [tNoPart]
    refine ⟨_, rfl, _, rfl, ?_⟩
    refine slA_one hq2 fun c1 H3 k3 ec1 => ?_
    have ecut : cutV (.str (wordT t) :: (A' ++ y :: C')) none (some (1 + (i : Int))) = .str (wordT t) :: A' := by
      rw [show (1 + (i : Int)) = ((i + 1 : Nat) : Int) by omega, cut_to (by simp only [List.length_cons, List.length_append]; omega), List.take_succ_cons, ← hA, List.take_left]
    rw [ecut] at ec1
    have pot3 := pot2.keep k3 nin0
    have hq3 := k3.at hq2 nin0
    have kH3 := kH2.trans (k3.more fun b z => absurd z nin0)
    have hat : atI (V.str (wordT t) :: (A' ++ y :: C')) (1 + (i : Int)) = some y := by
      rw [show (1 + (i : Int)) = ((i + 1 : Nat) : Int) by omega]
      exact atI_nat (by rw [List.getElem?_cons_succ, ← hA, List.getElem?_append_right (Nat.le_refl _), Nat.sub_self]; rfl)
    refine ⟨_, rfl, _, rfl, _, rfl, q, _, _, y, rfl, rfl, SqT.of hq3, hat, _, rfl, _, _, rfl, rfl, p, ex, n + 2, y, a, ps, dp - 1, ?_, by omega, pot3, by omega, tay.keepP kH3 pot, oka, hps, hpe, ex_keep hex kH3 pot3, fun H4 u m k4 gu po4 hm => ?_⟩
    · show [V.ref p, y, V.int ((dp : Int) - 1)] = _
      rw [show ((dp : Int) - 1) = ((dp - 1 : Nat) : Int) by omega]
    refine ⟨(by show 1 ≤ sizeLine; decide), fun b hb => ?_⟩
    have kb : Keep [] H4 (upd H4 b (.tup [u])) := Keep.new hb
    have eb : (upd H4 b (.tup [u])) b = some (.tup [u]) := upd_same
    generalize (upd H4 b (.tup [u])) = H5 at kb eb ⊢
    obtain ⟨x3, ep3⟩ := pot3.some
    have nc1 : c1 ≠ p := ne_of ec1 ep3 (fun z => by cases z)
    have ec5 := kb.at (k4.at ec1 (nin1 nc1)) nin0
    refine cat_ok ec5 eb (by simp) (by simp) (by simp only [List.length_cons, List.length_nil]; omega) fun c2 hc2 => ?_
    have kc : Keep [] H5 (upd H5 c2 (.tup (.str (wordT t) :: A' ++ [u]))) := Keep.new hc2
    have ec2 : (upd H5 c2 (.tup (.str (wordT t) :: A' ++ [u]))) c2 = some (.tup (.str (wordT t) :: A' ++ [u])) := upd_same
    generalize (upd H5 c2 (.tup (.str (wordT t) :: A' ++ [u]))) = H6 at kc ec2 ⊢
    have kH6 := ((kH3.trans k4).trans (kb.more fun b z => absurd z nin0)).trans (kc.more fun b z => absurd z nin0)
    refine ⟨_, rfl, _, rfl, _, _, rfl, rfl, _, rfl, ?_⟩
    dsimp only [tNoPart]
    refine slA_one (kH6.at hq (nin1 nq)) fun c3 H7 k7 ec3 => ?_
    have ecut2 : cutV (.str (wordT t) :: (A' ++ y :: C')) (some (1 + (i : Int) + 1)) none = C' := by
      rw [show (1 + (i : Int) + 1) = ((i + 2 : Nat) : Int) by omega, cut_from (by simp only [List.length_cons, List.length_append]; omega), List.drop_succ_cons, ← hA, List.drop_append, Nat.add_sub_cancel_left, List.drop_of_length_le (by omega)]
      rfl
    rw [ecut2] at ec3
    refine catA_ok (k7.at ec2 nin0) ec3 (by simp) (by simp only [List.length_append, List.length_cons, List.length_nil]; omega) fun c4 H8 k8 ec4 => ?_
    have kt := k7.trans k8
    have kH8 := kH6.trans (kt.more fun b z => absurd z nin0)
    have k48 := (kb.trans kc).trans kt
    obtain ⟨x, tx, gx, dx, zx⟩ := gu.keep0 k48
    obtain ⟨_, _, _, a4⟩ := good_th a
    refine kk H8 (.ref c4) m kH8 (gtp (l := .flat (.str (wordT t)) :: A ++ [x] ++ C) ec4 (ths_app (ths_app (tc (fl_at (v := .str (wordT t)) wTx) (tA.keepP hpe kH8 hxs)) (tc tx t0)) (tC.keepP hpe kH8 hxs)) ?_ ?_ ?_) (po4.keep k48 nin0) (by omega)
    · rw [List.cons_append, List.cons_append]
      simp only [gdl]
      rw [gds_app, gds_app]
      simp [gds, pl, gA, gC, gx]
    · rw [dps_app, dps_app]
      simp only [Th.dps, Th.dp]
      omega
    · rw [szs_app, szs_app]
      simp only [Th.szs, Th.sz]
      omega
end
end Fs
/-! Program and law say alike of a thing. -/
namespace Fs
open PySem L2 TL
abbrev sRi : Stmt := top 24 --def _law_right
abbrev nRi : List Str := ["_law_kinds_here", "_law_sorts", "_law_thing", "_law_found"]
abbrev aRi : List Str := ["_law_kinds_here", "_law_sorts", "_law_thing"]
theorem scRi : FnScope nRi aRi (defScope sRi) := ⟨rfl, rfl, rfl, by decide +kernel, rfl, by decide +kernel, by decide +kernel⟩
def spRi (CK : Addr) : Sp := fun vs H Q _ => ∃ (p : List Addr) (kd l : Addr) (v : V) (t : Th) (ps : List (Str × Str)) (ss : List Str), vs = [.ref kd, .ref l, v] ∧ KindsAt CK H kd ps ∧ H l = some (.lst (ss.map V.str)) ∧ ThAt p H t v ∧ gd t = true ∧ t.dp < 16 ∧ t.sz ≤ 9000 ∧ (∀ z, z ∈ ss ↔ z ∈ allK ps) ∧ ∀ H', Keep [] H H' → Q (.bl true) H'
section
variable {P : Program} {w : World} {K : PySem.W.Frag} {mg : Str → Option Value} {base : Heap} {CK fTe fLt : Addr}
theorem ok_ri {f : Addr} {fd dT dL : FuncData} (F : Fun K "_law_right" "_law_right" sRi f fd) (FT : FnOk P w K mg base CX0 4 fTe dT ["kinds", "thing"] (spTeT CK)) (bT : Binds K dT ["kinds", "thing"] []) (gT : mg "is_test" = some (.ref fTe)) (kT : PySem.W.keepIn K (.ref fTe) = true)
    (FL : FnOk P w K mg base CX0 17 fLt dL ["_law_sorts", "_law_thing"] (spLt 16)) (bL : Binds K dL ["_law_sorts", "_law_thing"] []) (gL : mg "_law_is_test" = some (.ref fLt)) (kL : PySem.W.keepIn K (.ref fLt) = true) (mI : mg "isinstance" = none) (mB : mg "bool" = none) :
    FnOk P w K mg base CX0 18 f fd aRi (spRi CK) := by
  refine F.ok scRi (fun vs H Q E h => ?_) (fun cdv A outer s H vs Q E hr h => ?_)
  · obtain ⟨p, kd, l, v, t, ps, ss, rfl, _⟩ := h
    rfl
  · obtain ⟨p, kd, l, v, t, ps, ss, rfl, hK, hl, ta, hg, hd, hs, hss, kk⟩ := h
    have hr4 : Room 4 _ := hr.mono (by omega)
    refine ⟨_, pss_cons (ps_set (i := 3) scRi.nd rfl (Or.inl rfl) (pe_call FT hr4 rfl gT kT bT .nil pass0 (pa_cons (pv 0) (pa_cons (pv 2) pa_nil))))
      (pss_one (ps_ret (pe_and (pe_callB call_isi (by rfl) mI (by decide +kernel) (pa_cons (pv 3) (pa_cons (pe_bltn (v := .ty "bool") (u := .type "bool") (by rfl) mB (by decide +kernel) rfl) pa_nil)))
        (pe_one (pe_cmpR op_eq (pv 3) (pe_call FL hr rfl gL kL bL .nil pass0 (pa_cons (pv 1) (pa_cons (pv 2) pa_nil))) (nomark _)))))), ?_⟩
    refine ⟨_, rfl, _, rfl, p, kd, v, ps, t, rfl, hK, ta, hs, fun H1 k1 => ?_⟩
    refine ⟨_, rfl, _, _, _, _, _, rfl, .ty "bool", .base (.bl _), kit_ty (r := true) (by decide +kernel), _, rfl, iteT ?_⟩
    refine ⟨_, rfl, _, rfl, _, rfl, p, l, t, v, ps, ss, rfl, hd, k1.at hl nin0, ta.keep0 k1, hg, hss, fun H2 k2 => ?_⟩
    refine ⟨rfl, ?_⟩
    rw [decide_eq_true rfl]
    exact kk H2 (k1.trans k2)
end
end Fs
/-! A round: what it needs. -/
namespace Fs
open PySem L2 TL
theorem nm_tx {z : Str} (h : IsNm z) : IsTx z := by
  obtain ⟨_, a, b⟩ := h
  refine ⟨by omega, fun c hc => ?_⟩
  have := b c hc
  unfold small at this
  simp only [Bool.and_eq_true, decide_eq_true_eq] at this
  omega
theorem allK_tx {ps : List (Str × Str)} (h : Wf ps) : ∀ x ∈ allK ps, IsTx x := by
  have base : IsTx sF ∧ IsTx sS := ⟨tx_go _ (by decide +kernel), tx_go _ (by decide +kernel)⟩
  have go : ∀ x ∈ ps.map Prod.fst, IsTx x := by
    induction h with
    | nil => exact fun x hx => absurd hx List.not_mem_nil
    | snoc w n _ _ ih =>
      intro x hx
      rw [List.map_append] at hx
      rcases List.mem_append.mp hx with q | q
      · exact ih x q
      · rw [List.map_singleton] at q
        rw [List.mem_singleton.mp q]
        exact nm_tx n
  intro x hx
  rcases List.mem_cons.mp hx with q | q
  · rw [q]; exact base.1
  · rcases List.mem_cons.mp q with q | q
    · rw [q]; exact base.2
    · exact go x q
theorem Wf.take {ps : List (Str × Str)} (h : Wf ps) (k : Nat) : Wf (ps.take k) := by
  induction h with
  | nil => rw [List.take_nil]; exact .nil
  | @snoc ps z y w n a b ih =>
    by_cases hk : k ≤ ps.length
    · rw [List.take_append_of_le_length hk]; exact ih
    · rw [List.take_of_length_le (by rw [List.length_append, List.length_singleton]; omega)]
      exact .snoc w n a b
theorem isP_ok {ps : List (Str × Str)} {t : Ts} (ok : t.Ok ps) : isP ps (thOf t) = true := by
  induction t with
  | one w x =>
    rw [show thOf (.one w x) = .tup [.flat (.str w), .flat (.str x)] from by simp only [thOf]]
    show isP ps (.tup [.flat (.str w), .flat (.str x)]) = true
    simp only [isP]
    have e2 : ∀ {w : Str}, (w ≠ wNot ∧ ¬ (w = wAnd ∨ w = wOr)) → isL ps [.flat (.str w), .flat (.str x)] = oneT ps w (.flat (.str x)) := fun h => isL_one ps h.1 h.2 _
    rcases ok with ⟨rfl, h⟩ | ⟨rfl | rfl, h⟩
    · rw [e2 (by decide +kernel), oneT_kind rfl]; exact decide_eq_true h
    · rw [e2 (by decide +kernel), oneT_not (by decide +kernel)]; rw [decide_eq_true rfl]; rfl
    · rw [e2 (by decide +kernel), oneT_not (by decide +kernel), decide_eq_true (show wNoted = wNoted from rfl), Bool.or_true]; rfl
  | not a ih =>
    simp only [thOf, isP]
    rw [isL_not]
    simp [allP, ih ok]
  | two w a b iha ihb =>
    obtain ⟨hw, oa, ob⟩ := ok
    simp only [thOf, isP]
    rw [isL_two ps hw]
    simp [allP, iha oa, ihb ob]
theorem GV.mono {p : List Addr} {D S D' S' : Nat} {G : Hp} {v : V} (h : GV p D S G v) (d : D ≤ D') (s : S ≤ S') : GV p D' S' G v := by
  obtain ⟨x, a, b, c, e⟩ := h
  exact ⟨x, a, b, by omega, by omega⟩
theorem gv_test {ps : List (Str × Str)} (hw : ∀ x ∈ allK ps, IsTx x) {t : Ts} (ok : t.Ok ps) {p : List Addr} {H : Hp} {v : V} (ta : TestAt H t v) : GV p (t.dp + 1) (3 * t.sz) H v := by
  obtain ⟨a, _, c, d⟩ := good_th t
  exact ⟨thOf t, tx_kind hw ok ta, a, by omega, d⟩
theorem Ts.sz_le {t : Ts} {d : Nat} (h : t.dp ≤ d) (hd : d ≤ 6) : t.sz ≤ 128 := by
  have h1 := Ts.sz_dp t
  have h2 : (2 : Nat) ^ (t.dp + 1) ≤ 2 ^ 7 := Nat.pow_le_pow_right (by decide) (by omega)
  omega
theorem keep_test {H H' : Hp} {Pt : Addr} {tb : Array Value} {ex : List Addr} {t : Ts} {v : V} (h : TestAt H t v) (k : Keep ex H H') (hx : ∀ b ∈ ex, ∃ o, H b = some o ∧ ∀ xs, o ≠ .tup xs) : TestAt H' t v :=
  h.map fun a xs e => k.tup hx e
abbrev sRnd : Stmt := top 25 --def _law_round
abbrev nRnd : List Str := ["_law_pot_here", "_law_pairs", "_law_texts_here", "_law_test_here", "_law_small", "_law_handed", "_law_kinds_here", "_law_few", "_law_sorts", "_law_things", "_law_thing", "_law_name_here", "_law_above", "_law_turn"]
theorem scRnd : FnScope nRnd ["_law_pot_here"] (defScope sRnd) := ⟨rfl, rfl, rfl, by decide +kernel, rfl, by decide +kernel, by decide +kernel⟩
structure RDx (K : PySem.W.Frag) (mg : Str → Option Value) (CK fI fK fT fTs fDg fSp fRi fTe : Addr) : Prop where
  gC : mg "Kinds" = some (.ref CK)
  mkK : Mk K CK fI
  gK : mg "_law_kinds" = some (.ref fK)
  kK : PySem.W.keepIn K (.ref fK) = true
  gT : mg "_law_texts" = some (.ref fT)
  kT : PySem.W.keepIn K (.ref fT) = true
  gTs : mg "_law_test" = some (.ref fTs)
  kTs : PySem.W.keepIn K (.ref fTs) = true
  gDg : mg "_law_digit" = some (.ref fDg)
  kDg : PySem.W.keepIn K (.ref fDg) = true
  gSp : mg "_law_spoilt" = some (.ref fSp)
  kSp : PySem.W.keepIn K (.ref fSp) = true
  gRi : mg "_law_right" = some (.ref fRi)
  kRi : PySem.W.keepIn K (.ref fRi) = true
  gTe : mg "is_test" = some (.ref fTe)
  kTe : PySem.W.keepIn K (.ref fTe) = true
  list : mg "list" = none
  range : mg "range" = none
end Fs
/-! A round: its end. -/
namespace Fs
open PySem L2 TL
/-- what the second half of a round needs -/
structure Mid (p l X Pt : Addr) (H G : Hp) (ps : List (Str × Str)) (t t2 : Ts) (v v2 : V) (n : Nat) : Prop where
  hP : PairsAt G l ps
  hw : Wf ps
  len : ps.length ≤ 6
  nlp : l ≠ p
  pot : PotAt G p n
  hn : n ≤ 5000
  ta : TestAt G t v
  ok : t.Ok ps
  hd : t.dp ≤ 6
  ta2 : TestAt G t2 v2
  ok2 : t2.Ok ps
  hd2 : t2.dp ≤ 6
  keep : Keep [p, Pt] H G
  tab : GxR.TabG G Pt
section
variable {P : Program} {w : World} {K : PySem.W.Frag} {mg : Str → Option Value} {base : Heap} {CK fI fK fT fTs fDg fSp fRi fTe Pt : Addr}
/-- the walk over the things and what is told at last -/
theorem rnd_end {f : Addr} {dRi dTe : FuncData} (T : RDx K mg CK fI fK fT fTs fDg fSp fRi fTe)
    (FRi : FnOk P w K mg base CX0 18 fRi dRi aRi (spRi CK)) (bRi : Binds K dRi aRi []) (FTe : FnOk P w K mg base CX0 4 fTe dTe ["kinds", "thing"] (spTeT CK)) (bTe : Binds K dTe ["kinds", "thing"] [])
    (cdv : Value) (A0 : Around) (outer : List Env) (s : Shared) (H : Hp) (Es : XK) (hr : Room 18 (A0.deeper (PyProof.Rows.envOfC "_law_round" (defScope sRnd) s.heap.objs.size f cdv))) :
    ∃ t, PSs (cxOf CX0 P w K mg base nRnd "_law_round" (defScope sRnd) f cdv A0 outer s H Es).nox ((defBody sRnd).drop 14) t ∧ ∀ (De : Ends) (G : Hp) (ex : List Addr) (p kd kd2 S L : Addr) (ps : List (Str × Str)) (ts : Ts) (v : V) (vs : List V) (w1 w2 w4 w5 w10 w11 w12 w13 : Option V),
      KindsAt CK G kd ps → KindsAt CK G kd2 (ps.take 1) → G S = some (.lst ((allK ps).map V.str)) → TestAt G ts v → ts.Ok ps → ts.dp ≤ 6 → (∀ x ∈ allK ps, IsTx x) → G L = some (.lst vs) → AG ex 15 9000 G vs → (∀ G', Keep [] G G' → De.rt (.bl true) G') →
      t De [some (.ref p), w1, w2, some v, w4, w5, some (.ref kd), some (.ref kd2), some (.ref S), some (.ref L), w10, w11, w12, w13] G := by
  have hr4 : Room 4 _ := hr.mono (by decide)
  refine ⟨_, pss_cons (ps_for PassesOwn.never rfl (pi_list (pv 9)) (pg_name (i := 10) scRnd.nd rfl (Or.inl rfl))
      (pss_one (ps_if (PW.pt (pw_or (pt_not (pt_val (pe_call FRi hr rfl T.gRi T.kRi bRi .nil pass0 (pa_cons (pv 6) (pa_cons (pv 8) (pa_cons (pv 10) pa_nil)))))) (pw_or1 (pt_not (pt_val (pe_call FRi hr rfl T.gRi T.kRi bRi .nil pass0 (pa_cons (pv 7) (pa_cons (pe_slice sl_list (pv 8) po_none (po_some pe_int)) (pa_cons (pv 10) pa_nil)))))))))
        (pss_one (ps_ret pe_bl)) pss_nil)))
    (pss_one (ps_ret (pe_cmpR op_isBl (pe_call FTe hr4 rfl T.gTe T.kTe bTe .nil pass0 (pa_cons (pv 6) (pa_cons (pv 3) pa_nil))) pe_bl (nomark _)))), ?_⟩
  intro De G ex p kd kd2 S L ps ts v vs w1 w2 w4 w5 w10 w11 w12 w13 k1 k2 eS ta ok hd htx eL ag kk
  refine ⟨_, rfl, L, rfl, ⟨_, SqL.of eL⟩, ?_⟩
  refine for_list (K := K) (a := L) (xs := vs) (fun i σ G' => ∃ v10 : Option V, σ = [some (.ref p), w1, w2, some v, w4, w5, some (.ref kd), some (.ref kd2), some (.ref S), some (.ref L), v10, w11, w12, w13] ∧ Keep [] G G') ⟨w10, rfl, Keep.refl _ _⟩ (fun i σ G' _ hI => by
    obtain ⟨v10, rfl, kG⟩ := hI
    exact SqL.of (kG.at eL nin0)) ?_ ?_
  · rintro i x σ G' hx ⟨v10, rfl, kG⟩
    obtain ⟨th, a, b, c, d⟩ := (ag x (List.mem_of_getElem? hx)).keep0 kG
    refine ⟨_, rfl, _, rfl, _, rfl, ex, kd, S, x, th, ps, allK ps, rfl, k1.keep0 kG, kG.at eS nin0, a, b, by omega, d, fun z => Iff.rfl, fun G2 kG2 => ?_⟩
    refine ⟨_, rfl, iteF ?_⟩
    have kk2 := kG.trans kG2
    refine ⟨_, rfl, _, rfl, ?_⟩
    dsimp only [tNoPart]
    refine ⟨_, rfl, S, _, rfl, SqL.of (kk2.at eS nin0), fun M hM => ?_⟩
    have kM : Keep [] G2 (upd G2 M (.lst (cutV ((allK ps).map V.str) none (some 3)))) := Keep.new hM
    have eM : (upd G2 M (.lst (cutV ((allK ps).map V.str) none (some 3)))) M = some (.lst ((allK (ps.take 1)).map V.str)) := by
      rw [upd_same]
      congr 2
      show cutV _ none (some ((3 : Nat) : Int)) = _
      cases ps with
      | nil => rfl
      | cons x r =>
        rw [cut_to (by simp)]
        rfl
    generalize (upd G2 M (.lst (cutV ((allK ps).map V.str) none (some 3)))) = G3 at kM eM ⊢
    have k3 := kk2.trans kM
    refine ⟨_, rfl, ex, kd2, M, x, th, ps.take 1, allK (ps.take 1), rfl, k2.keep0 k3, eM, a.keep0 (kG2.trans kM), b, by omega, d, fun z => Iff.rfl, fun G4 k4 => ?_⟩
    exact ⟨_, rfl, iteF ⟨_, rfl, k3.trans k4⟩⟩
  · rintro σ G' ⟨v10, rfl, kG⟩
    obtain ⟨g1, g2, g3, g4⟩ := good_th ts
    have hsz := Ts.sz_le hd (by decide)
    refine ⟨_, rfl, _, rfl, ex, kd, v, ps, thOf ts, rfl, k1.keep0 kG, (tx_kind htx ok ta).keep0 kG, by omega, fun G2 kG2 => ?_⟩
    rw [isP_ok ok]
    exact ⟨true, true, rfl, rfl, kk G2 (kG.trans kG2)⟩
end
end Fs
/-! A round: its middle. -/
namespace Fs
open PySem L2 TL
theorem keep_late {H H1 H2 : Hp} {Pt : Addr} {ex : List Addr} (k : Keep [Pt] H H1) (k2 : Keep ex H1 H2) (hx : ∀ b ∈ ex, b = Pt ∨ H b = none) : Keep [Pt] H H2 := fun b o hb e => k2 b o (fun z => by
  rcases hx b z with q | q
  · exact hb (by rw [q]; exact List.mem_singleton_self _)
  · rw [q] at e; cases e) (k b o hb e)
structure Md (p l Pt : Addr) (ps : List (Str × Str)) (t t2 : Ts) (v v2 : V) (n : Nat) (G : Hp) : Prop where
  hP : PairsAt G l ps
  pot : PotAt G p n
  ta : TestAt G t v
  ta2 : TestAt G t2 v2
  tab : GxR.TabG G Pt
def nT (H : Hp) (ex : List Addr) : Prop := ∀ b ∈ ex, ∃ o, H b = some o ∧ ∀ xs, o ≠ .tup xs
theorem nT0 {H : Hp} : nT H [] := fun b z => absurd z nin0
theorem nTL {H : Hp} {a : Addr} {xs : List V} (h : H a = some (.lst xs)) : nT H [a] := fun b z => by rw [List.mem_singleton.mp z]; exact ⟨_, h, (fun _ z => by cases z)⟩
theorem Md.by {p l Pt : Addr} {ps : List (Str × Str)} {t t2 : Ts} {v v2 : V} {n m : Nat} {G G' : Hp} {ex : List Addr} (M : Md p l Pt ps t t2 v v2 n G) (k : Keep ex G G') (hx : nT G ex) (hl : l ∉ ex) (pot : PotAt G' p m) (tab : GxR.TabG G' Pt) : Md p l Pt ps t t2 v v2 m G' :=
  ⟨M.hP.keep k hl hx, pot, M.ta.map fun a xs e => k.tup hx e, M.ta2.map fun a xs e => k.tup hx e, tab⟩
theorem tabK {Pt : Addr} {ex : List Addr} {G G' : Hp} (h : GxR.TabG G Pt) (k : Keep ex G G') (n : Pt ∉ ex) : GxR.TabG G' Pt := by
  obtain ⟨tb, e, o⟩ := h
  exact ⟨tb, k.at e n, o⟩
theorem Md.k0 {p l Pt : Addr} {ps : List (Str × Str)} {t t2 : Ts} {v v2 : V} {n : Nat} {G G' : Hp} (M : Md p l Pt ps t t2 v v2 n G) (k : Keep [] G G') : Md p l Pt ps t t2 v v2 n G' :=
  M.by k nT0 nin0 (M.pot.keep k nin0) (tabK M.tab k nin0)
theorem Md.pT {p l Pt : Addr} {ps : List (Str × Str)} {t t2 : Ts} {v v2 : V} {n : Nat} {G : Hp} (M : Md p l Pt ps t t2 v v2 n G) : p ≠ Pt := fun z => by
  obtain ⟨x, e⟩ := M.pot.some
  obtain ⟨tb, e2, _⟩ := M.tab
  rw [z, e2] at e; cases e
theorem Md.pl {p l Pt : Addr} {ps : List (Str × Str)} {t t2 : Ts} {v v2 : V} {n : Nat} {G : Hp} (M : Md p l Pt ps t t2 v v2 n G) (h : l ≠ p) {G' : Hp} {m : Nat} (k : Keep [p] G G') (pot : PotAt G' p m) : Md p l Pt ps t t2 v v2 m G' := by
  obtain ⟨x, e⟩ := M.pot.some
  exact M.by k (nTL e) (nin1 h) pot (tabK M.tab k (nin1 M.pT.symm))
theorem kin_list {CK kd a : Addr} {H H' : Hp} {ps : List (Str × Str)} {xs : List V} (h : KindsAt CK H kd ps) (k : Keep [a] H H') (e : H a = some (.lst xs)) : KindsAt CK H' kd ps :=
  h.keep k fun b z => by rw [List.mem_singleton.mp z]; exact ⟨_, e, (fun _ _ _ z => by cases z), (fun _ z => by cases z)⟩
theorem kin_tab {CK kd a : Addr} {H H' : Hp} {ps : List (Str × Str)} {tb : Array Value} (h : KindsAt CK H kd ps) (k : Keep [a] H H') (e : H a = some (.tbl tb)) : KindsAt CK H' kd ps :=
  h.keep k fun b z => by rw [List.mem_singleton.mp z]; exact ⟨_, e, (fun _ _ _ z => by cases z), (fun _ z => by cases z)⟩
mutual
theorem ThAt.add {ex : List Addr} {L : Addr} {H : Hp} (n : H L = none) : ∀ {t : Th} {v : V}, ThAt ex H t v → ThAt (L :: ex) H t v
  | .flat u, v, h => by simp only [ThAt] at h ⊢; exact h
  | .lis z, v, h => by
    simp only [ThAt] at h ⊢
    obtain ⟨a, e, m, g, t⟩ := h
    exact ⟨a, e, (fun z => by
      rcases List.mem_cons.mp z with q | q
      · rw [q, n] at g; cases g
      · exact m q), g, t⟩
  | .box, v, h => by
    simp only [ThAt] at h ⊢
    obtain ⟨a, e, m, g⟩ := h
    refine ⟨a, e, fun z => ?_, g⟩
    rcases List.mem_cons.mp z with q | q
    · rw [q, n] at g
      rcases g with ⟨ys, g⟩ | ⟨ys, g⟩ <;> cases g
    · exact m q
  | .tup l, v, h => by
    simp only [ThAt] at h ⊢
    obtain ⟨a, ys, e, g, t⟩ := h
    exact ⟨a, ys, e, g, ThsAt.add n t⟩
theorem ThsAt.add {ex : List Addr} {L : Addr} {H : Hp} (n : H L = none) : ∀ {l : List Th} {ys : List V}, ThsAt ex H l ys → ThsAt (L :: ex) H l ys
  | [], [], _ => by simp only [ThsAt]
  | x :: l, y :: ys, h => by
    simp only [ThsAt] at h ⊢
    exact ⟨ThAt.add n h.1, ThsAt.add n h.2⟩
  | [], _ :: _, h => by simp only [ThsAt] at h
  | _ :: _, [], h => by simp only [ThsAt] at h
end
theorem AG.add {ex : List Addr} {L : Addr} {D S : Nat} {H : Hp} {vs : List V} (h : AG ex D S H vs) (n : H L = none) : AG (L :: ex) D S H vs := fun v hv => by
  obtain ⟨x, a, b⟩ := h v hv
  exact ⟨x, a.add n, b⟩
theorem gv_test2 {ps : List (Str × Str)} (hw : ∀ x ∈ allK ps, IsTx x) {t : Ts} (ok : t.Ok ps) {p : List Addr} {H : Hp} {v : V} (ta : TestAt H t v) : GV p (t.dp + 1) (thOf t).sz H v := by
  obtain ⟨a, _, c, d⟩ := good_th t
  exact ⟨thOf t, tx_kind hw ok ta, a, by omega, Nat.le_refl _⟩
theorem gv_two {ex : List Addr} {D S : Nat} {G : Hp} {u1 u2 : V} {a : Addr} {w : Str} (h1 : GV ex D S G u1) (h2 : GV ex D S G u2) (e : G a = some (.tup [.str w, u1, u2])) (tw : IsTx w) : GV ex (D + 1) (2 * S + 2) G (.ref a) := by
  obtain ⟨x, a1, b1, c1, d1⟩ := h1
  obtain ⟨y, a2, b2, c2, d2⟩ := h2
  exact gtp e (tc (fl_at (v := .str w) tw) (tc a1 (tc a2 t0))) (by simp [gdl, gds, gd, pl, b1, b2]) (by simp only [Th.dps, Th.dp]; omega) (by simp only [Th.szs, Th.sz]; omega)
/-- while things are gathered -/
structure Ph (p l Pt CK kd kd2 S L : Addr) (ps : List (Str × Str)) (t1 t2 : Ts) (v v2 : V) (ex : List Addr) (G0 : Hp) (xs : List V) (n : Nat) (G : Hp) : Prop where
  md : Md p l Pt ps t1 t2 v v2 n G
  k1 : KindsAt CK G kd ps
  k2 : KindsAt CK G kd2 (ps.take 1)
  eS : G S = some (.lst ((allK ps).map V.str))
  eL : G L = some (.lst xs)
  ag : AG ex 15 9000 G xs
  keep : Keep [p, Pt] G0 G
  old : ∀ b ∈ ex, ∃ o, G b = some o
  nL : G0 L = none
  nLp : L ≠ p
  nlp : l ≠ p
  nlL : l ≠ L
  nSp : S ≠ p
  nSL : S ≠ L
  nPL : Pt ≠ L
  hp : p ∈ ex
  hL : L ∈ ex
section
variable {p l Pt CK kd kd2 S L : Addr} {ps : List (Str × Str)} {t1 t2 : Ts} {v v2 : V} {ex : List Addr} {G0 : Hp} {xs : List V} {n : Nat} {G : Hp}
theorem Ph.k0 (h : Ph p l Pt CK kd kd2 S L ps t1 t2 v v2 ex G0 xs n G) {G' : Hp} (k : Keep [] G G') : Ph p l Pt CK kd kd2 S L ps t1 t2 v v2 ex G0 xs n G' :=
  ⟨h.md.k0 k, h.k1.keep0 k, h.k2.keep0 k, k.at h.eS nin0, k.at h.eL nin0, h.ag.keep0 k, h.keep.trans (k.more fun b z => absurd z nin0), fun b hb => by obtain ⟨o, e⟩ := h.old b hb; exact ⟨o, k.at e nin0⟩, h.nL, h.nLp, h.nlp, h.nlL, h.nSp, h.nSL, h.nPL, h.hp, h.hL⟩
theorem Ph.call (h : Ph p l Pt CK kd kd2 S L ps t1 t2 v v2 ex G0 xs n G) {G' : Hp} {m : Nat} (k : Keep [p] G G') (pot : PotAt G' p m) : Ph p l Pt CK kd kd2 S L ps t1 t2 v v2 ex G0 xs m G' := by
  obtain ⟨x, e⟩ := h.md.pot.some
  exact ⟨h.md.pl h.nlp k pot, kin_list h.k1 k e, kin_list h.k2 k e, k.at h.eS (nin1 h.nSp), k.at h.eL (nin1 h.nLp), h.ag.keepP h.hp k ⟨_, e⟩, h.keep.trans (k.more fun b z => by rw [List.mem_singleton.mp z]; exact List.mem_cons_self), ex_keep h.old k pot, h.nL, h.nLp, h.nlp, h.nlL, h.nSp, h.nSL, h.nPL, h.hp, h.hL⟩
theorem Ph.app (h : Ph p l Pt CK kd kd2 S L ps t1 t2 v v2 ex G0 xs n G) {y : V} (g : GV ex 15 9000 G y) : Ph p l Pt CK kd kd2 S L ps t1 t2 v v2 ex G0 (xs ++ [y]) n (upd G L (.lst (xs ++ [y]))) := by
  have k : Keep [L] G (upd G L (.lst (xs ++ [y]))) := Keep.own (List.mem_singleton_self _)
  refine ⟨h.md.by k (nTL h.eL) (nin1 h.nlL) (h.md.pot.keep k (nin1 h.nLp.symm)) (tabK h.md.tab k (nin1 h.nPL)), kin_list h.k1 k h.eL, kin_list h.k2 k h.eL, k.at h.eS (nin1 h.nSL), upd_same, (h.ag.app (AG.cons g AG.nil)).keepP h.hL k ⟨_, h.eL⟩, h.keep.freshTo h.nL, fun b hb => ?_, h.nL, h.nLp, h.nlp, h.nlL, h.nSp, h.nSL, h.nPL, h.hp, h.hL⟩
  by_cases z : b = L
  · exact ⟨_, by rw [z]; exact upd_same⟩
  · obtain ⟨o, e⟩ := h.old b hb
    exact ⟨o, k.at e (nin1 z)⟩
end
section
variable {P : Program} {w : World} {K : PySem.W.Frag} {mg : Str → Option Value} {base : Heap} {CK fI fK fT fTs fDg fSp fRi fTe Pt : Addr}
/-- Kinds(..), of a list of pairs -/
theorem make_kinds {H : Hp} {l2 : Addr} {ps : List (Str × Str)} {R : VK} {Ex : XK} (hP : PairsAt H l2 ps) (hw : Wf ps) (hps : ps.length ≤ 30) (hT : GxR.TabG H Pt) (kd kx : Addr) (nkd : H kd = none) (nkx : H kx = none)
    (q : ∀ H', Keep [Pt] H H' → GxR.TabG H' Pt → KindsAt CK H' kd ps → R .non H') : spKInit CK Pt [.ref kd, .ref l2] (upd (upd H kx (.own kd)) kd (.ins CK kx [])) R Ex := by
  have k4 : Keep [] H (upd (upd H kx (.own kd)) kd (.ins CK kx [])) := fun b o _ e => by
    rw [upd_ne (ne_of_none e nkd), upd_ne (ne_of_none e nkx)]
    exact e
  have e4 : (upd (upd H kx (.own kd)) kd (.ins CK kx [])) kd = some (.ins CK kx []) := upd_same
  generalize (upd (upd H kx (.own kd)) kd (.ins CK kx [])) = H4 at k4 e4 ⊢
  refine ⟨kd, l2, kx, ps, rfl, e4, hP.keep k4 nin0 (fun b z => absurd z nin0), hw, hps, tabK hT k4 nin0, fun H5 k5 K5 T5 => ?_⟩
  refine q H5 ?_ T5 K5
  have k4T : Keep [Pt] H H4 := k4.more fun b z => absurd z nin0
  exact keep_late k4T k5 fun b hb => by
    rcases List.mem_cons.mp hb with z | z
    · exact .inr (by rw [z]; exact nkd)
    · exact .inl (List.mem_singleton.mp z)
theorem rnd_mid {f : Addr} {dI dRi dTe dSp : FuncData} (T : RDx K mg CK fI fK fT fTs fDg fSp fRi fTe)
    (FI : FnOk P w K mg base CX0 4 fI dI ["self", "pairs"] (spKInit CK Pt)) (bI : Binds K dI ["self", "pairs"] [])
    (FS : FnOk P w K mg base CX0 10 fSp dSp aSpo (spSpo 8)) (bS : Binds K dSp aSpo [])
    (FRi : FnOk P w K mg base CX0 18 fRi dRi aRi (spRi CK)) (bRi : Binds K dRi aRi []) (FTe : FnOk P w K mg base CX0 4 fTe dTe ["kinds", "thing"] (spTeT CK)) (bTe : Binds K dTe ["kinds", "thing"] [])
    (cdv : Value) (A0 : Around) (outer : List Env) (s : Shared) (H : Hp) (Es : XK) (hr : Room 18 (A0.deeper (PyProof.Rows.envOfC "_law_round" (defScope sRnd) s.heap.objs.size f cdv))) :
    ∃ t, PSs (cxOf CX0 P w K mg base nRnd "_law_round" (defScope sRnd) f cdv A0 outer s H Es).nox ((defBody sRnd).drop 5) t ∧ ∀ (De : Ends) (G : Hp) (p l : Addr) (ps : List (Str × Str)) (t1 t2 : Ts) (v v2 : V) (n : Nat) (w2 w5 w6 w7 w8 w9 w10 w11 w12 w13 : Option V),
      Md p l Pt ps t1 t2 v v2 n G → Wf ps → ps.length ≤ 6 → l ≠ p → n ≤ 10000 → t1.Ok ps → t1.dp ≤ 6 → t2.Ok ps → t2.dp ≤ 6 → (∀ G', Keep [p, Pt] G G' → GxR.TabG G' Pt → De.rt (.bl true) G') →
      t De [some (.ref p), some (.ref l), w2, some v, some v2, w5, w6, w7, w8, w9, w10, w11, w12, w13] G := by
  have hr5 : Room 5 _ := hr.mono (by decide)
  have hr10 : Room 10 _ := hr.mono (by decide)
  obtain ⟨te, hte, rte⟩ := rnd_end (P := P) (w := w) (base := base) T FRi bRi FTe bTe cdv A0 outer s H Es hr
  refine ⟨_, pss_cons (ps_set (i := 5) scRnd.nd rfl (Or.inl rfl) (pe_callTy call_list_of (by rfl) T.list (by decide +kernel) (pa_cons (pv 1) pa_nil)))
    (pss_cons (ps_set (i := 6) scRnd.nd rfl (Or.inl rfl) (pe_make T.mkK FI hr5 rfl T.gC bI .nil pass0 (pa_cons (pv 5) pa_nil)))
    (pss_cons (ps_expr (pe_bm PySem.F.plainAttrs_list PySem.F.slot_list_append PySem.F.type_list_append mt_append (pv 5) (pa_cons (pe_tup (pa_cons pe_str (pa_cons pe_str pa_nil))) pa_nil)))
    (pss_cons (ps_set (i := 7) scRnd.nd rfl (Or.inl rfl) (pe_make T.mkK FI hr5 rfl T.gC bI .nil pass0 (pa_cons (pe_slice sl_list (pv 1) po_none (po_some pe_int)) pa_nil)))
    (pss_cons (ps_set (i := 8) scRnd.nd rfl (Or.inl rfl) (pe_op op_cat (pe_lst (pa_cons pe_str (pa_cons pe_str pa_nil))) (pe_lc (own := [("_law_name_here", 11), ("_law_above", 12)]) (g := gTup K 2 (gCons (gName 11) (gCons (gName 12) gNil))) (tt := tYes) (te := tVar 11) rfl scRnd.nd (pi_list (pv 1))
          (blkOk_by (N := nRnd) (sc := defScope sRnd) (by decide +kernel)) (fun _ _ _ _ _ => by exact (pg_tup rfl (pgs_cons (pg_name (i := 11) scRnd.nd rfl (Or.inl rfl)) (pgs_cons (pg_name (i := 12) scRnd.nd rfl (Or.inl rfl)) pgs_nil)))) (fun _ _ _ _ _ => pts_nil) (fun _ _ _ _ _ => pv 11))))
    (pss_cons (ps_set (i := 9) scRnd.nd rfl (Or.inl rfl) (pe_op op_cat (pe_lst (pa_cons (pv 3) (pa_cons (pv 4) pa_nil))) (pe_lc (own := [("_law_turn", 13)]) (g := gName 13) (tt := tYes) (te := tCall (spSpo 8) [] E0 (tCons (tVar 0) (tCons (tVar 3) (tCons (tC (.int 7)) tNil)))) rfl scRnd.nd (pi_range1 rfl T.range (pa_cons pe_int pa_nil))
          (blkOk_by (N := nRnd) (sc := defScope sRnd) (by decide +kernel)) (fun _ _ _ _ _ => pg_name (i := 13) scRnd.nd rfl (Or.inl rfl)) (fun _ _ _ _ _ => pts_nil) (fun _ _ _ _ _ => by exact (pe_call FS hr10 rfl T.gSp T.kSp bS .nil pass0 (pa_cons (pv 0) (pa_cons (pv 3) (pa_cons pe_int pa_nil))))))))
    (pss_cons (ps_expr (pe_bm PySem.F.plainAttrs_list PySem.F.slot_list_append PySem.F.type_list_append mt_append (pv 9) (pa_cons (pe_tup (pa_cons pe_str (pa_cons (pe_call FS hr10 rfl T.gSp T.kSp bS .nil pass0 (pa_cons (pv 0) (pa_cons (pv 4) (pa_cons pe_int pa_nil)))) (pa_cons (pe_call FS hr10 rfl T.gSp T.kSp bS .nil pass0 (pa_cons (pv 0) (pa_cons (pv 4) (pa_cons pe_int pa_nil)))) pa_nil)))) pa_nil)))
    (pss_cons (ps_expr (pe_bm PySem.F.plainAttrs_list PySem.F.slot_list_append PySem.F.type_list_append mt_append (pv 9) (pa_cons (pe_tup (pa_cons pe_str (pa_cons (pe_call FS hr10 rfl T.gSp T.kSp bS .nil pass0 (pa_cons (pv 0) (pa_cons (pv 4) (pa_cons pe_int pa_nil)))) (pa_cons (pv 4) pa_nil)))) pa_nil)))
    (pss_cons (ps_expr (pe_bm PySem.F.plainAttrs_list PySem.F.slot_list_append PySem.F.type_list_append mt_append (pv 9) (pa_cons (pv 3) pa_nil))) hte)))))))), ?_⟩
  intro De G p l ps t1 t2 v v2 n w2 w5 w6 w7 w8 w9 w10 w11 w12 w13 M hw h6 nlp hn ok1 hd1 ok2 hd2 kk
  have htx := allK_tx hw
  -- list(pairs)
  obtain ⟨as, el, tl⟩ := id M.hP
  refine ⟨_, rfl, l, _, rfl, .inl (SqL.of el), fun l2 hl2 => ?_⟩
  have k1 : Keep [] G (upd G l2 (.lst (as.map V.ref))) := Keep.new hl2
  have P1 : PairsAt (upd G l2 (.lst (as.map V.ref))) l2 ps := ⟨as, upd_same, tl.map fun a xs q => k1.at q nin0⟩
  have nl2 : ∀ {b o}, G b = some o → b ≠ l2 := fun e => ne_of_none e hl2
  have M1 := M.k0 k1
  have e1 : (upd G l2 (.lst (as.map V.ref))) l2 = some (.lst (as.map V.ref)) := upd_same
  generalize (upd G l2 (.lst (as.map V.ref))) = G1 at k1 P1 M1 e1 ⊢
  refine ⟨_, rfl, ?_⟩
  refine fun kd kx a1 a2 a3 => make_kinds P1 hw (by omega) M1.tab kd kx a1 a2 fun G2 k2 tab2 kin2 => ⟨rfl, ?_⟩
  clear a1 a2 a3 kx
  obtain ⟨tbx, eTx, _⟩ := M1.tab
  have hPt1 : ∀ {b o}, G1 b = some o → (∀ t, o ≠ .tbl t) → b ≠ Pt := fun e h z => by rw [z, eTx] at e; cases e; exact h _ rfl
  have nTT : nT G1 [Pt] := fun b z => by rw [List.mem_singleton.mp z]; exact ⟨_, eTx, (fun _ z => by cases z)⟩
  have M2 : Md p l Pt ps t1 t2 v v2 n G2 := by
    obtain ⟨x0, ep0⟩ := M1.pot.some
    obtain ⟨xs, el1⟩ := M1.hP.some
    exact M1.by k2 nTT (nin1 (hPt1 el1 (fun _ z => by cases z))) (M1.pot.keep k2 (nin1 (hPt1 ep0 (fun _ z => by cases z)))) tab2
  have e2 : G2 l2 = some (.lst (as.map V.ref)) := k2.at e1 (nin1 (hPt1 e1 (fun _ z => by cases z)))
  have kA2 : Keep [p, Pt] G G2 := (k1.more fun b z => absurd z nin0).trans (k2.more fun b z => by rw [List.mem_singleton.mp z]; exact List.mem_cons_of_mem _ (List.mem_singleton_self _))
  have nl2p : l2 ≠ p := fun z => by obtain ⟨x, e⟩ := M.pot.some; rw [z, e] at hl2; cases hl2
  have nll2 : l ≠ l2 := ne_of_none el hl2
  have nT2 : Pt ≠ l2 := by obtain ⟨tb, e, _⟩ := M.tab; exact ne_of_none e hl2
  clear hPt1 eTx nTT
  -- handed.append
  refine ⟨_, rfl, .inl ⟨rfl, _, SqL.of e2⟩, (by show 2 ≤ sizeLine; decide), fun a3 h3 => ?_⟩
  have k3 : Keep [] G2 (upd G2 a3 (.tup [.str "zzz", .str "fault"])) := Keep.new h3
  have M3 := M2.k0 k3
  have kin3 := kin2.keep0 k3
  have e3 := k3.at e2 nin0
  have kA3 := kA2.trans (k3.more fun b z => absurd z nin0)
  generalize (upd G2 a3 (.tup [.str "zzz", .str "fault"])) = G3 at k3 M3 kin3 e3 kA3 ⊢
  refine ⟨l2, _, _, rfl, rfl, e3, by rw [List.length_map]; exact Nat.lt_of_le_of_lt (by have := tl.len; omega : as.length ≤ 1000) (by decide), ?_⟩
  have k4 : Keep [l2] G3 (upd G3 l2 (.lst (as.map V.ref ++ [.ref a3]))) := Keep.own (List.mem_singleton_self _)
  have M4 : Md p l Pt ps t1 t2 v v2 n (upd G3 l2 (.lst (as.map V.ref ++ [.ref a3]))) := M3.by k4 (nTL e3) (nin1 nll2) (M3.pot.keep k4 (nin1 nl2p.symm)) (tabK M3.tab k4 (nin1 nT2))
  have kin4 := kin_list kin3 k4 e3
  have kA4 : Keep [p, Pt] G (upd G3 l2 (.lst (as.map V.ref ++ [.ref a3]))) := kA3.freshTo hl2
  generalize (upd G3 l2 (.lst (as.map V.ref ++ [.ref a3]))) = G4 at k4 M4 kin4 kA4 ⊢
  clear k4 k3 e3 e2 M3 kin3 kA3 M2 kin2 kA2 tab2 k2 e1 M1 P1 k1
  -- Kinds(pairs[:1])
  obtain ⟨as4, el4, tl4⟩ := id M4.hP
  refine ⟨_, rfl, ?_⟩
  dsimp only [tNoPart]
  refine ⟨_, rfl, l, _, rfl, SqL.of el4, fun l5 hl5 => ?_⟩
  have k5 : Keep [] G4 (upd G4 l5 (.lst (cutV (as4.map V.ref) none (some 1)))) := Keep.new hl5
  have P5 : PairsAt (upd G4 l5 (.lst (cutV (as4.map V.ref) none (some 1)))) l5 (ps.take 1) := by
    refine ⟨as4.take 1, ?_, ?_⟩
    · rw [upd_same]
      congr 2
      show cutV _ none (some ((1 : Nat) : Int)) = _
      cases as4 with
      | nil => rfl
      | cons a r => rw [cut_to (by simp)]; rfl
    · have := tl4.map (H' := upd G4 l5 (.lst (cutV (as4.map V.ref) none (some 1)))) fun a xs q => k5.at q nin0
      match as4, ps, this with
      | [], [], h => exact h
      | a :: r, x :: ps, h => exact ⟨h.1, True.intro⟩
  have M5 := M4.k0 k5
  have kin5 := kin4.keep0 k5
  have kA5 := kA4.trans (k5.more fun b z => absurd z nin0)
  generalize (upd G4 l5 (.lst (cutV (as4.map V.ref) none (some 1)))) = G5 at k5 P5 M5 kin5 kA5 ⊢
  refine fun kd2 kx a1 a2 a3 => make_kinds P5 (hw.take 1) (by rw [List.length_take]; omega) M5.tab kd2 kx a1 a2 fun G6 k6 tab6 kin6' => ⟨rfl, ?_⟩
  clear a1 a2 a3 kx
  obtain ⟨tbx, eTx, _⟩ := M5.tab
  have hPt1 : ∀ {b o}, G5 b = some o → (∀ t, o ≠ .tbl t) → b ≠ Pt := fun e h z => by rw [z, eTx] at e; cases e; exact h _ rfl
  have nTT : nT G5 [Pt] := fun b z => by rw [List.mem_singleton.mp z]; exact ⟨_, eTx, (fun _ z => by cases z)⟩
  have M6 : Md p l Pt ps t1 t2 v v2 n G6 := by
    obtain ⟨x0, ep0⟩ := M5.pot.some
    obtain ⟨xs, el1⟩ := M5.hP.some
    exact M5.by k6 nTT (nin1 (hPt1 el1 (fun _ z => by cases z))) (M5.pot.keep k6 (nin1 (hPt1 ep0 (fun _ z => by cases z)))) tab6
  have kin6 := kin_tab kin5 k6 eTx
  have kA6 : Keep [p, Pt] G G6 := kA5.trans (k6.more fun b z => by rw [List.mem_singleton.mp z]; exact List.mem_cons_of_mem _ (List.mem_singleton_self _))
  clear hPt1 eTx nTT k6 tab6 M5 kin5 kA5 k5 P5 M4 kin4 kA4
  -- sorts
  refine ⟨(by show 2 ≤ sizeLine; decide), fun a7 h7 => ?_⟩
  have k7 : Keep [] G6 (upd G6 a7 (.lst [.str sF, .str sS])) := Keep.new h7
  have e7 : (upd G6 a7 (.lst [.str sF, .str sS])) a7 = some (.lst [.str sF, .str sS]) := upd_same
  have M7 := M6.k0 k7
  have kB7 := k7
  generalize (upd G6 a7 (.lst [.str sF, .str sS])) = G7 at k7 e7 M7 kB7 ⊢
  obtain ⟨xs7, el7⟩ := M7.hP.some
  refine ⟨_, rfl, l, rfl, ⟨_, SqL.of el7⟩, fun D8 h8 => ?_⟩
  refine names_run (K := K) (i := 11) (j := 12) M7.hP h8 (by omega) (fun _ _ => rfl) (fun _ _ => rfl) fun G8 e8 k8 => ?_
  refine ⟨a7, D8, _, _, rfl, rfl, k8.at e7 nin0, e8, (by rw [List.length_map, List.length_map]; exact Nat.le_trans (by show 2 + ps.length ≤ 1000; omega) (by decide)), fun S hS => ?_⟩
  have k9 : Keep [] G8 (upd G8 S (.lst ((allK ps).map V.str))) := Keep.new hS
  have eS : (upd G8 S (.lst ((allK ps).map V.str))) S = some (.lst ((allK ps).map V.str)) := upd_same
  have nSp : S ≠ p := fun z => by obtain ⟨x, e⟩ := (M7.pot.keep k8 nin0).some; rw [z, e] at hS; cases hS
  change gName 8 (V.ref S) _ (upd G8 S (.lst ((allK ps).map V.str))) _
  have k69 : Keep [] G6 (upd G8 S (.lst ((allK ps).map V.str))) := (k7.trans k8).trans k9
  have M9 := M6.k0 k69
  have kin9 := kin6.keep0 k69
  have kin9' := kin6'.keep0 k69
  have kA9 := kA6.trans (k69.more fun b z => absurd z nin0)
  generalize (upd G8 S (.lst ((allK ps).map V.str))) = G9 at k9 eS k69 M9 kin9 kin9' kA9 ⊢
  clear k9 k69 k8 e8 el7 M7 k7 e7 kB7 M6 kin6 kin6' kA6
  -- things
  refine ⟨_, rfl, _, rfl, (by show 2 ≤ sizeLine; decide), fun a10 h10 => ?_⟩
  have k10 : Keep [] G9 (upd G9 a10 (.lst [v, v2])) := Keep.new h10
  have e10 : (upd G9 a10 (.lst [v, v2])) a10 = some (.lst [v, v2]) := upd_same
  have M10 := M9.k0 k10
  have kinA := kin9.keep0 k10
  have kinB := kin9'.keep0 k10
  have eSA := k10.at eS nin0
  have kA10 := kA9.trans (k10.more fun b z => absurd z nin0)
  have na10 : a10 ≠ p := fun z => by obtain ⟨x, e⟩ := M9.pot.some; rw [z, e] at h10; cases h10
  generalize (upd G9 a10 (.lst [v, v2])) = GA at k10 e10 M10 kinA kinB eSA kA10 ⊢
  clear k10 h10 M9 kin9 kin9' eS kA9
  refine ⟨4, rfl, by decide, by decide, fun B hB => ?_⟩
  obtain ⟨xA, epA⟩ := M10.pot.some
  have nBp : B ≠ p := Ne.symm (ne_of_none epA hB)
  have sz1 := Ts.sz_le hd1 (by decide)
  have sz2 := Ts.sz_le hd2 (by decide)
  obtain ⟨_, _, _, szt1⟩ := good_th t1
  obtain ⟨_, _, _, szt2⟩ := good_th t2
  refine lc_range (lo := 0) (n := 4) (fun a G' => ∃ us : List V, us.length = a ∧ AG [p, B] 15 9000 G' us ∧ G' B = some (.lst us) ∧ PotAt G' p (n + 17 * a) ∧ Keep [p] GA G')
    ⟨[], rfl, AG.nil, upd_same, M10.pot.keep (Keep.new hB) nin0, Keep.newTo (Keep.refl _ _) hB⟩ (fun a G' ha hI => ?_) (fun G' hI => ?_)
  · obtain ⟨us, lu, ag, eB, po, kG⟩ := hI
    refine ⟨rfl, tyes ?_⟩
    have Mx := M10.pl nlp kG po
    have exx : ∀ b ∈ [p, B], ∃ o, G' b = some o := fun b hb => by
      rcases List.mem_cons.mp hb with z | z
      · obtain ⟨x, e⟩ := po.some; exact ⟨_, by rw [z]; exact e⟩
      · exact ⟨_, by rw [List.mem_singleton.mp z]; exact eB⟩
    refine ⟨_, rfl, _, rfl, p, [p, B], n + 17 * a, v, t1, ps, 7, rfl, by decide, po, by omega, Mx.ta, ok1, htx, List.mem_cons_self, exx, fun H2 u m k2 gu po2 hm => ?_⟩
    have eB2 := k2.at eB (nin1 nBp)
    refine ⟨us, eB2, ?_, us ++ [u], by rw [List.length_append, lu]; rfl, ?_, upd_same, ?_, ?_⟩
    · rw [lu]; exact Nat.lt_of_le_of_lt (by omega : a ≤ 1000) (by decide)
    · have kb : Keep [B] H2 (upd H2 B (.lst (us ++ [u]))) := Keep.own (List.mem_singleton_self _)
      exact ((ag.keepP List.mem_cons_self k2 po.some).app (AG.cons (gu.mono (by omega) (by omega)) AG.nil)).keepP (List.mem_cons_of_mem _ (List.mem_singleton_self _)) kb ⟨_, eB2⟩
    · exact (po2.keep (ex := [B]) (Keep.own (List.mem_singleton_self _)) (nin1 nBp.symm)).le (by omega)
    · exact (kG.trans k2).freshTo hB
  obtain ⟨us, lu, ag, eB, po, kG⟩ := hI
  have M11 := M10.pl nlp kG po
  have e11 := kG.at e10 (nin1 na10)
  refine ⟨a10, B, _, _, rfl, rfl, e11, eB, (by show 2 + us.length ≤ sizeLine; rw [lu]; decide), fun L hL => ?_⟩
  have k12 : Keep [] G' (upd G' L (.lst ([v, v2] ++ us))) := Keep.new hL
  have eL : (upd G' L (.lst ([v, v2] ++ us))) L = some (.lst ([v, v2] ++ us)) := upd_same
  obtain ⟨xG, epG⟩ := po.some
  have nLp : L ≠ p := Ne.symm (ne_of_none epG hL)
  have agv : ∀ {G : Hp}, Md p l Pt ps t1 t2 v v2 (n + 17 * 4) G → AG [L, p, B] 15 9000 G [v, v2] := fun M => AG.cons ((gv_test htx ok1 M.ta).mono (by omega) (by omega)) (AG.cons ((gv_test htx ok2 M.ta2).mono (by omega) (by omega)) AG.nil)
  have hLG : G L = none := by
    have h1 : GA L = none := Keep.free kG hL (nin1 nLp)
    have nPt : L ≠ Pt := fun z => by obtain ⟨tb, e, _⟩ := M10.tab; rw [z, e] at h1; cases h1
    exact Keep.free kA10 h1 (fun z => by
      rcases List.mem_cons.mp z with q | q
      · exact nLp q
      · exact nPt (List.mem_singleton.mp q))
  have eS11 := kG.at eSA (nin1 nSp)
  have Z0 : Ph p l Pt CK kd kd2 S L ps t1 t2 v v2 [L, p, B] G ([v, v2] ++ us) (n + 17 * 4) (upd G' L (.lst ([v, v2] ++ us))) := by
    have M12 := M11.k0 k12
    obtain ⟨xl, el'⟩ := M11.hP.some
    obtain ⟨tb, eT, _⟩ := M11.tab
    refine ⟨M12, (kin_list kinA kG epA).keep0 k12, (kin_list kinB kG epA).keep0 k12, k12.at eS11 nin0, eL, (agv M12).app ((ag.add hL).keep0 k12), (kA10.trans (kG.more fun b z => by rw [List.mem_singleton.mp z]; exact List.mem_cons_self)).trans (k12.more fun b z => absurd z nin0), fun b hb => ?_, hLG, nLp, nlp, ne_of_none el' hL, nSp, ne_of_none eS11 hL, ne_of_none eT hL, List.mem_cons_of_mem _ List.mem_cons_self, List.mem_cons_self⟩
    rcases List.mem_cons.mp hb with z | z
    · exact ⟨_, by rw [z]; exact eL⟩
    · rcases List.mem_cons.mp z with z | z
      · obtain ⟨x, e⟩ := M12.pot.some
        exact ⟨_, by rw [z]; exact e⟩
      · exact ⟨_, by rw [List.mem_singleton.mp z]; exact k12.at eB nin0⟩
  have lx : ([v, v2] ++ us).length = 6 := by rw [List.length_append, lu]; rfl
  change gName 9 (V.ref L) _ (upd G' L (.lst ([v, v2] ++ us))) _
  generalize (upd G' L (.lst ([v, v2] ++ us))) = GL at k12 eL Z0 ⊢
  generalize [v, v2] ++ us = xs at Z0 lx
  clear k12 eL eS11 agv hLG M11 e11 eB ag po kG epG xG eSA kinA kinB M10 kA10
  generalize hN : n + 17 * 4 = N at Z0
  -- and
  refine ⟨_, rfl, .inl ⟨rfl, _, SqL.of Z0.eL⟩, _, rfl, _, rfl, p, [L, p, B], N, v2, t2, ps, 3, rfl, by decide, Z0.md.pot, by omega, Z0.md.ta2, ok2, htx, Z0.hp, Z0.old, fun H1 u1 m1 k1 g1 po1 hm1 => ?_⟩
  have Z1 := Z0.call k1 po1
  refine ⟨_, rfl, _, rfl, p, [L, p, B], m1, v2, t2, ps, 3, rfl, by decide, Z1.md.pot, by omega, Z1.md.ta2, ok2, htx, Z1.hp, Z1.old, fun H2 u2 m2 k2 g2 po2 hm2 => ?_⟩
  have Z2 := Z1.call k2 po2
  have g1 := g1.keepP Z1.hp k2 po1.some
  refine ⟨(by show 3 ≤ sizeLine; decide), fun a3 h3 => ?_⟩
  have k3 : Keep [] H2 (upd H2 a3 (.tup [.str "and", u1, u2])) := Keep.new h3
  have Z3 := Z2.k0 k3
  have g3 : GV [L, p, B] 15 9000 (upd H2 a3 (.tup [.str "and", u1, u2])) (.ref a3) := (gv_two (g1.keep0 k3) (g2.keep0 k3) upd_same (tx_go _ (by decide +kernel))).mono (by omega) (by omega)
  generalize (upd H2 a3 (.tup [.str "and", u1, u2])) = H3 at k3 Z3 g3 ⊢
  refine ⟨L, _, _, rfl, rfl, Z3.eL, by rw [lx]; decide, ?_⟩
  have Z4 := Z3.app g3
  have lx4 : (xs ++ [V.ref a3]).length = 7 := by rw [List.length_append, lx]; rfl
  generalize (upd H3 L (.lst (xs ++ [V.ref a3]))) = H4 at Z4 ⊢
  generalize xs ++ [V.ref a3] = xs4 at Z4 lx4
  clear Z3 g3 k3 Z2 Z1 Z0 g1 g2 po1 k1
  -- or
  refine ⟨_, rfl, .inl ⟨rfl, _, SqL.of Z4.eL⟩, _, rfl, _, rfl, p, [L, p, B], m2, v2, t2, ps, 3, rfl, by decide, Z4.md.pot, by omega, Z4.md.ta2, ok2, htx, Z4.hp, Z4.old, fun H5 u5 m5 k5 g5 po5 hm5 => ?_⟩
  have Z5 := Z4.call k5 po5
  refine ⟨_, rfl, (by show 3 ≤ sizeLine; decide), fun a6 h6 => ?_⟩
  have k6 : Keep [] H5 (upd H5 a6 (.tup [.str "or", u5, v2])) := Keep.new h6
  have Z6 := Z5.k0 k6
  have g6 : GV [L, p, B] 15 9000 (upd H5 a6 (.tup [.str "or", u5, v2])) (.ref a6) := (gv_two (g5.keep0 k6) ((gv_test2 htx ok2 Z6.md.ta2).mono (by omega) (by omega)) upd_same (tx_go _ (by decide +kernel))).mono (by omega) (by omega)
  generalize (upd H5 a6 (.tup [.str "or", u5, v2])) = H6 at k6 Z6 g6 ⊢
  refine ⟨L, _, _, rfl, rfl, Z6.eL, by rw [lx4]; decide, ?_⟩
  have Z7 := Z6.app g6
  have lx7 : (xs4 ++ [V.ref a6]).length = 8 := by rw [List.length_append, lx4]; rfl
  generalize (upd H6 L (.lst (xs4 ++ [V.ref a6]))) = H7 at Z7 ⊢
  generalize xs4 ++ [V.ref a6] = xs7 at Z7 lx7
  clear Z6 g6 k6 Z5 Z4 g5 po5 k5
  -- the test again
  refine ⟨_, rfl, .inl ⟨rfl, _, SqL.of Z7.eL⟩, _, rfl, L, _, _, rfl, rfl, Z7.eL, by rw [lx7]; decide, ?_⟩
  have Z8 := Z7.app (y := v) ((gv_test htx ok1 Z7.md.ta).mono (by omega) (by omega))
  refine rte De _ [L, p, B] p kd kd2 S L ps t1 v (xs7 ++ [v]) _ _ _ _ _ _ _ _ Z8.k1 Z8.k2 Z8.eS Z8.md.ta ok1 hd1 htx Z8.eL Z8.ag fun G9 k9 => ?_
  have Z9 := Z8.k0 k9
  exact kk G9 Z9.keep Z9.md.tab
end
end Fs
/-! A round. -/
namespace Fs
open PySem L2 TL
def spRnd (Pt : Addr) : Sp := fun vs H Q _ => ∃ p : Addr, vs = [.ref p] ∧ PotAt H p 0 ∧ GxR.TabG H Pt ∧ ∀ H' : Hp, Keep [p, Pt] H H' → GxR.TabG H' Pt → Q (.bl true) H'
section
variable {P : Program} {w : World} {K : PySem.W.Frag} {mg : Str → Option Value} {base : Heap} {CK fI fK fT fTs fDg fSp fRi fTe Pt : Addr}
theorem ok_rnd {f : Addr} {fd dI dK dT dTs dD dRi dTe dSp : FuncData} (F : Fun K "_law_round" "_law_round" sRnd f fd) (T : RDx K mg CK fI fK fT fTs fDg fSp fRi fTe)
    (FK : FnOk P w K mg base CX0 3 fK dK ["_law_pot_here", "_law_most"] spKds) (bK : Binds K dK ["_law_pot_here", "_law_most"] []) (FT : FnOk P w K mg base CX0 3 fT dT ["_law_pot_here"] spTxs) (bT : Binds K dT ["_law_pot_here"] [])
    (FTs : FnOk P w K mg base CX0 6 fTs dTs aTst (spTst 4)) (bTs : Binds K dTs aTst []) (FD : FnOk P w K mg base CX0 1 fDg dD ["_law_pot_here", "_law_many"] spDigit) (bD : Binds K dD ["_law_pot_here", "_law_many"] [])
    (FI : FnOk P w K mg base CX0 4 fI dI ["self", "pairs"] (spKInit CK Pt)) (bI : Binds K dI ["self", "pairs"] [])
    (FS : FnOk P w K mg base CX0 10 fSp dSp aSpo (spSpo 8)) (bS : Binds K dSp aSpo [])
    (FRi : FnOk P w K mg base CX0 18 fRi dRi aRi (spRi CK)) (bRi : Binds K dRi aRi []) (FTe : FnOk P w K mg base CX0 4 fTe dTe ["kinds", "thing"] (spTeT CK)) (bTe : Binds K dTe ["kinds", "thing"] []) :
    FnOk P w K mg base CX0 19 f fd ["_law_pot_here"] (spRnd Pt) := by
  refine F.ok scRnd (fun vs H Q E h => ?_) (fun cdv A0 outer s H vs Q Es hr h => ?_)
  · obtain ⟨p, rfl, _⟩ := h
    rfl
  · obtain ⟨p, rfl, pot, tab, kk⟩ := h
    have hr1 : Room 1 _ := hr.mono (by decide)
    have hr3 : Room 3 _ := hr.mono (by decide)
    have hr6 : Room 6 _ := hr.mono (by decide)
    obtain ⟨tm, htm, rtm⟩ := rnd_mid (P := P) (w := w) (base := base) T FI bI FS bS FRi bRi FTe bTe cdv A0 outer s H Es hr
    refine ⟨_, pss_cons (ps_set (i := 1) scRnd.nd rfl (Or.inl rfl) (pe_call FK hr3 rfl T.gK T.kK bK .nil pass0 (pa_cons (pv 0) (pa_cons pe_int pa_nil))))
      (pss_cons (ps_set (i := 2) scRnd.nd rfl (Or.inl rfl) (pe_call FT hr3 rfl T.gT T.kT bT .nil pass0 (pa_cons (pv 0) pa_nil)))
      (pss_cons (ps_set (i := 3) scRnd.nd rfl (Or.inr rfl) (pe_call FTs hr6 rfl T.gTs T.kTs bTs .nil pass0 (pa_cons (pv 0) (pa_cons (pv 1) (pa_cons (pv 2) (pa_cons (pe_call FD hr1 rfl T.gDg T.kDg bD .nil pass0 (pa_cons (pv 0) (pa_cons pe_int pa_nil))) pa_nil))))))
      (pss_cons (ps_set (i := 4) scRnd.nd rfl (Or.inl rfl) (pe_call FTs hr6 rfl T.gTs T.kTs bTs .nil pass0 (pa_cons (pv 0) (pa_cons (pv 1) (pa_cons (pv 2) (pa_cons (pe_call FD hr1 rfl T.gDg T.kDg bD .nil pass0 (pa_cons (pv 0) (pa_cons pe_int pa_nil))) pa_nil))))))
      (pss_cons (ps_if (pt_cmpR op_eq (pe_call FD hr1 rfl T.gDg T.kDg bD .nil pass0 (pa_cons (pv 0) (pa_cons pe_int pa_nil))) pe_int (nomark _))
        (pss_one (ps_set (i := 3) scRnd.nd rfl (Or.inr rfl) (pe_tup (pa_cons pe_str (pa_cons (pe_tup (pa_cons pe_str (pa_cons (pe_tup (pa_cons pe_str (pa_cons (pv 3) pa_nil))) pa_nil))) pa_nil))))) pss_nil) htm)))), ?_⟩
    obtain ⟨tb, hPt, oT⟩ := id tab
    obtain ⟨x0, ep0⟩ := pot.some
    have npT : Pt ≠ p := fun z => by rw [z, ep0] at hPt; cases hPt
    refine ⟨_, rfl, p, 0, 6, rfl, by decide, pot, by decide, fun l ps G1 hl hw hps hP k1 pot1 => ?_⟩
    obtain ⟨x1, ep1⟩ := pot1.some
    have nlp : l ≠ p := fun z => by rw [z, ep0] at hl; cases hl
    refine ⟨_, rfl, p, _, rfl, pot1, by decide, fun X tx G2 hX htx eX k2 pot2 => ?_⟩
    obtain ⟨x2, ep2⟩ := pot2.some
    have nXp : X ≠ p := fun z => by rw [z, ep1] at hX; cases hX
    have hP2 := hP.keep k2 (nin1 nlp) (nTL ep1)
    refine ⟨_, rfl, _, rfl, _, rfl, _, rfl, p, _, 4, rfl, pot2, by decide, by decide, by decide, fun d3 G3 d30 d31 hk3 pot3 => ?_⟩
    have k3 := keep_of_dig hk3
    obtain ⟨d, rfl⟩ := Int.eq_ofNat_of_zero_le d30
    have hd4 : d < 4 := by omega
    have hP3 := hP2.keep k3 (nin1 nlp) (nTL ep2)
    have eX3 := k3.at eX (nin1 nXp)
    obtain ⟨x3, ep3⟩ := pot3.some
    have pw : ∀ {d : Nat}, d < 4 → 2 ^ d ≤ 2 ^ 3 := fun h => Nat.pow_le_pow_right (by decide) (by omega)
    have pd := pw hd4
    refine ⟨p, l, X, _, d, ps, tx, rfl, hd4, pot3, by omega, hP3, by omega, nlp, by rw [htx.1]; decide, by rw [htx.1]; decide, htx.2, eX3, nXp, fun G4 v t m4 k4 ta ok hdt pot4 hm4 => ?_⟩
    obtain ⟨x4, ep4⟩ := pot4.some
    have hP4 := hP3.keep k4 (nin1 nlp) (nTL ep3)
    have eX4 := k4.at eX3 (nin1 nXp)
    refine ⟨_, rfl, _, rfl, _, rfl, _, rfl, p, _, 3, rfl, pot4, by omega, by decide, by decide, fun d5 G5 d50 d51 hk5 pot5 => ?_⟩
    have k5 := keep_of_dig hk5
    obtain ⟨e, rfl⟩ := Int.eq_ofNat_of_zero_le d50
    have he4 : e < 3 := by omega
    have hP5 := hP4.keep k5 (nin1 nlp) (nTL ep4)
    have eX5 := k5.at eX4 (nin1 nXp)
    have ta5 := ta.keepP k5 pot4
    obtain ⟨x5, ep5⟩ := pot5.some
    have pe := pw (show e < 4 by omega)
    refine ⟨p, l, X, _, e, ps, tx, rfl, by omega, pot5, by omega, hP5, by omega, nlp, by rw [htx.1]; decide, by rw [htx.1]; decide, htx.2, eX5, nXp, fun G6 v2 t2 m6 k6 ta2 ok2 hdt2 pot6 hm6 => ?_⟩
    obtain ⟨x6, ep6⟩ := pot6.some
    have hP6 := hP5.keep k6 (nin1 nlp) (nTL ep5)
    have ta6 := ta5.keepP k6 pot5
    refine ⟨_, rfl, p, _, 8, rfl, pot6, by omega, by decide, by decide, fun d7 G7 d70 d71 hk7 pot7 => ?_⟩
    have k7 := keep_of_dig hk7
    have hP7 := hP6.keep k7 (nin1 nlp) (nTL ep6)
    have ta7 := ta6.keepP k7 pot6
    have ta27 := ta2.keepP k7 pot6
    have kp7 : Keep [p] H G7 := ((((((k1.trans k2).trans k3).trans k4).trans k5).trans k6).trans k7)
    have tab7 := tabK tab kp7 (nin1 npT)
    have fin : ∀ {G : Hp}, Keep [p] H G → ∀ G', Keep [p, Pt] G G' → GxR.TabG G' Pt → Q (.bl true) G' := fun kG G' k t => kk G' ((kG.more fun b z => by rw [List.mem_singleton.mp z]; exact List.mem_cons_self).trans k) t
    refine ⟨rfl, _, rfl, ?_⟩
    refine ite2 (fun _ => ?_) (fun _ => ?_)
    · refine ⟨_, rfl, (by show 2 ≤ sizeLine; decide), fun a8 h8 => ?_⟩
      have k8 : Keep [] G7 (upd G7 a8 (.tup [.str "not", v])) := Keep.new h8
      have t8 : TestAt (upd G7 a8 (.tup [.str "not", v])) (.not t) (.ref a8) := ⟨a8, v, rfl, upd_same, ta7.keep0 k8⟩
      generalize (upd G7 a8 (.tup [.str "not", v])) = G8 at k8 t8 ⊢
      refine ⟨(by show 2 ≤ sizeLine; decide), fun a9 h9 => ?_⟩
      have k9 : Keep [] G8 (upd G8 a9 (.tup [.str "not", .ref a8])) := Keep.new h9
      have t9 : TestAt (upd G8 a9 (.tup [.str "not", .ref a8])) (.not (.not t)) (.ref a9) := ⟨a9, _, rfl, upd_same, t8.keep0 k9⟩
      generalize (upd G8 a9 (.tup [.str "not", .ref a8])) = G9 at k9 t9 ⊢
      refine ⟨(by show 2 ≤ sizeLine; decide), fun a10 h10 => ?_⟩
      have k10 : Keep [] G9 (upd G9 a10 (.tup [.str "not", .ref a9])) := Keep.new h10
      have t10 : TestAt (upd G9 a10 (.tup [.str "not", .ref a9])) (.not (.not (.not t))) (.ref a10) := ⟨a10, _, rfl, upd_same, t9.keep0 k10⟩
      generalize (upd G9 a10 (.tup [.str "not", .ref a9])) = G10 at k10 t10 ⊢
      have k710 := (k8.trans k9).trans k10
      refine rtm _ _ p l ps (.not (.not (.not t))) t2 _ v2 _ _ _ _ _ _ _ _ _ _ _ ⟨hP7.keep k710 nin0 nT0, pot7.keep k710 nin0, t10, ta27.keep0 k710, tabK tab7 k710 nin0⟩ hw (by omega) nlp (by omega) ok ?_ ok2 (by omega) (fin (kp7.trans (k710.more fun b z => absurd z nin0)))
      simp only [Ts.dp]
      omega
    · exact rtm _ _ p l ps t t2 _ v2 _ _ _ _ _ _ _ _ _ _ _ ⟨hP7, pot7, ta7, ta27, tab7⟩ hw (by omega) nlp (by omega) ok (by omega) ok2 (by omega) (fin kp7)
end
end Fs
/-! The law: some rounds, all of them right. -/
namespace Fs
open PySem L2 TL
section
variable {P : Program} {w : World} {K : PySem.W.Frag} {mg : Str → Option Value} {base : Heap} {fDg fOt : Addr}
theorem ok_lt {f : Addr} {fd : FuncData} (F : Fun K "_law_is_test" "_law_is_test" sLt f fd) (gR : mg "_law_is_test" = some (.ref f)) (kR : PySem.W.keepIn K (.ref f) = true) (bR : Binds K fd ["_law_sorts", "_law_thing"] [])
    (mL : mg "len" = none) (mI : mg "isinstance" = none) (mT : mg "tuple" = none) (mS : mg "str" = none) : ∀ d : Nat, d ≤ 40 → FnOk P w K mg base CX0 (1 + d) f fd ["_law_sorts", "_law_thing"] (spLt d)
  | 0, _ => lt0
  | d + 1, h => ltS F gR kR bR mL mI mT mS (by omega) (ok_lt F gR kR bR mL mI mT mS d (by omega))
theorem ok_spo {f : Addr} {fd dD dO : FuncData} (F : Fun K "_law_spoilt" "_law_spoilt" sSpo f fd) (gR : mg "_law_spoilt" = some (.ref f)) (kR : PySem.W.keepIn K (.ref f) = true) (bR : Binds K fd aSpo [])
    (FD : FnOk P w K mg base CX0 1 fDg dD ["_law_pot_here", "_law_many"] spDigit) (bD : Binds K dD ["_law_pot_here", "_law_many"] []) (gD : mg "_law_digit" = some (.ref fDg)) (kD : PySem.W.keepIn K (.ref fDg) = true)
    (FO : FnOk P w K mg base CX0 2 fOt dO ["_law_pot_here", "_law_test_here"] spOth) (bO : Binds K dO ["_law_pot_here", "_law_test_here"] []) (gO : mg "_law_other" = some (.ref fOt)) (kO : PySem.W.keepIn K (.ref fOt) = true) (mL : mg "len" = none) : ∀ d : Nat, FnOk P w K mg base CX0 (2 + d) f fd aSpo (spSpo d)
  | 0 => spo0
  | d + 1 => spoS F gR kR bR FD bD gD kD FO bO gO kO mL (ok_spo F gR kR bR FD bD gD kD FO bO gO kO mL d)
end
theorem Keep.lateX {H H1 H2 : Hp} {ex ex2 : List Addr} (k : Keep ex H H1) (k2 : Keep ex2 H1 H2) (hx : ∀ b ∈ ex2, b ∈ ex ∨ H b = none) : Keep ex H H2 := fun b o hb e => k2 b o (fun z => by
  rcases hx b z with q | q
  · exact hb q
  · rw [q] at e; cases e) (k b o hb e)
abbrev sLaw : Stmt := top 26 --def law
abbrev nLaw : List Str := ["_law_script", "_law_k"]
theorem scLaw : FnScope nLaw ["_law_script"] (defScope sLaw) := ⟨rfl, rfl, rfl, by decide +kernel, rfl, by decide +kernel, by decide +kernel⟩
def spLaw (K : PySem.W.Frag) (Pt : Addr) : Sp := fun vs H Q _ => ∃ (a : Addr) (ns : List Int), vs = [.ref a] ∧ SqL K H a (ns.map V.int) ∧ ns.length ≤ 63 ∧ H Pt = some (.tbl #[]) ∧ ∀ H', Q (.bl true) H'
structure ATxt (K : PySem.W.Frag) (mg : Str → Option Value) (fPo fRo : Addr) : Prop where
  gPo : mg "_law_pot" = some (.ref fPo)
  kPo : PySem.W.keepIn K (.ref fPo) = true
  gRo : mg "_law_round" = some (.ref fRo)
  kRo : PySem.W.keepIn K (.ref fRo) = true
  len : mg "len" = none
  max : mg "max" = none
  min : mg "min" = none
  range : mg "range" = none
  all : mg "all" = none
theorem seq_keep {K : PySem.W.Frag} {H H' : Hp} {a Pt : Addr} {xs : List V} {tb : Array Value} (h : SqL K H a xs) (k : Keep [Pt] H H') (hT : H Pt = some (.tbl tb)) : SqL K H' a xs := by
  rcases h with (h | ⟨o, h⟩) | h
  · exact .inl (.inl (k.at h (nin1 (ne_of h hT (fun z => by cases z)))))
  · exact .inl (.inr ⟨o, k.at h (nin1 (ne_of h hT (fun z => by cases z)))⟩)
  · exact .inr h
section
variable {P : Program} {w : World} {K : PySem.W.Frag} {mg : Str → Option Value} {base : Heap} {fPo fRo Pt : Addr}
theorem law_body {N : Nat} (hN : 1 ≤ N) {dPo dRo : FuncData} {f : Addr} (T : ATxt K mg fPo fRo) (FPo : FnOk P w K mg base CX0 1 fPo dPo ["_law_script", "_law_k"] (spPot K)) (bPo : Binds K dPo ["_law_script", "_law_k"] [])
    (FR : FnOk P w K mg base CX0 N fRo dRo ["_law_pot_here"] (spRnd Pt)) (bR : Binds K dRo ["_law_pot_here"] [])
    (cdv : Value) (A0 : Around) (outer : List Env) (s : Shared) (H : Hp) (vs : List V) (Q : VK) (Es : XK) (hg : A0.guards = some []) (hr : Room N (A0.deeper (PyProof.Rows.envOfC "law" (defScope sLaw) s.heap.objs.size f cdv))) (h : spLaw K Pt vs H Q Es) :
    ∃ t, PSs (cxOf CX0 P w K mg base nLaw "law" (defScope sLaw) f cdv A0 outer s H Es).nox (defBody sLaw) t ∧ t { nx := fun _ H' => Q .non H', rt := Q } (L2.start nLaw vs) H := by
  obtain ⟨a, ns0, rfl, hS, h63, hT, kk⟩ := h
  have hr1 : Room 1 _ := hr.mono hN
  have hgX : (cxOf CX0 P w K mg base nLaw "law" (defScope sLaw) f cdv A0 outer s H Es).nox.A.guards = some [] := hg
  refine ⟨_, pss_one (ps_ret (pe_callB (cr_all rfl) (by rfl) T.all (by decide +kernel) (pa_cons (pe_lc (own := [("_law_k", 1)]) (g := gName 1) (tt := tYes) (te := tCall (spRnd Pt) [] E0 (tCons (tCall (spPot K) [] E0 (tCons (tVar 0) (tCons (tVar 1) tNil))) tNil)) rfl scLaw.nd
      (pi_range1 rfl T.range (pa_cons (pe_callB (call_max2 rfl) (by rfl) T.max (by decide +kernel) (pa_cons pe_int (pa_cons (pe_callB (call_min2 rfl) (by rfl) T.min (by decide +kernel) (pa_cons pe_int (pa_cons (pe_callB call_len_seq (by rfl) T.len PySem.boot_len (pa_cons (pv 0) pa_nil)) pa_nil))) pa_nil))) pa_nil))
      (blkOk_by (N := nLaw) (sc := defScope sLaw) (by decide +kernel)) (fun _ _ _ _ _ => pg_name (i := 1) scLaw.nd rfl (Or.inl rfl)) (fun _ _ _ _ _ => pts_nil)
      (fun _ _ _ _ _ => by exact (pe_call FR hr rfl T.gRo T.kRo bR .nil pass0 (pa_cons (pe_call FPo hr1 rfl T.gPo T.kPo bPo .nil pass0 (pa_cons (pv 0) (pa_cons (pv 1) pa_nil))) pa_nil)))) pa_nil))), ?_⟩
  refine ⟨_, rfl, a, _, rfl, .inl hS, _, _, rfl, _, _, rfl, ?_⟩
  rw [List.length_map]
  obtain ⟨M, hM, hM5⟩ : ∃ M : Nat, (if (if (ns0.length : Int) < 8 then (ns0.length : Int) else 8) > 1 then (if (ns0.length : Int) < 8 then (ns0.length : Int) else 8) else 1) = (M : Int) ∧ M ≤ 8 := by
    refine ⟨(if (if (ns0.length : Int) < 8 then (ns0.length : Int) else 8) > 1 then (if (ns0.length : Int) < 8 then (ns0.length : Int) else 8) else 1).toNat, ?_, ?_⟩
    · split <;> split <;> omega
    · split <;> split <;> omega
  rw [hM]
  refine ⟨_, rfl, by omega, by omega, fun D hD => ?_⟩
  rw [Int.toNat_natCast]
  have nDa : ∀ {b o}, H b = some o → b ≠ D := fun e => ne_of_none e hD
  refine lc_range (lo := 0) (n := M) (fun i G => Keep [Pt] H G ∧ GxR.TabG G Pt ∧ G D = some (.lst (List.replicate i (V.bl true)))) ⟨Keep.new hD, ⟨#[], by rw [upd_ne (nDa hT)]; exact hT, True.intro⟩, upd_same⟩ ?_ ?_
  · rintro i G hi ⟨kG, tab, eD⟩
    obtain ⟨tb0, hT0, oT0⟩ := id tab
    have z0 : (0 : Int) + (i : Int) = (i : Int) := Int.zero_add _
    refine ⟨rfl, tyes ?_⟩
    refine ⟨_, rfl, _, rfl, a, ns0, i, by rw [z0]; rfl, seq_keep hS kG hT, by omega, fun p G1 hp k1 pot1 => ?_⟩
    obtain ⟨x1, ep1⟩ := pot1.some
    have hT1 : G1 Pt = some (.tbl tb0) := k1.at hT0 nin0
    have eD1 := k1.at eD nin0
    have npD : D ≠ p := ne_of_none eD hp
    have nPD : D ≠ Pt := fun z => by rw [z, hT1] at eD1; cases eD1
    refine ⟨p, rfl, pot1, ⟨tb0, hT1, oT0⟩, fun G2 k2 tab2 => ?_⟩
    have eD2 := k2.at eD1 (fun z => by rcases List.mem_cons.mp z with z | z; exact npD z; exact nPD (List.mem_singleton.mp z))
    obtain ⟨tb2, hT2, oT2⟩ := id tab2
    refine ⟨_, eD2, Nat.lt_of_le_of_lt (by rw [List.length_replicate]; omega : (List.replicate i (V.bl true)).length ≤ 1000) (by decide), ?_, ⟨tb2, by rw [upd_ne nPD.symm]; exact hT2, oT2⟩, by rw [upd_same, List.replicate_succ']⟩
    have k02 : Keep [Pt] H G2 := (kG.trans (k1.more fun b z => absurd z nin0)).lateX k2 fun b hb => by
      rcases List.mem_cons.mp hb with z | z
      · rw [z]
        cases q : H p with
        | none => exact .inr rfl
        | some o =>
          by_cases e : p = Pt
          · rw [e]; exact .inl in1
          · have := kG.at q (nin1 e)
            rw [this] at hp; cases hp
      · exact .inl z
    exact k02.freshTo hD
  · rintro G ⟨kG, tab, eD⟩
    refine ⟨D, List.replicate M true, rfl, ?_, ?_⟩
    · rw [List.map_replicate]; exact SqL.of eD
    · have e : (List.replicate M true).all id = true := by simp
      rw [e]
      exact kk G
end
end Fs
/-! The law's call at the one place where it is made: what is being shown there is known (nothing), which a def's promise for every place doesn't say. -/
namespace Fs
open PySem L2 TL
section
variable {P : Program} {w : World} {K : PySem.W.Frag} {mg : Str → Option Value} {base : Heap}
theorem here_run {k : Nat} {f : Addr} {st : Stmt} {x q : Str} {N : List Str} {dV kV doc pm cdv ct oc : Value} {an od : Option Addr} {osl : Array (Option Value)} {A : Around} {s : Shared} {H : Hp} {u : Value} {v : V} {Q : VK}
    (lk : K.lookup f = some ⟨oc, od, .func (PySem.W.fnOf x q (defArgs st) (defBody st) (defScope st) dV kV doc pm an cdv ct), osl⟩) (hcd : PySem.W.codeIn K cdv q = true) {y : Str} (S : FnScope N [y] (defScope st)) (room : Room (k + 1) A) (e0 : Env0 P w K mg base A [] s H) (rv : RelV v u)
    (bd : BindsTo s (PySem.W.fnOf x q (defArgs st) (defBody st) (defScope st) dV kV doc pm an cdv ct) ⟨[u], []⟩ [(y, u)])
    (body : Room k (A.deeper (PyProof.Rows.envOfC q (defScope st) s.heap.objs.size f cdv)) → ∃ t, PSs (cxOf CX0 P w K mg base N q (defScope st) f cdv A [] s H E0) (defBody st) t ∧ t { nx := fun _ H' => Q .non H', rt := Q } (L2.start N [v]) H) :
    codeAny (model P w) A (.call (.ref f) ⟨[u], []⟩) (fun r s' => ∃ (v' : V) (u' : Value) (H' : Hp), r = .ok (.ret u') ∧ s'.os = s.os ∧ PyProof.Rows.AllBare s'.gens ∧ Un [] [] H H' s.heap s'.heap ∧ HOk P w H' s'.heap ∧ RelV v' u' ∧ Q v' H') s := by
  have now : K.In s.heap := e0.mod.kin.keeps fun b o e => (e0.bs b o e).1
  have par := S.par y List.mem_cons_self
  have one : Vals [v] [u] := .cons rv .nil
  refine codeAny_call_function room.depth (now f _ lk) rfl S.co S.gen rfl (PySem.W.codeRec_of now hcd) (bd _ _ _ _ (wpAny_newFunctionEnv_cells S.kind (fun z hz => ?_) fun env he s1 entered => ?_))
  · rw [List.mem_singleton.mp hz]
    exact par.imp id fun c => ⟨c, PySem.W.cellsFrom_some _ _ _ (.inl c)⟩
  · cases he
    have free : s1.heap.NoLimit := (e0.mod.nolimit.keeps fun b o e => (e0.bs b o e).1).keeps entered.toInCall.keep
    obtain ⟨t, ht, hq⟩ := body (room.deeper _)
    have at1 := inv_start (CX := CX0) (E := E0) (ps := [y]) (us := [u]) (vs := [v]) S room.hd e0 rfl one entered
    refine ⟨free, codeAny_func (wpAny_mono (ht.run [] s1 _ H _ at1 hq) (fun fl s' end_ => ?_) fun e s' bad => ?_)⟩
    · cases fl with
      | ret u' =>
        obtain ⟨v', _, H', J, rv', q'⟩ := end_
        exact ⟨v', u', H', rfl, J.os, J.bare, J.base, J.hok, rv', q'⟩
      | next =>
        obtain ⟨_, H', J, q'⟩ := end_
        exact ⟨.non, .none, H', rfl, J.os, J.bare, J.base, J.hok, rfl, q'⟩
      | brk => obtain ⟨_, _, _, no⟩ := end_; exact no.elim
      | cont => obtain ⟨_, _, _, no⟩ := end_; exact no.elim
    · refine wpAny_mono bad (fun _ _ no => no.elim) fun _ _ no => no.elim
/-- what is tracked as the law begins: the table, and the script (where the written part doesn't have it) -/
def First (a Pt : Addr) (sc : Option HO) : Hp := fun b => if b = Pt then some (.tbl #[]) else if b = a then sc else none
theorem first_tab {a Pt : Addr} {sc : Option HO} : First a Pt sc Pt = some (.tbl #[]) := if_pos rfl
theorem first_scr {a Pt : Addr} {sc : Option HO} (n : a ≠ Pt) : First a Pt sc a = sc := by
  unfold First
  rw [if_neg n, if_pos rfl]
theorem first_other {a Pt b : Addr} {sc : Option HO} (n : b ≠ Pt) (m : b ≠ a) : First a Pt sc b = none := by
  unfold First
  rw [if_neg n, if_neg m]
theorem first_some {a Pt b : Addr} {sc : Option HO} {u : HO} (e : First a Pt sc b = some u) : (b = Pt ∧ u = .tbl #[]) ∨ (b = a ∧ sc = some u) := by
  by_cases h : b = Pt
  · rw [h, first_tab] at e
    exact .inl ⟨h, (Option.some.inj e).symm⟩
  · by_cases h2 : b = a
    · rw [h2] at e h
      rw [first_scr h] at e
      exact .inr ⟨h2, e⟩
    · rw [first_other h h2] at e
      cases e
/-- the law at its caller -/
theorem law_here {k : Nat} {fa a c Pt : Addr} {dV kV doc pm cdv ct oc : Value} {an od : Option Addr} {osl : Array (Option Value)} {s₁ : Shared} {mb : Str → Option Value} {vs : List Value} {ns : List Int}
    (lk : K.lookup fa = some ⟨oc, od, .func (PySem.W.fnOf "law" "law" (defArgs sLaw) (defBody sLaw) (defScope sLaw) dV kV doc pm an cdv ct), osl⟩) (hcd : PySem.W.codeIn K cdv "law" = true) (room : Room (k + 1) callerA)
    (bd : ∀ (s : Shared) (u : Value), BindsTo s (PySem.W.fnOf "law" "law" (defArgs sLaw) (defBody sLaw) (defScope sLaw) dV kV doc pm an cdv ct) ⟨[u], []⟩ [("_law_script", u)])
    (inK : K.In s₁.heap) (gl : s₁.heap.Ns mainGlobals mg) (bl : s₁.heap.Ns builtinsNs mb) (bb : ∀ x : Str, x ≠ "__name__" → mb x = bootBuiltins x) (lim : s₁.heap.NoLimit) (gen0 : s₁.gens = #[])
    (hT : s₁.heap.get? Pt = some { cls := .none, data := .fields #[] }) (nT : K.lookup Pt = none) (hh : PySem.W.codeHdIn K c Pt = true)
    (bm : ∃ (m : Addr) (ob : Obj), mg "__builtins__" = some (.ref m) ∧ m ≠ builtinsNs ∧ s₁.heap.get? m = some ob ∧ ob.cls = .type "module" ∧ ob.dict = some builtinsNs ∧ ob.data = .plain)
    (ha : s₁.heap.get? a = some { cls := .type "list", data := .seq vs.toArray }) (hi : PyProof.Rows.IntsAre vs ns) (h63 : ns.length ≤ 63)
    (body : ∀ (base : Heap), K.In base → GxR.TabB base mg c Pt → ∀ (A0 : Around) (outer : List Env) (s : Shared) (H : Hp) (vs : List V) (Q : VK) (Es : XK), A0.guards = some [] → Room k (A0.deeper (PyProof.Rows.envOfC "law" (defScope sLaw) s.heap.objs.size fa cdv)) → spLaw K Pt vs H Q Es →
      ∃ t, PSs (cxOf CX0 P w K mg base nLaw "law" (defScope sLaw) fa cdv A0 outer s H Es).nox (defBody sLaw) t ∧ t { nx := fun _ H' => Q .non H', rt := Q } (L2.start nLaw vs) H) :
    codeAny (model P w) callerA (.call (.ref fa) ⟨[.ref a], []⟩) (fun r s' => r = .ok (.ret (.bool true)) ∧ OldK s₁.heap s'.heap ∧ s'.os = s₁.os ∧ PyProof.Rows.AllBare s'.gens) s₁ := by
  have aT : a ≠ Pt := fun z => by
    rw [z, hT] at ha
    have := congrArg Obj.data (Option.some.inj ha)
    cases this
  have nlen := hi.length
  -- the script: known to the written part, or tracked
  obtain ⟨sc, hsc, hscK, hseq⟩ : ∃ sc : Option HO, (∀ u, sc = some u → ObjOk P w (First a Pt sc) s₁.heap a u ∧ ∃ o xs, u = .frz o (.lst xs)) ∧ (sc ≠ none → K.lookup a = none) ∧ SqL K (First a Pt sc) a (ns.map V.int) := by
    cases hk : K.lookup a with
    | none =>
      refine ⟨some (.frz { cls := .type "list", data := .seq vs.toArray } (.lst (ns.map V.int))), fun u e => ?_, fun _ => rfl, .inl (.inr ⟨_, first_scr aT⟩)⟩
      cases e
      refine ⟨⟨ha, ?_, vs, _, vals_ints hi, ha⟩, _, _, rfl⟩
      rw [List.length_map]
      exact Nat.le_trans h63 (by decide)
    | some o =>
      refine ⟨none, fun u e => (nomatch e), fun n => (n rfl).elim, .inr ⟨o, vs.toArray, 0, hk, ?_⟩⟩
      have q := inK a o hk
      rw [ha] at q
      cases q
      refine ⟨rfl, rfl, rfl, ?_, by simpa using vals_ints hi⟩
      rw [List.size_toArray, nlen]
      exact Nat.le_trans h63 (by decide)
  generalize hHd : First a Pt sc = H at hsc hseq
  have hTab : H Pt = some (.tbl #[]) := by rw [← hHd]; exact first_tab
  have known : ∀ b u, H b = some u → (b = Pt ∧ u = .tbl #[]) ∨ (b = a ∧ sc = some u) := fun b u e => first_some (by rw [hHd]; exact e)
  have hok : HOk P w H s₁.heap := fun b u e => by
    rcases known b u e with ⟨rfl, rfl⟩ | ⟨rfl, q⟩
    · exact hT
    · exact (hsc u q).1
  -- nothing else is tracked
  have clear : ∀ {b : Addr} {o : Obj}, s₁.heap.get? b = some o → (∀ l n, o.data ≠ .seq l n) → o.data ≠ .fields #[] → H b = none := fun {b o} e n1 n2 => by
    cases q : H b with
    | none => rfl
    | some u =>
      rcases known b u q with ⟨rfl, _⟩ | ⟨rfl, _⟩
      · rw [hT] at e
        cases e
        exact (n2 rfl).elim
      · rw [ha] at e
        cases e
        exact (n1 _ _ rfl).elim
  have nsB : ∀ {b : Addr} {m : Str → Option Value}, s₁.heap.Ns b m → (hidT s₁.heap H).Ns b m := fun {b m} ⟨o, es, ep, e, d, r⟩ =>
    ⟨o, es, ep, hidT_get e (clear e (fun l n z => by rw [d] at z; cases z) (fun z => by rw [d] at z; cases z)), d, r⟩
  have kB : K.In (hidT s₁.heap H) := fun b o e => hidT_get (inK b o e) (by
    cases q : H b with
    | none => rfl
    | some u =>
      rcases known b u q with ⟨rfl, _⟩ | ⟨rfl, q2⟩
      · rw [nT] at e; cases e
      · rw [hscK (by rw [q2]; simp)] at e; cases e)
  have modB : L2.Mod K mg (hidT s₁.heap H) := by
    obtain ⟨mc, l1, l2⟩ := lim
    exact ⟨kB, nsB gl, ⟨mb, nsB bl, bb⟩, mc, nsB l1, l2⟩
  have glob : mainGlobals ≠ Pt := fun z => by
    obtain ⟨o, es, ep, e, d, _⟩ := gl
    rw [z, hT] at e
    cases e
    cases d
  have tabB : GxR.TabB (hidT s₁.heap H) mg c Pt := by
    obtain ⟨m, ob, g1, g2, g3, g4, g5, g6⟩ := bm
    refine ⟨PySem.W.codeHd_of_K kB hh, ⟨m, ob, g1, g2, fun z => ?_, fun z => ?_, hidT_get g3 (clear g3 (fun l n z => by rw [g6] at z; cases z) (fun z => by rw [g6] at z; cases z)), g4, g5, g6⟩, glob⟩
    · obtain ⟨o, es, ep, e, d, _⟩ := gl
      rw [← z, g3] at e
      cases e
      rw [g6] at d
      cases d
    · rw [z, hT] at g3
      cases g3
      cases g6
  have e0 : Env0 P w K mg (hidT s₁.heap H) callerA [] s₁ H := ⟨rfl, modB, fun b o e => of_hidT e, Nat.le_of_eq (hidT_size _ _), trivial, fun b z => absurd z List.not_mem_nil, hok, .of_eq gen0⟩
  have run := here_run (Q := fun v _ => v = .bl true) (v := .ref a) (u := .ref a) lk hcd scLaw room e0 rfl (bd s₁ (.ref a)) fun hr => by
    obtain ⟨t, ht, hq⟩ := body _ kB tabB callerA [] s₁ H [.ref a] (fun v _ => v = .bl true) E0 rfl hr ⟨a, ns, rfl, hseq, h63, hTab, fun _ => rfl⟩
    exact ⟨t, ht.nox, hq⟩
  refine codeAny_mono run fun r s' ⟨v', u', H', er, os, bare, un, hok', rv', ev⟩ => ?_
  subst ev
  have eu : u' = Value.bool true := rv'
  subst eu
  have kept : ∀ b o, b ≠ Pt → s₁.heap.get? b = some o → s'.heap.get? b = some o := fun b o n e => by
    cases q : H b with
    | none => exact un.keep b o e q List.not_mem_nil List.not_mem_nil
    | some u =>
      rcases known b u q with ⟨z, _⟩ | ⟨rfl, q2⟩
      · exact (n z).elim
      · obtain ⟨_, ob, xs, rfl⟩ := hsc u q2
        have f1 := (hok b _ q).1
        have f2 := (hok' b _ (un.frzs b ob _ q)).1
        rw [e] at f1
        cases f1
        exact f2
  obtain ⟨more, hm⟩ := un.tbls Pt #[] hTab
  have grown : s'.heap.get? Pt = some { cls := .none, data := .fields (#[] ++ more) } := hok' Pt _ hm
  have isT := ((PySem.W.codeHd_of_K inK hh).tab hT).isCodeTable
  refine ⟨er, ⟨fun b o e => ?_, fun b o e => ?_⟩, os, bare⟩
  · by_cases hb : b = Pt
    · subst hb
      rw [hT] at e
      cases e
      exact .inr (.inl ⟨isT, rfl, #[], more, rfl, grown⟩)
    · exact .inl (kept b o hb e)
  · by_cases hb : b = Pt
    · subst hb
      exact ⟨_, grown⟩
    · exact ⟨o, kept b o hb e⟩
end
end Fs
namespace Fs
open PySem L2 TL
theorem fun_of_D {K : PySem.W.Frag} {x q : Str} {st : Stmt} {f : Addr} {fd : FuncData} (F : FunD K x q (defArgs st) (defBody st) (defScope st) [] [] f fd) : Fun K x q st f fd := by
  obtain ⟨oc, od, dV, kV, doc, pm, an, cdv, ct, osl, e, lk, hcd, hd, _⟩ := F.ex
  have hdV : dV = .none := by
    rcases hd with h | h
    · exact h.2
    · exact (h.1 rfl).elim
  subst hdV
  exact ⟨⟨oc, od, kV, doc, pm, an, cdv, ct, osl, e, lk, hcd⟩, F.kp⟩
section
variable {P : Program} {w : World} {K : PySem.W.Frag} {mg : Str → Option Value} {h : Heap}
/-- everything together -/
theorem all (X : K.In h) (G : h.Ns mainGlobals mg) {fa0 : Addr} (hfa : mg ("law" : Str) = some (.ref fa0)) (c : He.SaysX fa fn ts tf exB w h K) :
    ∃ (co Pt : Addr) (dV kV doc pm cdv ct oc : Value) (an od : Option Addr) (osl : Array (Option Value)), K.lookup fa0 = some ⟨oc, od, .func (PySem.W.fnOf "law" "law" (defArgs sLaw) (defBody sLaw) (defScope sLaw) dV kV doc pm an cdv ct), osl⟩ ∧ PySem.W.codeIn K cdv "law" = true ∧
      (∀ (s : Shared) (u : Value), BindsTo s (PySem.W.fnOf "law" "law" (defArgs sLaw) (defBody sLaw) (defScope sLaw) dV kV doc pm an cdv ct) ⟨[u], []⟩ [("_law_script", u)]) ∧
      h.get? Pt = some { cls := .none, data := .fields #[] } ∧ K.lookup Pt = none ∧ PySem.W.codeHdIn K co Pt = true ∧
      ∀ (base : Heap), K.In base → GxR.TabB base mg co Pt → ∀ (A0 : Around) (outer : List Env) (s : Shared) (H : Hp) (vs : List V) (Q : VK) (Es : XK), A0.guards = some [] → Room 19 (A0.deeper (PyProof.Rows.envOfC "law" (defScope sLaw) s.heap.objs.size fa0 cdv)) → spLaw K Pt vs H Q Es →
        ∃ t, PSs (cxOf CX0 P w K mg base nLaw "law" (defScope sLaw) fa0 cdv A0 outer s H Es).nox (defBody sLaw) t ∧ t { nx := fun _ H' => Q .non H', rt := Q } (L2.start nLaw vs) H := by
  have d : He.SaysD fa fn K := c.t.d
  have fct : ∀ f : He.Fa, f ∈ fa → f.ok K = true := fun f hf => d.facts hf
  obtain ⟨x_d_is_text, D_d_is_text⟩ := d.def_ 0 (d := d_is_text) rfl
  have F_d_is_text : Fun K "is_text" "is_text" sIsText (He.ga K "is_text") x_d_is_text := fun_of_D D_d_is_text
  have B_d_is_text : Binds K x_d_is_text ["thing"] [] := F_d_is_text.binds fun _ _ _ _ _ _ us hl => match us, hl with | [_], _ => rfl
  obtain ⟨x_d_is_name, D_d_is_name⟩ := d.def_ 1 (d := d_is_name) rfl
  have F_d_is_name : Fun K "is_name" "is_name" sIsName (He.ga K "is_name") x_d_is_name := fun_of_D D_d_is_name
  have B_d_is_name : Binds K x_d_is_name ["thing"] [] := F_d_is_name.binds fun _ _ _ _ _ _ us hl => match us, hl with | [_], _ => rfl
  obtain ⟨x_d__law_pot, D_d__law_pot⟩ := d.def_ 2 (d := d__law_pot) rfl
  have F_d__law_pot : Fun K "_law_pot" "_law_pot" sPot (He.ga K "_law_pot") x_d__law_pot := fun_of_D D_d__law_pot
  have B_d__law_pot : Binds K x_d__law_pot ["_law_script", "_law_k"] [] := F_d__law_pot.binds fun _ _ _ _ _ _ us hl => match us, hl with | [_, _], _ => rfl
  obtain ⟨x_d__law_digit, D_d__law_digit⟩ := d.def_ 3 (d := d__law_digit) rfl
  have F_d__law_digit : Fun K "_law_digit" "_law_digit" sDigit (He.ga K "_law_digit") x_d__law_digit := fun_of_D D_d__law_digit
  have B_d__law_digit : Binds K x_d__law_digit ["_law_pot_here", "_law_many"] [] := F_d__law_digit.binds fun _ _ _ _ _ _ us hl => match us, hl with | [_, _], _ => rfl
  obtain ⟨x_d__law_text, D_d__law_text⟩ := d.def_ 4 (d := d__law_text) rfl
  have F_d__law_text : Fun K "_law_text" "_law_text" sText (He.ga K "_law_text") x_d__law_text := fun_of_D D_d__law_text
  have B_d__law_text : Binds K x_d__law_text ["_law_pot_here"] [] := F_d__law_text.binds fun _ _ _ _ _ _ us hl => match us, hl with | [_], _ => rfl
  obtain ⟨x_d__law_name, D_d__law_name⟩ := d.def_ 5 (d := d__law_name) rfl
  have F_d__law_name : Fun K "_law_name" "_law_name" sName (He.ga K "_law_name") x_d__law_name := fun_of_D D_d__law_name
  have B_d__law_name : Binds K x_d__law_name ["_law_pot_here"] [] := F_d__law_name.binds fun _ _ _ _ _ _ us hl => match us, hl with | [_], _ => rfl
  obtain ⟨x_d__law_kinds, D_d__law_kinds⟩ := d.def_ 6 (d := d__law_kinds) rfl
  have F_d__law_kinds : Fun K "_law_kinds" "_law_kinds" sKds (He.ga K "_law_kinds") x_d__law_kinds := fun_of_D D_d__law_kinds
  have B_d__law_kinds : Binds K x_d__law_kinds ["_law_pot_here", "_law_most"] [] := F_d__law_kinds.binds fun _ _ _ _ _ _ us hl => match us, hl with | [_, _], _ => rfl
  obtain ⟨x_d__law_texts, D_d__law_texts⟩ := d.def_ 7 (d := d__law_texts) rfl
  have F_d__law_texts : Fun K "_law_texts" "_law_texts" sTxs (He.ga K "_law_texts") x_d__law_texts := fun_of_D D_d__law_texts
  have B_d__law_texts : Binds K x_d__law_texts ["_law_pot_here"] [] := F_d__law_texts.binds fun _ _ _ _ _ _ us hl => match us, hl with | [_], _ => rfl
  obtain ⟨x_d__law_test, D_d__law_test⟩ := d.def_ 8 (d := d__law_test) rfl
  have F_d__law_test : Fun K "_law_test" "_law_test" sTst (He.ga K "_law_test") x_d__law_test := fun_of_D D_d__law_test
  have B_d__law_test : Binds K x_d__law_test ["_law_pot_here", "_law_pairs", "_law_texts_here", "_law_deep"] [] := F_d__law_test.binds fun _ _ _ _ _ _ us hl => match us, hl with | [_, _, _, _], _ => rfl
  obtain ⟨x_d_is_test, D_d_is_test⟩ := d.def_ 9 (d := d_is_test) rfl
  have F_d_is_test : Fun K "is_test" "is_test" sIsT (He.ga K "is_test") x_d_is_test := fun_of_D D_d_is_test
  have B_d_is_test : Binds K x_d_is_test ["kinds", "thing"] [] := F_d_is_test.binds fun _ _ _ _ _ _ us hl => match us, hl with | [_, _], _ => rfl
  obtain ⟨x_d__is_single, D_d__is_single⟩ := d.def_ 10 (d := d__is_single) rfl
  have F_d__is_single : Fun K "_is_single" "_is_single" sSing (He.ga K "_is_single") x_d__is_single := fun_of_D D_d__is_single
  have B_d__is_single : Binds K x_d__is_single ["kinds", "thing"] [] := F_d__is_single.binds fun _ _ _ _ _ _ us hl => match us, hl with | [_, _], _ => rfl
  obtain ⟨x_d__law_is_test, D_d__law_is_test⟩ := d.def_ 11 (d := d__law_is_test) rfl
  have F_d__law_is_test : Fun K "_law_is_test" "_law_is_test" sLt (He.ga K "_law_is_test") x_d__law_is_test := fun_of_D D_d__law_is_test
  have B_d__law_is_test : Binds K x_d__law_is_test ["_law_sorts", "_law_thing"] [] := F_d__law_is_test.binds fun _ _ _ _ _ _ us hl => match us, hl with | [_, _], _ => rfl
  obtain ⟨x_d__law_other, D_d__law_other⟩ := d.def_ 12 (d := d__law_other) rfl
  have F_d__law_other : Fun K "_law_other" "_law_other" sOth (He.ga K "_law_other") x_d__law_other := fun_of_D D_d__law_other
  have B_d__law_other : Binds K x_d__law_other ["_law_pot_here", "_law_test_here"] [] := F_d__law_other.binds fun _ _ _ _ _ _ us hl => match us, hl with | [_, _], _ => rfl
  obtain ⟨x_d__law_spoilt, D_d__law_spoilt⟩ := d.def_ 13 (d := d__law_spoilt) rfl
  have F_d__law_spoilt : Fun K "_law_spoilt" "_law_spoilt" sSpo (He.ga K "_law_spoilt") x_d__law_spoilt := fun_of_D D_d__law_spoilt
  have B_d__law_spoilt : Binds K x_d__law_spoilt ["_law_pot_here", "_law_test_here", "_law_deep"] [] := F_d__law_spoilt.binds fun _ _ _ _ _ _ us hl => match us, hl with | [_, _, _], _ => rfl
  obtain ⟨x_d__law_right, D_d__law_right⟩ := d.def_ 14 (d := d__law_right) rfl
  have F_d__law_right : Fun K "_law_right" "_law_right" sRi (He.ga K "_law_right") x_d__law_right := fun_of_D D_d__law_right
  have B_d__law_right : Binds K x_d__law_right ["_law_kinds_here", "_law_sorts", "_law_thing"] [] := F_d__law_right.binds fun _ _ _ _ _ _ us hl => match us, hl with | [_, _, _], _ => rfl
  obtain ⟨x_d__law_round, D_d__law_round⟩ := d.def_ 15 (d := d__law_round) rfl
  have F_d__law_round : Fun K "_law_round" "_law_round" sRnd (He.ga K "_law_round") x_d__law_round := fun_of_D D_d__law_round
  have B_d__law_round : Binds K x_d__law_round ["_law_pot_here"] [] := F_d__law_round.binds fun _ _ _ _ _ _ us hl => match us, hl with | [_], _ => rfl
  obtain ⟨x_d_law, D_d_law⟩ := d.def_ 16 (d := d_law) rfl
  have F_d_law : Fun K "law" "law" sLaw (He.ga K "law") x_d_law := fun_of_D D_d_law
  have B_d_law : Binds K x_d_law ["_law_script"] [] := F_d_law.binds fun _ _ _ _ _ _ us hl => match us, hl with | [_], _ => rfl
  obtain ⟨x_dK_xinitx, D_dK_xinitx⟩ := d.def_ 17 (d := dK_xinitx) rfl
  have F_dK_xinitx : Fun K "__init__" "Kinds.__init__" sKInit (He.ma K (He.ga K "Kinds") "__init__") x_dK_xinitx := fun_of_D D_dK_xinitx
  have B_dK_xinitx : Binds K x_dK_xinitx ["self", "pairs"] [] := F_dK_xinitx.binds fun _ _ _ _ _ _ us hl => match us, hl with | [_, _], _ => rfl
  obtain ⟨x_dK_is_kind, D_dK_is_kind⟩ := d.def_ 18 (d := dK_is_kind) rfl
  have F_dK_is_kind : Fun K "is_kind" "Kinds.is_kind" sIsKind (He.ma K (He.ga K "Kinds") "is_kind") x_dK_is_kind := fun_of_D D_dK_is_kind
  have B_dK_is_kind : Binds K x_dK_is_kind ["self", "thing"] [] := F_dK_is_kind.binds fun _ _ _ _ _ _ us hl => match us, hl with | [_, _], _ => rfl
  obtain ⟨x_dK__check_new, D_dK__check_new⟩ := d.def_ 19 (d := dK__check_new) rfl
  have F_dK__check_new : Fun K "_check_new" "Kinds._check_new" sChkNew (He.ma K (He.ga K "Kinds") "_check_new") x_dK__check_new := fun_of_D D_dK__check_new
  have B_dK__check_new : Binds K x_dK__check_new ["self", "name", "above"] [] := F_dK__check_new.binds fun _ _ _ _ _ _ us hl => match us, hl with | [_, _, _], _ => rfl
  have z_isinstance : mg "isinstance" = none := He.free_ok X G (fct (.free "isinstance") (by simp [fa]))
  have z_int : mg "int" = none := He.free_ok X G (fct (.free "int") (by simp [fa]))
  have z_bool : mg "bool" = none := He.free_ok X G (fct (.free "bool") (by simp [fa]))
  have z_str : mg "str" = none := He.free_ok X G (fct (.free "str") (by simp [fa]))
  have z_len : mg "len" = none := He.free_ok X G (fct (.free "len") (by simp [fa]))
  have z_all : mg "all" = none := He.free_ok X G (fct (.free "all") (by simp [fa]))
  have z_max : mg "max" = none := He.free_ok X G (fct (.free "max") (by simp [fa]))
  have z_min : mg "min" = none := He.free_ok X G (fct (.free "min") (by simp [fa]))
  have z_range : mg "range" = none := He.free_ok X G (fct (.free "range") (by simp [fa]))
  have z_tuple : mg "tuple" = none := He.free_ok X G (fct (.free "tuple") (by simp [fa]))
  have z_list : mg "list" = none := He.free_ok X G (fct (.free "list") (by simp [fa]))
  have g_is_text : mg "is_text" = some (.ref (He.ga K "is_text")) := He.glo_ok X G (fct (.glo "is_text") (by simp [fa]))
  have g_is_name : mg "is_name" = some (.ref (He.ga K "is_name")) := He.glo_ok X G (fct (.glo "is_name") (by simp [fa]))
  have g__law_pot : mg "_law_pot" = some (.ref (He.ga K "_law_pot")) := He.glo_ok X G (fct (.glo "_law_pot") (by simp [fa]))
  have g__law_digit : mg "_law_digit" = some (.ref (He.ga K "_law_digit")) := He.glo_ok X G (fct (.glo "_law_digit") (by simp [fa]))
  have g__law_text : mg "_law_text" = some (.ref (He.ga K "_law_text")) := He.glo_ok X G (fct (.glo "_law_text") (by simp [fa]))
  have g__law_name : mg "_law_name" = some (.ref (He.ga K "_law_name")) := He.glo_ok X G (fct (.glo "_law_name") (by simp [fa]))
  have g__law_kinds : mg "_law_kinds" = some (.ref (He.ga K "_law_kinds")) := He.glo_ok X G (fct (.glo "_law_kinds") (by simp [fa]))
  have g__law_texts : mg "_law_texts" = some (.ref (He.ga K "_law_texts")) := He.glo_ok X G (fct (.glo "_law_texts") (by simp [fa]))
  have g__law_test : mg "_law_test" = some (.ref (He.ga K "_law_test")) := He.glo_ok X G (fct (.glo "_law_test") (by simp [fa]))
  have g_is_test : mg "is_test" = some (.ref (He.ga K "is_test")) := He.glo_ok X G (fct (.glo "is_test") (by simp [fa]))
  have g__is_single : mg "_is_single" = some (.ref (He.ga K "_is_single")) := He.glo_ok X G (fct (.glo "_is_single") (by simp [fa]))
  have g__law_is_test : mg "_law_is_test" = some (.ref (He.ga K "_law_is_test")) := He.glo_ok X G (fct (.glo "_law_is_test") (by simp [fa]))
  have g__law_other : mg "_law_other" = some (.ref (He.ga K "_law_other")) := He.glo_ok X G (fct (.glo "_law_other") (by simp [fa]))
  have g__law_spoilt : mg "_law_spoilt" = some (.ref (He.ga K "_law_spoilt")) := He.glo_ok X G (fct (.glo "_law_spoilt") (by simp [fa]))
  have g__law_right : mg "_law_right" = some (.ref (He.ga K "_law_right")) := He.glo_ok X G (fct (.glo "_law_right") (by simp [fa]))
  have g__law_round : mg "_law_round" = some (.ref (He.ga K "_law_round")) := He.glo_ok X G (fct (.glo "_law_round") (by simp [fa]))
  have g_law : mg "law" = some (.ref (He.ga K "law")) := He.glo_ok X G (fct (.glo "law") (by simp [fa]))
  have g_Kinds : mg "Kinds" = some (.ref (He.ga K "Kinds")) := He.glo_ok X G (fct (.glo "Kinds") (by simp [fa]))
  have cl_Kinds := He.cls_ok (fct (.cls "Kinds") (by simp [fa]))
  have mk_Kinds := He.mkr_ok (fct (.mkr "Kinds") (by simp [fa]))
  have nA := He.noat_ok (fct (.noat "Kinds" "_above") (by simp [fa]))
  have k_is_kind := He.meth_ok (fct (.meth "Kinds" "is_kind") (by simp [fa]))
  have k__check_new := He.meth_ok (fct (.meth "Kinds" "_check_new") (by simp [fa]))
  have g__TESTS_BEHIND : mg "_TESTS_BEHIND" = some (.ref (He.ga K "_TESTS_BEHIND")) := He.glo_ok X G (fct (.glo "_TESTS_BEHIND") (by simp [fa]))
  -- the law's own object, the code of is_name
  have efa : fa0 = He.ga K "law" := by
    have e := hfa.symm.trans g_law
    cases e
    rfl
  subst efa
  obtain ⟨oc, od, dV, kV, doc, pm, an, cdv, ct, osl, exl, lkl, hcl, hdl, _⟩ := D_d_law.ex
  obtain ⟨oc2, od2, dV2, kV2, doc2, pm2, an2, cdv2, ct2, osl2, exn, lkn, hcn, hdn, _⟩ := D_d_is_name.ex
  obtain ⟨co, eco⟩ := He.codeIn_ref hcn
  have eco2 : He.codeOf K ("is_name", none) = co := He.codeOf_eq (p := ("is_name", none)) lkn (by rw [exn]; exact eco)
  have hd1 := c.hd ("is_name", none) List.mem_cons_self
  have hd2 := c.out ("is_name", none) List.mem_cons_self
  have hd3 := c.empty ("is_name", none) List.mem_cons_self
  have ecT : (He.cT K ("is_name", none)).1 = co := eco2
  rw [ecT] at hd1
  subst exl exn eco
  refine ⟨co, (He.cT K ("is_name", none)).2, dV, kV, doc, pm, cdv, ct, oc, an, od, osl, lkl, hcl, fun s u => ?_, hd3, hd2, hd1, ?_⟩
  · have hdV : dV = .none := by
      rcases hdl with q | q
      · exact q.2
      · exact (q.1 rfl).elim
    subst hdV
    exact .of_eq rfl
  intro base kB TB A0 outer s H vs Q Es hg hr hsp
  have TK : KTxt K mg (He.ga K "Kinds") (He.ma K (He.ga K "Kinds") "__init__") (He.ma K (He.ga K "Kinds") "is_kind") (He.ma K (He.ga K "Kinds") "_check_new") := ⟨cl_Kinds, nA, k_is_kind, k__check_new⟩
  have oPot := ok_pot (P := P) (w := w) (base := base) F_d__law_pot z_len z_max
  have oDig := ok_digit (P := P) (w := w) (mg := mg) (base := base) F_d__law_digit
  have oName := ok_name F_d__law_name oDig g__law_digit F_d__law_digit.kp B_d__law_digit z_range
  have oText := ok_text F_d__law_text oDig g__law_digit F_d__law_digit.kp B_d__law_digit z_range z_int
  have oIsText := ok_isText (P := P) (w := w) (base := base) F_d_is_text z_isinstance z_str
  have oIsName := ok_isName lkn hcn TB oIsText g_is_text F_d_is_text.kp B_d_is_text z_len z_all
  have oIsKind := ok_isKind F_dK_is_kind TK oIsText g_is_text F_d_is_text.kp B_d_is_text
  have oChkNew := ok_chkNew F_dK__check_new TK oIsName g_is_name F_d_is_name.kp B_d_is_name oIsKind B_dK_is_kind
  have oKInit := ok_kInit F_dK_xinitx TK oChkNew B_dK__check_new
  have oKds := ok_kds F_d__law_kinds oDig g__law_digit F_d__law_digit.kp B_d__law_digit oName g__law_name F_d__law_name.kp B_d__law_name z_len z_range
  have oTxs := ok_txs F_d__law_texts oText g__law_text F_d__law_text.kp B_d__law_text
  have oTst := ok_tst F_d__law_test g__law_test F_d__law_test.kp B_d__law_test oDig g__law_digit F_d__law_digit.kp B_d__law_digit z_len
  have mo := c.more
  unfold exB at mo
  simp only [Bool.and_eq_true, decide_eq_true_eq] at mo
  obtain ⟨x0, x1, x2, x3, x4, x5, x6⟩ := mo
  have TB2 : TBy K mg w (He.ga K "_TESTS_BEHIND") := ⟨⟨g__TESTS_BEHIND, c.t.tab 0, intB_ok x1, intB_ok x2, intB_ok x3, x4, x5, x6⟩, only_no x0⟩
  have oTxT := ok_txT (P := P) (w := w) (base := base) F_d_is_text z_isinstance z_str
  have oKdT := ok_kdT F_dK_is_kind TK oTxT g_is_text F_d_is_text.kp B_d_is_text
  have oSiT := ok_siT F_d__is_single TK oKdT B_dK_is_kind oTxT g_is_text F_d_is_text.kp B_d_is_text z_len
  have oTe := ok_isTT F_d_is_test TB2 oSiT g__is_single F_d__is_single.kp B_d__is_single oTxT g_is_text F_d_is_text.kp B_d_is_text z_len z_isinstance z_tuple
  have oLt := ok_lt (P := P) (w := w) (base := base) F_d__law_is_test g__law_is_test F_d__law_is_test.kp B_d__law_is_test z_len z_isinstance z_tuple z_str 16 (by decide)
  have oOth := ok_oth F_d__law_other oDig B_d__law_digit g__law_digit F_d__law_digit.kp z_len z_list
  have oSpo := ok_spo F_d__law_spoilt g__law_spoilt F_d__law_spoilt.kp B_d__law_spoilt oDig B_d__law_digit g__law_digit F_d__law_digit.kp oOth B_d__law_other g__law_other F_d__law_other.kp z_len 8
  have oRi := ok_ri F_d__law_right oTe B_d_is_test g_is_test F_d_is_test.kp oLt B_d__law_is_test g__law_is_test F_d__law_is_test.kp z_isinstance z_bool
  have TR : RDx K mg (He.ga K "Kinds") _ _ _ _ _ _ _ _ := ⟨g_Kinds, mk_Kinds, g__law_kinds, F_d__law_kinds.kp, g__law_texts, F_d__law_texts.kp, g__law_test, F_d__law_test.kp, g__law_digit, F_d__law_digit.kp, g__law_spoilt, F_d__law_spoilt.kp, g__law_right, F_d__law_right.kp, g_is_test, F_d_is_test.kp, z_list, z_range⟩
  have oRnd := ok_rnd F_d__law_round TR oKds B_d__law_kinds oTxs B_d__law_texts (oTst 4) B_d__law_test oDig B_d__law_digit oKInit B_dK_xinitx oSpo B_d__law_spoilt oRi B_d__law_right oTe B_d_is_test
  have TA : ATxt K mg _ _ := ⟨g__law_pot, F_d__law_pot.kp, g__law_round, F_d__law_round.kp, z_len, z_max, z_min, z_range, z_all⟩
  exact law_body (by decide) TA oPot B_d__law_pot oRnd B_d__law_round cdv A0 outer s H vs Q Es hg hr hsp
end
end Fs
open PySem PySem.W PySem.Calls PyProof.Rows
set_option maxHeartbeats 0 in
theorem PySem.Challenge.cw_faultsheaves_k21_tests_judged_holds : PySem.Challenge.rw_faultsheaves_k21_tests_judged.Holds := by
  w_on; o_law
  refine HandSHeadRun.head_any (r := OpenLaw.row PySem.Challenge.rw_faultsheaves_k21_tests_judged) (q := view (OpenLaw.row PySem.Challenge.rw_faultsheaves_k21_tests_judged).prog [26]) (H := Fs.hk) (ob := Fs.ob) (M := 9000) (loose := Fs.loose) (d := HandSHeadRun.topDef (OpenLaw.row PySem.Challenge.rw_faultsheaves_k21_tests_judged).prog 26) (kwd := []) Fs.ob_eq
    (by kernel_rfl) (fun s => by kernel_rfl) Fs.run (by kernel_rfl) (by kernel_rfl) (by kernel_rfl) (by rfl) (by first | assumption | decide +kernel) (by decide +kernel) ⟨rfl, rfl, rfl, rfl, rfl, by decide +kernel⟩ ?hw ?hc
  case hw => w_witness2
  case hc =>
    refine Att.attach_callB (l := PySem.Challenge.rw_faultsheaves_k21_tests_judged) (n := 63) rfl (by kernel_rfl) fun w s₀ s₁ mg mb fa o pm cd doc a vs ns G Y ho hd hcd hmg hobj hints hlen hbits hg => ?_
    obtain ⟨K, KX, c⟩ := Y
    have hmg' : mg ("law" : PySem.Str) = some (.ref fa) := by
      have e : (HandSHeadRun.topDef (OpenLaw.row PySem.Challenge.rw_faultsheaves_k21_tests_judged).prog 26).name = ("law" : PySem.Str) := by kernel_rfl
      rw [← e]
      exact hmg
    obtain ⟨co, Pt, dV, kV, doc', pm', cdv, ct, oc, an, od, osl, lk, hc', bd, hT, nT, hh, body⟩ := Fs.all (P := (PySem.Challenge.rw_faultsheaves_k21_tests_judged).prog) (w := w) KX G.T.g hmg' c
    exact Fs.law_here lk hc' ⟨rfl, by decide, by decide⟩ bd KX G.T.g G.T.b G.T.builtins G.T.nolimit hg hT nT hh G.T.bmain hobj hints hlen body
