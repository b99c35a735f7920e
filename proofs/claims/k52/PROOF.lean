import PyProof.Rows.All
import Wide.All
import OpenK.AllK
import Wide.FinOn
import HandS.ForMost
import HandS.AnyAll
import HandS.IsInst
import HandS.EndTab
import HandS.Head0
import HandS.Head1
import HandS.Head2
import HandS.HeadEnd
import HandS.HeadHook4
import HandS.HeadWalk
import HandS.SortKw
import PyProof.WalkInts
import HandS.Defaults
import HandS.RaiseMore
import HandS.Conv
import HandS.More
import HandS.NoneIn
import HandS.TupAny
import HandS.BoundList
import HandS.Iter
import HandS.Walk
import HandS.Style
import HandS.RevRange
import HandS.SortInts
import HandS.SetKeys
import HandS.Zip
import HandS.DictEq
import HandS.DictComp
import PyProof.DictMoreH
import PySem.Challenge.RW_faultsheaves_k52_hands
set_option Elab.async false
set_option linter.all false
set_option maxRecDepth 100000
set_option maxHeartbeats 16000000
/-! The text by places; what is kept of a heap; the pot and its digits. -/
namespace Fs
open PySem L2
def top (i : Nat) : Stmt := PySem.Challenge.pw_faultsheaves_k52_hands.main.body.getD i (.Pass ⟨0, 0, 0, 0⟩)

/-! ### heaps -/
/-- all that was tracked stands, but at the places of ex -/
def Keep (ex : List Addr) (H H' : Hp) : Prop := ∀ b o, b ∉ ex → H b = some o → H' b = some o
theorem Keep.refl (ex : List Addr) (H : Hp) : Keep ex H H := fun _ _ _ h => h
theorem Keep.trans {ex : List Addr} {H H1 H2 : Hp} (a : Keep ex H H1) (b : Keep ex H1 H2) : Keep ex H H2 := fun c o n h => b c o n (a c o n h)
theorem Keep.more {ex ex' : List Addr} {H H' : Hp} (a : Keep ex H H') (h : ∀ b, b ∈ ex → b ∈ ex') : Keep ex' H H' := fun c o n q => a c o (fun z => n (h c z)) q
theorem Keep.at {ex : List Addr} {H H' : Hp} (a : Keep ex H H') {b : Addr} {o : HO} (h : H b = some o) (n : b ∉ ex) : H' b = some o := a b o n h
theorem Keep.new {ex : List Addr} {H : Hp} {p : Addr} {o : HO} (h : H p = none) : Keep ex H (upd H p o) := fun b u _ q => by
  rw [upd_ne (ne_of_none q h)]
  exact q
theorem Keep.own {ex : List Addr} {H : Hp} {p : Addr} {o : HO} (h : p ∈ ex) : Keep ex H (upd H p o) := fun b u n q => by
  rw [upd_ne (fun z => n (by rw [z]; exact h))]
  exact q
theorem Keep.newTo {ex : List Addr} {H H1 : Hp} {p : Addr} {o : HO} (a : Keep ex H H1) (h : H1 p = none) : Keep ex H (upd H1 p o) := a.trans (.new h)
theorem Keep.ownTo {ex : List Addr} {H H1 : Hp} {p : Addr} {o : HO} (a : Keep ex H H1) (h : p ∈ ex) : Keep ex H (upd H1 p o) := a.trans (.own h)
theorem Keep.ne {ex : List Addr} {H H' : Hp} (a : Keep ex H H') {b p : Addr} {o : HO} (h : H b = some o) (n : b ∉ ex) (hp : H' p = none) : b ≠ p := ne_of_none (a.at h n) hp
theorem Keep.free {ex : List Addr} {H H' : Hp} (a : Keep ex H H') {p : Addr} (hp : H' p = none) (n : p ∉ ex) : H p = none := by
  cases q : H p with
  | none => rfl
  | some o =>
    rw [a p o n q] at hp
    cases hp
theorem Keep.seq {K : PySem.W.Frag} {ex : List Addr} {H H' : Hp} {a : Addr} {xs : List V} (e : Keep ex H H') (n : a ∉ ex) (h : SqL K H a xs) : SqL K H' a xs := by
  rcases h with (h | ⟨o, h⟩) | h
  · exact .inl (.inl (e _ _ n h))
  · exact .inl (.inr ⟨o, e _ _ n h⟩)
  · exact .inr h
theorem Keep.same {H H' : Hp} (a : Keep [] H H') : Same H H' := fun b o h => a b o (fun z => nomatch z) h
theorem nin1 {a b : Addr} (h : a ≠ b) : a ∉ [b] := fun z => h (List.mem_singleton.mp z)
theorem nin0 {a : Addr} : a ∉ ([] : List Addr) := fun z => nomatch z
theorem in1 {a : Addr} : a ∈ [a] := List.mem_singleton.mpr rfl

/-! ### the pot -/
/-- a list of three whole numbers, none below nought, the second one small, the third one at most n -/
def PotAt (H : Hp) (p : Addr) (n : Nat) : Prop := ∃ a b c : Int, H p = some (.lst [.int a, .int b, .int c]) ∧ 0 ≤ a ∧ 0 ≤ b ∧ b < 2147483647 ∧ 0 ≤ c ∧ c ≤ (n : Int)
theorem PotAt.le {H : Hp} {p : Addr} {n m : Nat} (h : PotAt H p n) (l : n ≤ m) : PotAt H p m := by
  obtain ⟨a, b, c, h1, h2, h3, h4, h5, h6⟩ := h
  exact ⟨a, b, c, h1, h2, h3, h4, h5, by omega⟩
theorem PotAt.some {H : Hp} {p : Addr} {n : Nat} (h : PotAt H p n) : ∃ xs, H p = some (.lst xs) := by
  obtain ⟨a, b, c, h1, _⟩ := h
  exact ⟨_, h1⟩
theorem PotAt.keep {H H' : Hp} {ex : List Addr} {p : Addr} {n : Nat} (h : PotAt H p n) (k : Keep ex H H') (m : p ∉ ex) : PotAt H' p n := by
  obtain ⟨a, b, c, h1, h2⟩ := h
  exact ⟨a, b, c, k.at h1 m, h2⟩

abbrev sPot : Stmt := top 30
abbrev sDigit : Stmt := top 31
abbrev nPot : List Str := ["_law_script", "_law_k", "_law_cell", "_law_seed"]
abbrev nDigit : List Str := ["_law_pot_here", "_law_many", "_law_digit_here", "_law_mixed"]
theorem scPot : FnScope nPot ["_law_script", "_law_k"] (defScope sPot) := ⟨rfl, rfl, rfl, by decide +kernel, rfl, by decide +kernel, by decide +kernel⟩
theorem scDigit : FnScope nDigit ["_law_pot_here", "_law_many"] (defScope sDigit) := ⟨rfl, rfl, rfl, by decide +kernel, rfl, by decide +kernel, by decide +kernel⟩
/-- the script stands to be read; a new pot -/
def spPot (K : PySem.W.Frag) : Sp := fun vs H Q _ => ∃ (a : Addr) (ns : List Int) (k : Nat), vs = [.ref a, .int (k : Int)] ∧ SqL K H a (ns.map V.int) ∧ k < 1000 ∧
  ∀ (p : Addr) (H' : Hp), H p = none → Keep [] H H' → PotAt H' p 0 → Q (.ref p) H'
/-- a digit below many; the pot has one step more at the most -/
def spDigit : Sp := fun vs H Q _ => ∃ (p : Addr) (n : Nat) (m : Int), vs = [.ref p, .int m] ∧ PotAt H p n ∧ n < 2 ^ 40 ∧ 0 < m ∧ m < 1073741824 ∧
  ∀ (d : Int) (H' : Hp), 0 ≤ d → d < m → (∀ b, b ≠ p → H' b = H b) → PotAt H' p (n + 1) → Q (.int d) H'
section
variable {P : Program} {w : World} {K : PySem.W.Frag} {mg : Str → Option Value} {base : Heap}
theorem at3 {K : PySem.W.Frag} {H : Hp} {p : Addr} {a b c : V} (h : H p = some (.lst [a, b, c])) : SqL K H p [a, b, c] := SqL.of h
theorem ok_digit {f : Addr} {fd : FuncData} (F : Fun K "_law_digit" "_law_digit" sDigit f fd) : FnOk P w K mg base CX0 1 f fd ["_law_pot_here", "_law_many"] spDigit := by
  refine F.ok scDigit (fun vs H Q E h => ?_) (fun cdv A outer s H vs Q E hr h => ?_)
  · obtain ⟨p, n, m, rfl, _⟩ := h
    rfl
  · obtain ⟨p, n, m, rfl, ⟨a, b, c, hp, ha, hb, hb2, hc, hc2⟩, hn, hm, hm2, k⟩ := h
    refine ⟨_, pss_cons (ps_if (pt_cmpR op_gt (pe_ix ix_list (pv 0) pe_int (fun _ _ => rfl)) pe_int (nomark _))
        (pss_cons (ps_set (i := 2) scDigit.nd rfl (Or.inl rfl) (pe_op op_mod (pe_ix ix_list (pv 0) pe_int (fun _ _ => rfl)) (pv 1)))
          (pss_cons (ps_asg (pe_op op_fdiv (pe_ix ix_list (pv 0) pe_int (fun _ _ => rfl)) (pv 1)) (pg_sub (pv 0) pe_int set_list))
          (pss_one (ps_ret (pv 2))))) pss_nil)
      (pss_cons (ps_asg (pe_op op_add (pe_ix ix_list (pv 0) pe_int (fun _ _ => rfl)) pe_int) (pg_sub (pv 0) pe_int set_list))
      (pss_cons (ps_asg (pe_op op_mod (pe_op op_add (pe_op op_add (pe_op op_mul (pe_ix ix_list (pv 0) pe_int (fun _ _ => rfl)) pe_int)
          (pe_op op_mul (pe_op op_mul (pe_ix ix_list (pv 0) pe_int (fun _ _ => rfl)) (pe_ix ix_list (pv 0) pe_int (fun _ _ => rfl))) pe_int)) pe_int) pe_int) (pg_sub (pv 0) pe_int set_list))
      (pss_cons (ps_set (i := 3) scDigit.nd rfl (Or.inl rfl) (pe_op op_mod (pe_op op_mul (pe_ix ix_list (pv 0) pe_int (fun _ _ => rfl)) (pe_ix ix_list (pv 0) pe_int (fun _ _ => rfl))) pe_int))
      (pss_one (ps_ret (pe_op op_mod (pe_op op_fdiv (pe_op op_mod (pe_op op_mul (pv 3) (pe_op op_add (pe_op op_mod (pv 3) pe_int) pe_int)) pe_int) pe_int) (pv 1))))))), ?_⟩
    have h3 := at3 (K := K) hp
    refine ⟨_, rfl, p, _, _, _, rfl, rfl, h3, rfl, _, _, rfl, rfl, _, rfl, ?_⟩
    refine ite2 (fun hd => ?_) (fun hd => ?_)
    · refine ⟨_, rfl, p, _, _, _, rfl, rfl, h3, rfl, _, rfl, a, m, rfl, rfl, hm, ?_⟩
      refine ⟨_, rfl, p, _, _, _, rfl, rfl, h3, rfl, _, rfl, a, m, rfl, rfl, ⟨hm, hm2⟩, ?_⟩
      refine ⟨_, rfl, p, _, _, 0, rfl, rfl, hp, rfl, ?_⟩
      refine ⟨_, rfl, ?_⟩
      refine k (a % m) _ (Int.emod_nonneg a (by omega)) (Int.emod_lt_of_pos a hm) (fun b hb => upd_ne hb) ⟨a / m, b, c, upd_same, Int.ediv_nonneg ha (by omega), hb, hb2, hc, by omega⟩
    · refine ⟨_, rfl, p, _, _, _, rfl, rfl, h3, rfl, _, _, rfl, rfl, ?_⟩
      refine ⟨_, rfl, p, _, _, 2, rfl, rfl, hp, rfl, ?_⟩
      have e1 : upd H p (.lst [.int a, .int b, .int (c + 1)]) p = some (.lst [.int a, .int b, .int (c + 1)]) := upd_same
      have h4 := at3 (K := K) e1
      have hcM : -(2 ^ 64) < c + 1 ∧ c + 1 < 2 ^ 64 := by omega
      refine ⟨_, rfl, p, _, _, _, rfl, rfl, h4, rfl, _, _, rfl, rfl, .inl (by omega), ?_⟩
      refine ⟨_, rfl, p, _, _, _, rfl, rfl, h4, rfl, _, rfl, p, _, _, _, rfl, rfl, h4, rfl, _, _, rfl, rfl, .inl hcM, ?_⟩
      refine ⟨_, _, rfl, rfl, .inr (by decide), _, _, rfl, rfl, _, _, rfl, rfl, _, _, rfl, rfl, (by show (0 : Int) < 2147483647; decide), ?_⟩
      refine ⟨_, rfl, p, _, _, 1, rfl, rfl, e1, rfl, ?_⟩
      have f1 := Int.emod_nonneg (b * 39373 + (c + 1) * (c + 1) * 104729 + 7) (by decide : (2147483647 : Int) ≠ 0)
      have f2 := Int.emod_lt_of_pos (b * 39373 + (c + 1) * (c + 1) * 104729 + 7) (by decide : (0 : Int) < 2147483647)
      have e2 : upd (upd H p (.lst [.int a, .int b, .int (c + 1)])) p (.lst [.int a, .int ((b * 39373 + (c + 1) * (c + 1) * 104729 + 7) % 2147483647), .int (c + 1)]) p = some (.lst [.int a, .int ((b * 39373 + (c + 1) * (c + 1) * 104729 + 7) % 2147483647), .int (c + 1)]) := upd_same
      have h5 := at3 (K := K) e2
      refine ⟨_, rfl, p, _, _, _, rfl, rfl, h5, rfl, _, rfl, p, _, _, _, rfl, rfl, h5, rfl, _, _, rfl, rfl, .inl ⟨Int.lt_of_lt_of_le (by decide) f1, Int.lt_trans f2 (by decide)⟩, _, _, rfl, rfl, (by show (0 : Int) < 2147483629; decide), ?_⟩
      have mb : ∀ z : Int, -(2 ^ 64) < z % 2147483629 ∧ z % 2147483629 < 2 ^ 64 := fun z => by
        have g1 := Int.emod_nonneg z (by decide : (2147483629 : Int) ≠ 0)
        have g2 := Int.emod_lt_of_pos z (by decide : (0 : Int) < 2147483629)
        omega
      refine ⟨_, rfl, _, rfl, _, _, rfl, rfl, (by show (0 : Int) < 65521; decide), _, _, rfl, rfl, ?_⟩
      refine ⟨_, _, rfl, rfl, .inl (mb _), _, _, rfl, rfl, (by show (0 : Int) < 2147483587; decide), _, _, rfl, rfl, ⟨by decide, by decide⟩, _, rfl, _, _, rfl, rfl, hm, ?_⟩
      refine k _ _ (Int.emod_nonneg _ (by omega)) (Int.emod_lt_of_pos _ hm) (fun z hz => by rw [upd_ne hz, upd_ne hz]) ⟨a, _, c + 1, upd_same, ha, f1, f2, by omega, by omega⟩
theorem ok_pot {f : Addr} {fd : FuncData} (F : Fun K "_law_pot" "_law_pot" sPot f fd) (mL : mg "len" = none) (mM : mg "max" = none) : FnOk P w K mg base CX0 1 f fd ["_law_script", "_law_k"] (spPot K) := by
  refine F.ok scPot (fun vs H Q E h => ?_) (fun cdv A outer s H vs Q E hr h => ?_)
  · obtain ⟨a, ns, k, rfl, _⟩ := h
    rfl
  · obtain ⟨a, ns, k, rfl, hS, hk, kk⟩ := h
    refine ⟨_, pss_cons (ps_set (i := 2) scPot.nd rfl (Or.inl rfl) pe_int)
      (pss_cons (ps_if (pt_cmpR op_lt (pv 1) (pe_callB call_len_seq (by rfl) mL PySem.boot_len (pa_cons (pv 0) pa_nil)) (nomark _))
        (pss_one (ps_set (i := 2) scPot.nd rfl (Or.inl rfl) (pe_ix ix_list (pv 0) (pv 1) (fun _ _ => rfl)))) pss_nil)
      (pss_cons (ps_set (i := 3) scPot.nd rfl (Or.inl rfl) (pe_op op_mod (pe_op op_add (pe_op op_add (pe_op op_mul (pe_op op_mod (pv 2) pe_int) pe_int) (pe_op op_mul (pe_op op_mul pe_int (pv 1)) (pv 1))) pe_int) pe_int))
      (pss_one (ps_ret (pe_lst (pa_cons (pe_callB (call_max2 rfl) (by rfl) mM (by decide +kernel) (pa_cons pe_int (pa_cons (pe_op op_sub (pv 2) (pe_op op_pow pe_int pe_int)) pa_nil))) (pa_cons (pv 3) (pa_cons pe_int pa_nil)))))))), ?_⟩
    have fin : ∀ c : Int, tSeq (tAsg (tOp (rI (fun _ j => 0 < j) fun i j => .int (i % j)) (tOp (rI0 fun i j => .int (i + j)) (tOp (rI0 fun i j => .int (i + j)) (tOp (rI CMul fun i j => .int (i * j)) (tOp (rI (fun _ j => 0 < j) fun i j => .int (i % j)) (tVar 2) (tC (.int 2147483629))) (tC (.int 48271))) (tOp (rI CMul fun i j => .int (i * j)) (tOp (rI CMul fun i j => .int (i * j)) (tC (.int 7919)) (tVar 1)) (tVar 1))) (tC (.int 13))) (tC (.int 2147483647))) (gName 3))
        (tRet (tLst (tCons (tCB (fun xs H Q => ∃ i j, xs = [.int i, .int j] ∧ Q (.int (if j > i then j else i)) H) (tCons (tC (.int 0)) (tCons (tOp (rI0 fun i j => .int (i - j)) (tVar 2) (tOp (rI CPow fun i j => .int (i ^ j.toNat)) (tC (.int 10)) (tC (.int 18)))) tNil))) (tCons (tVar 3) (tCons (tC (.int 0)) tNil))))) { nx := fun _ H' => Q .non H', rt := Q } [some (.ref a), some (.int (k : Int)), some (.int c), none] H := by
      intro c
      refine ⟨_, rfl, _, _, rfl, rfl, (by show (0 : Int) < 2147483629; decide), _, _, rfl, rfl, .inr (by decide), _, rfl, _, _, rfl, rfl, .inl (by decide), ?_⟩
      refine ⟨_, rfl, _, _, rfl, rfl, .inr (by omega), _, _, rfl, rfl, _, _, rfl, rfl, _, _, rfl, rfl, (by show (0 : Int) < 2147483647; decide), ?_⟩
      refine ⟨_, rfl, _, _, rfl, rfl, ⟨by decide, by decide, by decide⟩, _, _, rfl, rfl, _, _, rfl, ?_⟩
      refine ⟨_, rfl, (by show 3 ≤ sizeLine; decide), fun p hp => ?_⟩
      refine kk p _ hp (Keep.new hp) ⟨_, _, _, upd_same, ?_, Int.emod_nonneg _ (by decide), Int.emod_lt_of_pos _ (by decide), Int.le_refl _, Int.le_refl _⟩
      split <;> omega
    refine ⟨_, rfl, _, rfl, a, _, rfl, .inl hS, _, _, rfl, rfl, _, rfl, ?_⟩
    refine ite2 (fun hd => ?_) (fun hd => ?_)
    · have hd2 : k < ns.length := by
        have z := of_decide_eq_true hd
        rw [List.length_map] at z
        omega
      refine ⟨_, rfl, _, rfl, a, _, _, (V.int ns[k]), rfl, rfl, hS, atI_nat (by rw [List.getElem?_map, List.getElem?_eq_getElem hd2]; rfl), ?_⟩
      exact fin _
    · exact fin 0
end
end Fs
/-! The head: what the top has written, by names; the end. -/
namespace Fs
open PySem L2 TL
def d_is_whole : He.DefD := ⟨("is_whole", none), "is_whole", "is_whole", defArgs (top 2), defBody (top 2), defScope (top 2), [], []⟩
def d_is_text : He.DefD := ⟨("is_text", none), "is_text", "is_text", defArgs (top 3), defBody (top 3), defScope (top 3), [], []⟩
def d_is_name : He.DefD := ⟨("is_name", none), "is_name", "is_name", defArgs (top 4), defBody (top 4), defScope (top 4), [], []⟩
def d__law_pot : He.DefD := ⟨("_law_pot", none), "_law_pot", "_law_pot", defArgs (top 30), defBody (top 30), defScope (top 30), [], []⟩
def d__law_digit : He.DefD := ⟨("_law_digit", none), "_law_digit", "_law_digit", defArgs (top 31), defBody (top 31), defScope (top 31), [], []⟩
def d__law_text : He.DefD := ⟨("_law_text", none), "_law_text", "_law_text", defArgs (top 32), defBody (top 32), defScope (top 32), [], []⟩
def d__law_name : He.DefD := ⟨("_law_name", none), "_law_name", "_law_name", defArgs (top 33), defBody (top 33), defScope (top 33), [], []⟩
def d__law_kinds : He.DefD := ⟨("_law_kinds", none), "_law_kinds", "_law_kinds", defArgs (top 34), defBody (top 34), defScope (top 34), [], []⟩
def d__law_texts : He.DefD := ⟨("_law_texts", none), "_law_texts", "_law_texts", defArgs (top 35), defBody (top 35), defScope (top 35), [], []⟩
def d__law_members : He.DefD := ⟨("_law_members", none), "_law_members", "_law_members", defArgs (top 36), defBody (top 36), defScope (top 36), [], []⟩
def d__law_faults : He.DefD := ⟨("_law_faults", none), "_law_faults", "_law_faults", defArgs (top 37), defBody (top 37), defScope (top 37), [], []⟩
def d__law_tower : He.DefD := ⟨("_law_tower", none), "_law_tower", "_law_tower", defArgs (top 38), defBody (top 38), defScope (top 38), [], []⟩
def d__law_row : He.DefD := ⟨("_law_row", none), "_law_row", "_law_row", defArgs (top 39), defBody (top 39), defScope (top 39), [], []⟩
def d__law_some : He.DefD := ⟨("_law_some", none), "_law_some", "_law_some", defArgs (top 40), defBody (top 40), defScope (top 40), [], []⟩
def d__law_ledger : He.DefD := ⟨("_law_ledger", none), "_law_ledger", "_law_ledger", defArgs (top 41), defBody (top 41), defScope (top 41), [], []⟩
def d__law_rise : He.DefD := ⟨("_law_rise", none), "_law_rise", "_law_rise", defArgs (top 42), defBody (top 42), defScope (top 42), [], []⟩
def d__law_deed : He.DefD := ⟨("_law_deed", none), "_law_deed", "_law_deed", defArgs (top 43), defBody (top 43), defScope (top 43), [], []⟩
def d__law_deeds : He.DefD := ⟨("_law_deeds", none), "_law_deeds", "_law_deeds", defArgs (top 44), defBody (top 44), defScope (top 44), [], []⟩
def d__law_told : He.DefD := ⟨("_law_told", none), "_law_told", "_law_told", defArgs (top 45), defBody (top 45), defScope (top 45), [], []⟩
def d__law_under : He.DefD := ⟨("_law_under", none), "_law_under", "_law_under", defArgs (top 47), defBody (top 47), defScope (top 47), [], []⟩
def d__law_fits : He.DefD := ⟨("_law_fits", none), "_law_fits", "_law_fits", defArgs (top 48), defBody (top 48), defScope (top 48), [], []⟩
def d__law_test : He.DefD := ⟨("_law_test", none), "_law_test", "_law_test", defArgs (top 49), defBody (top 49), defScope (top 49), [], []⟩
def d_is_test : He.DefD := ⟨("is_test", none), "is_test", "is_test", defArgs (top 14), defBody (top 14), defScope (top 14), [], []⟩
def d__is_single : He.DefD := ⟨("_is_single", none), "_is_single", "_is_single", defArgs (top 17), defBody (top 17), defScope (top 17), [], []⟩
def d_check_test : He.DefD := ⟨("check_test", none), "check_test", "check_test", defArgs (top 15), defBody (top 15), defScope (top 15), [], []⟩
def d_holds : He.DefD := ⟨("holds", none), "holds", "holds", defArgs (top 16), defBody (top 16), defScope (top 16), [], []⟩
def d_part_at : He.DefD := ⟨("part_at", none), "part_at", "part_at", defArgs (top 19), defBody (top 19), defScope (top 19), [], []⟩
def d__hand : He.DefD := ⟨("_hand", none), "_hand", "_hand", defArgs (top 24), defBody (top 24), defScope (top 24), [], []⟩
def d_taken_out : He.DefD := ⟨("taken_out", none), "taken_out", "taken_out", defArgs (top 21), defBody (top 21), defScope (top 21), [], []⟩
def d__check_tests : He.DefD := ⟨("_check_tests", none), "_check_tests", "_check_tests", defArgs (top 22), defBody (top 22), defScope (top 22), [], []⟩
def d__first : He.DefD := ⟨("_first", none), "_first", "_first", defArgs (top 23), defBody (top 23), defScope (top 23), [], []⟩
def d__law_leaves : He.DefD := ⟨("_law_leaves", none), "_law_leaves", "_law_leaves", defArgs (top 46), defBody (top 46), defScope (top 46), [], []⟩
def d__law_whole : He.DefD := ⟨("_law_whole", none), "_law_whole", "_law_whole", defArgs (top 50), defBody (top 50), defScope (top 50), [], []⟩
def d__law_part_right : He.DefD := ⟨("_law_part_right", none), "_law_part_right", "_law_part_right", defArgs (top 51), defBody (top 51), defScope (top 51), [], []⟩
def d__law_top : He.DefD := ⟨("_law_top", none), "_law_top", "_law_top", defArgs (top 52), defBody (top 52), defScope (top 52), [], []⟩
def d__law_tests : He.DefD := ⟨("_law_tests", none), "_law_tests", "_law_tests", defArgs (top 53), defBody (top 53), defScope (top 53), [], []⟩
def d__law_shares : He.DefD := ⟨("_law_shares", none), "_law_shares", "_law_shares", defArgs (top 54), defBody (top 54), defScope (top 54), [], []⟩
def d__law_hand_right : He.DefD := ⟨("_law_hand_right", none), "_law_hand_right", "_law_hand_right", defArgs (top 55), defBody (top 55), defScope (top 55), [], []⟩
def d__law_taken_right : He.DefD := ⟨("_law_taken_right", none), "_law_taken_right", "_law_taken_right", defArgs (top 56), defBody (top 56), defScope (top 56), [], []⟩
def d__law_plain_or_top : He.DefD := ⟨("_law_plain_or_top", none), "_law_plain_or_top", "_law_plain_or_top", defArgs (top 57), defBody (top 57), defScope (top 57), [], []⟩
def d__law_right : He.DefD := ⟨("_law_right", none), "_law_right", "_law_right", defArgs (top 58), defBody (top 58), defScope (top 58), [], []⟩
def d__law_anew_right : He.DefD := ⟨("_law_anew_right", none), "_law_anew_right", "_law_anew_right", defArgs (top 59), defBody (top 59), defScope (top 59), [], []⟩
def d__law_round : He.DefD := ⟨("_law_round", none), "_law_round", "_law_round", defArgs (top 60), defBody (top 60), defScope (top 60), [], []⟩
def d_law : He.DefD := ⟨("law", none), "law", "law", defArgs (top 61), defBody (top 61), defScope (top 61), [], []⟩
def dL_xinitx : He.DefD := ⟨("Ledger", some "__init__"), "__init__", "Ledger.__init__", defArgs (inClass (top 28) 0), defBody (inClass (top 28) 0), defScope (inClass (top 28) 0), [], []⟩
def dL_plain : He.DefD := ⟨("Ledger", some "plain"), "plain", "Ledger.plain", defArgs (inClass (top 28) 1), defBody (inClass (top 28) 1), defScope (inClass (top 28) 1), [], []⟩
def dL_sheaf : He.DefD := ⟨("Ledger", some "sheaf"), "sheaf", "Ledger.sheaf", defArgs (inClass (top 28) 2), defBody (inClass (top 28) 2), defScope (inClass (top 28) 2), [], []⟩
def dL_many : He.DefD := ⟨("Ledger", some "many"), "many", "Ledger.many", defArgs (inClass (top 28) 4), defBody (inClass (top 28) 4), defScope (inClass (top 28) 4), [], []⟩
def dL_kind : He.DefD := ⟨("Ledger", some "kind"), "kind", "Ledger.kind", defArgs (inClass (top 28) 5), defBody (inClass (top 28) 5), defScope (inClass (top 28) 5), [], []⟩
def dL_text : He.DefD := ⟨("Ledger", some "text"), "text", "Ledger.text", defArgs (inClass (top 28) 6), defBody (inClass (top 28) 6), defScope (inClass (top 28) 6), [], []⟩
def dL_members : He.DefD := ⟨("Ledger", some "members"), "members", "Ledger.members", defArgs (inClass (top 28) 7), defBody (inClass (top 28) 7), defScope (inClass (top 28) 7), [], []⟩
def dL_notes : He.DefD := ⟨("Ledger", some "notes"), "notes", "Ledger.notes", defArgs (inClass (top 28) 8), defBody (inClass (top 28) 8), defScope (inClass (top 28) 8), [], []⟩
def dL_cause : He.DefD := ⟨("Ledger", some "cause"), "cause", "Ledger.cause", defArgs (inClass (top 28) 9), defBody (inClass (top 28) 9), defScope (inClass (top 28) 9), [], []⟩
def dL_at_work : He.DefD := ⟨("Ledger", some "at_work"), "at_work", "Ledger.at_work", defArgs (inClass (top 28) 10), defBody (inClass (top 28) 10), defScope (inClass (top 28) 10), [], []⟩
def dL_note : He.DefD := ⟨("Ledger", some "note"), "note", "Ledger.note", defArgs (inClass (top 28) 11), defBody (inClass (top 28) 11), defScope (inClass (top 28) 11), [], []⟩
def dL_blame : He.DefD := ⟨("Ledger", some "blame"), "blame", "Ledger.blame", defArgs (inClass (top 28) 12), defBody (inClass (top 28) 12), defScope (inClass (top 28) 12), [], []⟩
def dL_rise : He.DefD := ⟨("Ledger", some "rise"), "rise", "Ledger.rise", defArgs (inClass (top 28) 13), defBody (inClass (top 28) 13), defScope (inClass (top 28) 13), [], []⟩
def dL__add : He.DefD := ⟨("Ledger", some "_add"), "_add", "Ledger._add", defArgs (inClass (top 28) 18), defBody (inClass (top 28) 18), defScope (inClass (top 28) 18), [], []⟩
def dL__cut_row : He.DefD := ⟨("Ledger", some "_cut_row"), "_cut_row", "Ledger._cut_row", defArgs (inClass (top 28) 19), defBody (inClass (top 28) 19), defScope (inClass (top 28) 19), [], []⟩
def dL__check_fault_or_none : He.DefD := ⟨("Ledger", some "_check_fault_or_none"), "_check_fault_or_none", "Ledger._check_fault_or_none", defArgs (inClass (top 28) 21), defBody (inClass (top 28) 21), defScope (inClass (top 28) 21), [], []⟩
def dL__check_fault : He.DefD := ⟨("Ledger", some "_check_fault"), "_check_fault", "Ledger._check_fault", defArgs (inClass (top 28) 20), defBody (inClass (top 28) 20), defScope (inClass (top 28) 20), [], []⟩
def dL__check_text : He.DefD := ⟨("Ledger", some "_check_text"), "_check_text", "Ledger._check_text", defArgs (inClass (top 28) 22), defBody (inClass (top 28) 22), defScope (inClass (top 28) 22), [], []⟩
def dL__check_members : He.DefD := ⟨("Ledger", some "_check_members"), "_check_members", "Ledger._check_members", defArgs (inClass (top 28) 23), defBody (inClass (top 28) 23), defScope (inClass (top 28) 23), [], []⟩
def dL_kinds : He.DefD := ⟨("Ledger", some "kinds"), "kinds", "Ledger.kinds", defArgs (inClass (top 28) 16), defBody (inClass (top 28) 16), defScope (inClass (top 28) 16), [], []⟩
def dL_leaves : He.DefD := ⟨("Ledger", some "leaves"), "leaves", "Ledger.leaves", defArgs (inClass (top 28) 14), defBody (inClass (top 28) 14), defScope (inClass (top 28) 14), [], []⟩
def dL_like : He.DefD := ⟨("Ledger", some "like"), "like", "Ledger.like", defArgs (inClass (top 28) 3), defBody (inClass (top 28) 3), defScope (inClass (top 28) 3), [], []⟩
def dK_xinitx : He.DefD := ⟨("Kinds", some "__init__"), "__init__", "Kinds.__init__", defArgs (inClass (top 26) 0), defBody (inClass (top 26) 0), defScope (inClass (top 26) 0), [], []⟩
def dK_is_kind : He.DefD := ⟨("Kinds", some "is_kind"), "is_kind", "Kinds.is_kind", defArgs (inClass (top 26) 2), defBody (inClass (top 26) 2), defScope (inClass (top 26) 2), [], []⟩
def dK__check_new : He.DefD := ⟨("Kinds", some "_check_new"), "_check_new", "Kinds._check_new", defArgs (inClass (top 26) 6), defBody (inClass (top 26) 6), defScope (inClass (top 26) 6), [], []⟩
def dK__check : He.DefD := ⟨("Kinds", some "_check"), "_check", "Kinds._check", defArgs (inClass (top 26) 5), defBody (inClass (top 26) 5), defScope (inClass (top 26) 5), [], []⟩
def dK_stands_under : He.DefD := ⟨("Kinds", some "stands_under"), "stands_under", "Kinds.stands_under", defArgs (inClass (top 26) 4), defBody (inClass (top 26) 4), defScope (inClass (top 26) 4), [], []⟩
def fn : List He.DefD := [d_is_whole, d_is_text, d_is_name, d__law_pot, d__law_digit, d__law_text, d__law_name, d__law_kinds, d__law_texts, d__law_members, d__law_faults, d__law_tower, d__law_row, d__law_some, d__law_ledger, d__law_rise, d__law_deed, d__law_deeds, d__law_told, d__law_under, d__law_fits, d__law_test, d_is_test, d__is_single, d_check_test, d_holds, d_part_at, d__hand, d_taken_out, d__check_tests, d__first, d__law_leaves, d__law_whole, d__law_part_right, d__law_top, d__law_tests, d__law_shares, d__law_hand_right, d__law_taken_right, d__law_plain_or_top, d__law_right, d__law_anew_right, d__law_round, d_law, dL_xinitx, dL_plain, dL_sheaf, dL_many, dL_kind, dL_text, dL_members, dL_notes, dL_cause, dL_at_work, dL_note, dL_blame, dL_rise, dL__add, dL__cut_row, dL__check_fault_or_none, dL__check_fault, dL__check_text, dL__check_members, dL_kinds, dL_leaves, dL_like, dK_xinitx, dK_is_kind, dK__check_new, dK__check, dK_stands_under]
def fa : List He.Fa := [.glo "is_whole", .glo "is_text", .glo "is_name", .glo "_law_pot", .glo "_law_digit", .glo "_law_text", .glo "_law_name", .glo "_law_kinds", .glo "_law_texts", .glo "_law_members", .glo "_law_faults", .glo "_law_tower", .glo "_law_row", .glo "_law_some", .glo "_law_ledger", .glo "_law_rise", .glo "_law_deed", .glo "_law_deeds", .glo "_law_told", .glo "_law_under", .glo "_law_fits", .glo "_law_test", .glo "is_test", .glo "_is_single", .glo "check_test", .glo "holds", .glo "part_at", .glo "_hand", .glo "taken_out", .glo "_check_tests", .glo "_first", .glo "_law_leaves", .glo "_law_whole", .glo "_law_part_right", .glo "_law_top", .glo "_law_tests", .glo "_law_shares", .glo "_law_hand_right", .glo "_law_taken_right", .glo "_law_plain_or_top", .glo "_law_right", .glo "_law_anew_right", .glo "_law_round", .glo "law", .glo "Ledger", .glo "Kinds", .free "isinstance", .free "int", .free "bool", .free "str", .free "len", .free "all", .free "max", .free "min", .free "range", .free "sum", .free "tuple", .free "list", .free "repr", .free "dict", .free "enumerate", .free "reversed", .free "sorted", .free "any", .free "zip", .cls "Ledger", .cls "Kinds", .mkr "Ledger", .mkr "Kinds", .noat "Ledger" "_kinds", .noat "Ledger" "_kind_of", .noat "Ledger" "_text_of", .noat "Ledger" "_members_of", .noat "Ledger" "_notes_of", .noat "Ledger" "_cause_of", .noat "Ledger" "_at_work_of", .noat "Kinds" "_above", .meth "Ledger" "plain", .meth "Ledger" "sheaf", .meth "Ledger" "many", .meth "Ledger" "kind", .meth "Ledger" "text", .meth "Ledger" "members", .meth "Ledger" "notes", .meth "Ledger" "cause", .meth "Ledger" "at_work", .meth "Ledger" "note", .meth "Ledger" "blame", .meth "Ledger" "rise", .meth "Ledger" "_add", .meth "Ledger" "_cut_row", .meth "Ledger" "_check_fault_or_none", .meth "Ledger" "_check_fault", .meth "Ledger" "_check_text", .meth "Ledger" "_check_members", .meth "Ledger" "kinds", .meth "Ledger" "leaves", .meth "Ledger" "like", .meth "Kinds" "is_kind", .meth "Kinds" "_check_new", .meth "Kinds" "_check", .meth "Kinds" "stands_under", .glo "_TESTS_BEHIND"]
def ts : List He.Tab := [((fun K => He.ga K "_TESTS_BEHIND"), ["not", "and", "or"])]
def intB (o : Option (Option Value)) (i : Int) : Bool := match o with
  | some (some (.int j _)) => decide (j = i)
  | _ => false
theorem intB_ok {o : Option (Option Value)} {i : Int} (h : intB o i = true) : ∃ u, o = some (some u) ∧ RelV (.int i) u := by
  unfold intB at h
  split at h
  · rename_i j t
    obtain rfl : j = i := of_decide_eq_true h
    exact ⟨_, rfl, t, rfl⟩
  · cases h
def exB (K : PySem.W.Frag) : Bool := intB (PySem.W.nsIn K (He.ga K "_TESTS_BEHIND") "not") 1 && (intB (PySem.W.nsIn K (He.ga K "_TESTS_BEHIND") "and") 2 && (intB (PySem.W.nsIn K (He.ga K "_TESTS_BEHIND") "or") 2 && (decide (PySem.W.nsIn K (He.ga K "_TESTS_BEHIND") "kind" = some none) && (decide (PySem.W.nsIn K (He.ga K "_TESTS_BEHIND") "says" = some none) && decide (PySem.W.nsIn K (He.ga K "_TESTS_BEHIND") "noted" = some none)))))
def tf : List He.Defn := [("is_name", none)]
abbrev R : PySem.W.OpenRow := PySem.W.OpenLaw.row PySem.Challenge.rw_faultsheaves_k52_hands
abbrev hk : PySem.W.Hook := He.hookX 6 fa fn ts tf exB
def ob (s : PySem.W.SharedT) : He.AlX := He.obsX 6 fa fn ts tf exB (HandSHeadRun.getT s)
theorem ob_eq (s : PySem.W.SharedT) : ob s = hk.obs s.abs := He.obsX_eq (HandSHeadRun.getT_eq s)
def loose : List Str := [("__name__" : Str), ("_wall" : Str), ("is_whole" : Str), ("is_text" : Str), ("is_name" : Str), ("FaultError" : Str), ("NoKind" : Str), ("NoText" : Str), ("NoFault" : Str), ("Empty" : Str), ("NoTest" : Str), ("_TESTS_BEHIND" : Str), ("is_test" : Str), ("check_test" : Str), ("holds" : Str), ("_is_single" : Str), ("part_at" : Str), ("taken_out" : Str), ("_check_tests" : Str), ("_first" : Str), ("_hand" : Str), ("Kinds" : Str), ("Ledger" : Str), ("_law_pot" : Str), ("_law_digit" : Str), ("_law_text" : Str), ("_law_name" : Str), ("_law_kinds" : Str), ("_law_texts" : Str), ("_law_members" : Str), ("_law_faults" : Str), ("_law_tower" : Str), ("_law_row" : Str), ("_law_some" : Str), ("_law_ledger" : Str), ("_law_rise" : Str), ("_law_deed" : Str), ("_law_deeds" : Str), ("_law_told" : Str), ("_law_leaves" : Str), ("_law_under" : Str), ("_law_fits" : Str), ("_law_test" : Str), ("_law_whole" : Str), ("_law_part_right" : Str), ("_law_top" : Str), ("_law_tests" : Str), ("_law_shares" : Str), ("_law_hand_right" : Str), ("_law_taken_right" : Str), ("_law_plain_or_top" : Str), ("_law_right" : Str), ("_law_anew_right" : Str), ("_law_round" : Str)]
/-- the world with one of its ways said -/
def setP (p : PySem.Params) (b : Bool) : PySem.Params := { p with followText := fun s => match decide (s = "special-get-raises") with | true => b | false => p.followText s }
def setW (w : World) (b : Bool) : World := { w with params := setP w.params b }
theorem setP_id (p : PySem.Params) : setP p (p.followText "special-get-raises") = p := by
  have e : (fun s => match decide (s = "special-get-raises") with | true => p.followText "special-get-raises" | false => p.followText s) = p.followText := by
    funext s
    by_cases h : s = "special-get-raises"
    · rw [decide_eq_true h, h]
    · rw [decide_eq_false h]
  unfold setP
  rw [e]
theorem setW_id (w : World) : setW w (w.params.followText "special-get-raises") = w := by
  unfold setW
  rw [setP_id]
theorem run1 (w : World) : HandSHeadRun.RunEq R (PySem.W.view R.prog [61]) hk ob 9000 loose (setW w true) := by
  intro os
  kernel_rfl
theorem run0 (w : World) : HandSHeadRun.RunEq R (PySem.W.view R.prog [61]) hk ob 9000 loose (setW w false) := by
  intro os
  kernel_rfl
theorem run (w : World) : HandSHeadRun.RunEq R (PySem.W.view R.prog [61]) hk ob 9000 loose w := by
  rw [← setW_id w]
  cases h : w.params.followText "special-get-raises" with
  | true => exact run1 w
  | false => exact run0 w
end Fs
/-! Names and texts by digits. -/
namespace Fs
open PySem L2 TL
abbrev sText : Stmt := top 32
abbrev sName : Stmt := top 33
abbrev nText : List Str := ["_law_pot_here", "_law_signs", "_law_size", "_law_k"]
abbrev nName : List Str := ["_law_pot_here", "_law_k"]
theorem scText : FnScope nText ["_law_pot_here"] (defScope sText) := ⟨rfl, rfl, rfl, by decide +kernel, rfl, by decide +kernel, by decide +kernel⟩
theorem scName : FnScope nName ["_law_pot_here"] (defScope sName) := ⟨rfl, rfl, rfl, by decide +kernel, rfl, by decide +kernel, by decide +kernel⟩
/-- a sign of a to z -/
def small (c : Nat) : Bool := decide (97 ≤ c) && decide (c ≤ 122)
/-- a text of one to eight small letters -/
def IsNm (z : Str) : Prop := 1 ≤ z.cps.toList.length ∧ z.cps.toList.length ≤ 8 ∧ ∀ c ∈ z.cps.toList, small c = true
/-- a sign that is shown as itself, or behind a stroke -/
def fineC (c : Nat) : Bool := decide (31 < c) && decide (c < 127)
/-- a text of at most forty signs, none of them beyond the first hundred and twenty-eight -/
def IsTx (z : Str) : Prop := z.cps.toList.length ≤ 40 ∧ ∀ c ∈ z.cps.toList, c < 128 ∧ fineC c = true
/-- the pot alone is another -/
def spName : Sp := fun vs H Q _ => ∃ (p : Addr) (n : Nat), vs = [.ref p] ∧ PotAt H p n ∧ n < 2 ^ 39 ∧
  ∀ (z : Str) (H' : Hp), IsNm z → Keep [p] H H' → PotAt H' p (n + 9) → Q (.str z) H'
def spText : Sp := fun vs H Q _ => ∃ (p : Addr) (n : Nat), vs = [.ref p] ∧ PotAt H p n ∧ n < 2 ^ 39 ∧
  ∀ (z : Str) (H' : Hp), IsTx z → Keep [p] H H' → PotAt H' p (n + 43) → Q (.str z) H'
abbrev one (c : Nat) : Str := ⟨#[c]⟩
theorem tyes {σ : L2.St} {H : Hp} {A B : Hp → Prop} (h : A H) : tYes σ H fun b H3 => if b = true then A H3 else B H3 := by
  show if true = true then A H else B H
  exact iteT h
theorem joinL_ones : ∀ cs : List Nat, joinL [] (cs.map fun c => [c]) = cs
  | [] => rfl
  | [c] => rfl
  | c :: d :: r => by
    have ih := joinL_ones (d :: r)
    show [c] ++ ([] ++ joinL [] ((d :: r).map fun c => [c])) = c :: d :: r
    rw [ih]
    rfl
theorem tl_empty : tl (Str.ofString "") = [] := by decide +kernel
theorem join_ones (cs : List Nat) : (Txt.join (Str.ofString "") (cs.map one)).cps.toList = cs := by
  have h := tl_join (Str.ofString "") (cs.map one)
  rw [tl_empty, List.map_map] at h
  have e : (cs.map (tl ∘ one)) = cs.map fun c => [c] := List.map_congr_left fun c _ => rfl
  rw [e, joinL_ones] at h
  rw [join_eq]
  exact h
theorem sum_ones (cs : List Nat) : ((cs.map one).map (·.length)).sum = cs.length := by
  induction cs with
  | nil => rfl
  | cons c r ih =>
    rw [List.map_cons, List.map_cons, List.sum_cons, ih, List.length_cons]
    show 1 + r.length = r.length + 1
    omega
theorem one_map (cs : List Nat) : (cs.map one).map V.str = cs.map fun c => V.str (one c) := List.map_map ..
theorem digit_at {l : List Nat} {d : Int} (h0 : 0 ≤ d) (h1 : d < (l.length : Int)) : ∃ c, c ∈ l ∧ atI l d = some c := by
  have h2 : d.toNat < l.length := by omega
  refine ⟨l[d.toNat], List.getElem_mem h2, ?_⟩
  have e : ((d.toNat : Nat) : Int) = d := Int.toNat_of_nonneg h0
  have h3 := atI_nat (List.getElem?_eq_getElem h2)
  rw [e] at h3
  exact h3
theorem signs_turn {tz : TE} {σ2 : St} {H : Hp} {p D : Addr} {n : Nat} {z : Str} {m : Int} {acc : List V} {R : Hp → Prop} (hσ : σ2[0]? = some (some (.ref p))) (hz : ∀ (H : Hp) (Q : VK), Q (.str z) H → tz σ2 H Q)
    (hp : PotAt H p n) (hn : n < 2 ^ 40) (hm : m = (z.cps.toList.length : Int)) (hm0 : 0 < m) (hm1 : m < 1000) (hD : H D = some (.lst acc)) (ha : acc.length < sizeLine) (np : D ≠ p)
    (go : ∀ (c : Nat) (H' : Hp), c ∈ z.cps.toList → (∀ b, b ≠ p → H' b = H b) → PotAt H' p (n + 1) → R (upd H' D (.lst (acc ++ [.str (one c)])))) :
    tOp rIxS tz (tCall spDigit [] E0 (tCons (tVar 0) (tCons (tC (.int m)) tNil))) σ2 H fun y H4 => ∃ acc, H4 D = some (.lst acc) ∧ acc.length < sizeLine ∧ R (upd H4 D (.lst (acc ++ [y]))) := by
  refine hz H _ ⟨_, hσ, p, n, m, rfl, hp, hn, hm0, by omega, fun d H' d0 d1 hk hp' => ?_⟩
  obtain ⟨c, hc, he⟩ := digit_at (l := z.cps.toList) d0 (by omega)
  have hzl : z.length = z.cps.toList.length := by simp [Str.length]
  refine ⟨z, d, c, rfl, rfl, ?_, he, acc, by rw [hk D np]; exact hD, ha, go c H' hc hk hp'⟩
  exact Nat.le_of_lt (Nat.lt_of_lt_of_le (by omega : z.length < 1000) (by decide))
/-- the whole list of signs: an invariant for lc_range -/
def SgAt (H0 : Hp) (p D : Addr) (n : Nat) (g : Nat → Prop) (i : Nat) (H : Hp) : Prop :=
  ∃ cs : List Nat, cs.length = i ∧ (∀ c ∈ cs, g c) ∧ H D = some (.lst (cs.map fun c => V.str (one c))) ∧ PotAt H p (n + i) ∧ Keep [p] H0 H
theorem SgAt.start {H0 : Hp} {p D : Addr} {n : Nat} {g : Nat → Prop} (hp : PotAt H0 p n) (hD : H0 D = none) : SgAt H0 p D n g 0 (upd H0 D (.lst [])) := by
  obtain ⟨xs, e⟩ := hp.some
  have np : p ≠ D := ne_of_none e hD
  exact ⟨[], rfl, fun _ h => absurd h List.not_mem_nil, upd_same, hp.keep (ex := []) (Keep.new hD) (fun z => nomatch z), Keep.new hD⟩
theorem SgAt.next {H0 H H' : Hp} {p D : Addr} {n : Nat} {g : Nat → Prop} {i : Nat} {c : Nat} {cs : List Nat} (hD : H0 D = none) (np : D ≠ p) (hl : cs.length = i) (hg : ∀ c ∈ cs, g c) (k : Keep [p] H0 H) (hc : g c) (hk : ∀ b, b ≠ p → H' b = H b) (hp : PotAt H' p (n + i + 1)) :
    SgAt H0 p D n g (i + 1) (upd H' D (.lst ((cs.map fun c => V.str (one c)) ++ [.str (one c)]))) := by
  refine ⟨cs ++ [c], by rw [List.length_append, hl]; rfl, fun x hx => ?_, by rw [upd_same, List.map_append]; rfl, ?_, ?_⟩
  · rcases List.mem_append.mp hx with h | h
    · exact hg x h
    · rw [List.mem_singleton.mp h]
      exact hc
  · obtain ⟨a, b, c, h1, h2⟩ := hp
    exact ⟨a, b, c, by rw [upd_ne (Ne.symm np)]; exact h1, h2⟩
  · intro b o hb e
    have nb : b ≠ p := fun z => hb (by rw [z]; exact in1)
    rw [upd_ne (ne_of_none e hD), hk b nb]
    exact k b o hb e
section
variable {P : Program} {w : World} {K : PySem.W.Frag} {mg : Str → Option Value} {base : Heap}
theorem letters_small : ∀ c ∈ (Str.ofString "abcdefghijklmnopqrstuvwxyz").cps.toList, small c = true := by decide +kernel
theorem letters_len : (Str.ofString "abcdefghijklmnopqrstuvwxyz").cps.toList.length = 26 := by decide +kernel
theorem ok_name {f fD : Addr} {fd fdD : FuncData} (F : Fun K "_law_name" "_law_name" sName f fd) (FD : FnOk P w K mg base CX0 1 fD fdD ["_law_pot_here", "_law_many"] spDigit) (mD : mg "_law_digit" = some (.ref fD)) (kD : PySem.W.keepIn K (.ref fD) = true) (bD : Binds K fdD ["_law_pot_here", "_law_many"] []) (mR : mg "range" = none) :
    FnOk P w K mg base CX0 2 f fd ["_law_pot_here"] spName := by
  refine F.ok scName (fun vs H Q E h => ?_) (fun cdv A outer s H vs Q E hr h => ?_)
  · obtain ⟨p, n, rfl, _⟩ := h
    rfl
  · obtain ⟨p, n, rfl, hp, hn, kk⟩ := h
    refine ⟨_, pss_one (ps_ret (pe_join pe_str (pe_lc (own := [("_law_k", 1)]) (g := gName 1) (tt := tYes) rfl scName.nd
      (pi_range1 rfl mR (pa_cons (pe_op op_add pe_int (pe_call FD hr rfl mD kD bD .nil pass0 (pa_cons (pv 0) (pa_cons pe_int pa_nil)))) pa_nil))
      (blkOk_by (N := nName) (sc := defScope sName) (by decide +kernel)) (fun _ _ _ _ _ => pg_name (i := 1) scName.nd rfl (Or.inl rfl)) (fun _ _ _ _ _ => pts_nil)
      (fun _ _ _ _ _ => pe_ix ix_str pe_str (pe_call FD hr rfl mD kD bD .nil pass0 (pa_cons (pv 0) (pa_cons pe_int pa_nil))) (fun _ _ => rfl))))), ?_⟩
    refine ⟨⟨_, rfl⟩, _, rfl, p, n, 8, rfl, hp, by omega, by decide, by decide, fun d H1 d0 d1 hk hp1 => ?_⟩
    refine ⟨_, _, rfl, rfl, _, rfl, by omega, by omega, fun D hD => ?_⟩
    obtain ⟨xs, ep⟩ := hp1.some
    have np : D ≠ p := Ne.symm (ne_of_none ep hD)
    obtain ⟨m, hm⟩ : ∃ m : Nat, (1 + d : Int) = (m : Int) := ⟨(1 + d).toNat, by omega⟩
    have em : (1 + d : Int).toNat = m := by omega
    rw [em]
    refine lc_range (lo := 0) (n := m) (SgAt H1 p D (n + 1) fun c => small c = true) (SgAt.start hp1 hD) (fun i H2 hi hI => ?_) (fun H2 hI => ?_)
    · obtain ⟨cs, hl, hg, eD, hp2, k2⟩ := hI
      refine ⟨rfl, tyes ?_⟩
      refine signs_turn (z := Str.ofString "abcdefghijklmnopqrstuvwxyz") (n := n + 1 + i) rfl (fun _ _ q => q) hp2 (by omega) (by rw [letters_len]; rfl) (by decide) (by decide) eD ?_ np fun c H' hc hk' hp' => ?_
      · rw [List.length_map, hl]
        exact Nat.lt_of_lt_of_le (by omega : i < 1000) (by decide)
      · exact SgAt.next hD np hl hg k2 (letters_small c hc) hk' hp'
    · obtain ⟨cs, hl, hg, eD, hp2, k2⟩ := hI
      refine ⟨Str.ofString "", D, cs.map one, rfl, rfl, .inl (SqL.of (by rw [one_map]; exact eD)), ?_, ?_⟩
      · rw [sum_ones, List.length_map, show (Str.ofString "").length = 0 by decide +kernel]
        omega
      · refine kk _ _ ⟨?_, ?_, ?_⟩ (Keep.trans (fun b o hb e => by rw [hk b (fun z => hb (by rw [z]; exact in1))]; exact e) k2) (hp2.le (by omega))
        · rw [join_ones, hl]; omega
        · rw [join_ones, hl]; omega
        · rw [join_ones]; exact hg
theorem signs_ascii : ∀ c ∈ (Str.ofString " !\"#$&'()*+,-./0123456789:;<=>?@ABCDEFGHIJKLMNOPQRSTUVWXYZ[\\]^_`abcdefghijklmnopqrstuvwxyz{|}~").cps.toList, c < 128 ∧ fineC c = true := by decide +kernel
theorem signs_len : (Str.ofString " !\"#$&'()*+,-./0123456789:;<=>?@ABCDEFGHIJKLMNOPQRSTUVWXYZ[\\]^_`abcdefghijklmnopqrstuvwxyz{|}~").cps.toList.length = 94 := by decide +kernel
theorem ok_text {f fD : Addr} {fd fdD : FuncData} (F : Fun K "_law_text" "_law_text" sText f fd) (FD : FnOk P w K mg base CX0 1 fD fdD ["_law_pot_here", "_law_many"] spDigit) (mD : mg "_law_digit" = some (.ref fD)) (kD : PySem.W.keepIn K (.ref fD) = true) (bD : Binds K fdD ["_law_pot_here", "_law_many"] []) (mR : mg "range" = none) (mI : mg "int" = none) :
    FnOk P w K mg base CX0 2 f fd ["_law_pot_here"] spText := by
  refine F.ok scText (fun vs H Q E h => ?_) (fun cdv A outer s H vs Q E hr h => ?_)
  · obtain ⟨p, n, rfl, _⟩ := h
    rfl
  · obtain ⟨p, n, rfl, hp, hn, kk⟩ := h
    refine ⟨_, pss_cons (ps_set (i := 1) scText.nd rfl (Or.inr rfl) pe_str)
      (pss_cons (ps_set (i := 2) scText.nd rfl (Or.inl rfl) (pe_ix ix_list (pe_lst (pa_cons (pe_call FD hr rfl mD kD bD .nil pass0 (pa_cons (pv 0) (pa_cons pe_int pa_nil))) (pa_cons (pe_call FD hr rfl mD kD bD .nil pass0 (pa_cons (pv 0) (pa_cons pe_int pa_nil))) pa_nil)))
        (pe_callTy call_int1 (by rfl) mI (by decide +kernel) (pa_cons (pe_cmpR op_eq (pe_call FD hr rfl mD kD bD .nil pass0 (pa_cons (pv 0) (pa_cons pe_int pa_nil))) pe_int (nomark _)) pa_nil)) (fun _ _ => rfl)))
      (pss_one (ps_ret (pe_join pe_str (pe_lc (own := [("_law_k", 3)]) (g := gName 3) (tt := tYes) rfl scText.nd
      (pi_range1 rfl mR (pa_cons (pv 2) pa_nil))
      (blkOk_by (N := nText) (sc := defScope sText) (by decide +kernel)) (fun _ _ _ _ _ => pg_name (i := 3) scText.nd rfl (Or.inl rfl)) (fun _ _ _ _ _ => pts_nil)
      (fun _ _ _ _ _ => pe_ix ix_str (pv 1) (pe_call FD hr rfl mD kD bD .nil pass0 (pa_cons (pv 0) (pa_cons pe_int pa_nil))) (fun _ _ => rfl))))))), ?_⟩
    refine ⟨_, rfl, p, n, 4, rfl, hp, by omega, by decide, by decide, fun d1 H1 a0 a1 hk1 hp1 => ?_⟩
    refine ⟨_, rfl, p, n + 1, 41, rfl, hp1, by omega, by decide, by decide, fun d2 H2 b0 b1 hk2 hp2 => ?_⟩
    refine ⟨(by show 2 ≤ sizeLine; decide), fun L hL => ?_⟩
    obtain ⟨xs2, ep2⟩ := hp2.some
    have npL : p ≠ L := ne_of_none ep2 hL
    refine ⟨_, rfl, p, n + 2, 5, rfl, hp2.keep (ex := []) (Keep.new hL) nin0, by omega, by decide, by decide, fun d3 H3 c0 c1 hk3 hp3 => ?_⟩
    have eL : H3 L = some (.lst [.int d1, .int d2]) := by rw [hk3 L npL.symm, upd_same]
    have k3 : Keep [p] H H3 := fun b o hb e => by
      have nb : b ≠ p := fun z => hb (by rw [z]; exact in1)
      have e1 : H1 b = some o := by rw [hk1 b nb]; exact e
      have e2 : H2 b = some o := by rw [hk2 b nb]; exact e1
      rw [hk3 b nb, upd_ne (ne_of_none e2 hL)]
      exact e2
    refine ⟨rfl, ?_⟩
    have fin : ∀ d : Int, 0 ≤ d → d ≤ 40 → tRet (tM1 (fun x xs H Q => ∃ a p, ∃ ys : List Str, x = .str a ∧ xs = [.ref p] ∧ (SqL K H p (ys.map V.str) ∨ SqT K H p (ys.map V.str)) ∧ (ys.map (·.length)).sum + ys.length * a.length ≤ 16777216 ∧ Q (.str (Txt.join a ys)) H) (tC (.str (Str.ofString "")))
        (tLc (iRng1 (tCons (tVar 2) tNil)) (gName 3) tYes (tOp rIxS (tVar 1) (tCall spDigit [] E0 (tCons (tVar 0) (tCons (tC (.int 94)) tNil)))) [3])) { nx := fun _ H' => Q .non H', rt := Q } [some (.ref p), some (.str (Str.ofString " !\"#$&'()*+,-./0123456789:;<=>?@ABCDEFGHIJKLMNOPQRSTUVWXYZ[\\]^_`abcdefghijklmnopqrstuvwxyz{|}~")), some (.int d), none] H3 := by
      intro d e0 e1
      refine ⟨⟨_, rfl⟩, _, rfl, _, rfl, by omega, by omega, fun D hD => ?_⟩
      obtain ⟨xs, ep⟩ := hp3.some
      have np : D ≠ p := Ne.symm (ne_of_none ep hD)
      obtain ⟨m, rfl⟩ : ∃ m : Nat, d = (m : Int) := ⟨d.toNat, by omega⟩
      rw [Int.toNat_natCast]
      refine lc_range (lo := 0) (n := m) (SgAt H3 p D (n + 3) fun c => c < 128 ∧ fineC c = true) (SgAt.start hp3 hD) (fun i H4 hi hI => ?_) (fun H4 hI => ?_)
      · obtain ⟨cs, hl, hg, eD, hp4, k4⟩ := hI
        refine ⟨rfl, tyes ?_⟩
        refine signs_turn (z := Str.ofString " !\"#$&'()*+,-./0123456789:;<=>?@ABCDEFGHIJKLMNOPQRSTUVWXYZ[\\]^_`abcdefghijklmnopqrstuvwxyz{|}~") (n := n + 3 + i) rfl (fun _ _ q => ⟨_, rfl, q⟩) hp4 (by omega) (by rw [signs_len]; rfl) (by decide) (by decide) eD ?_ np fun c H' hc hk' hp' => ?_
        · rw [List.length_map, hl]
          exact Nat.lt_of_lt_of_le (by omega : i < 1000) (by decide)
        · exact SgAt.next hD np hl hg k4 (signs_ascii c hc) hk' hp'
      · obtain ⟨cs, hl, hg, eD, hp4, k4⟩ := hI
        refine ⟨Str.ofString "", D, cs.map one, rfl, rfl, .inl (SqL.of (by rw [one_map]; exact eD)), ?_, ?_⟩
        · rw [sum_ones, List.length_map, show (Str.ofString "").length = 0 by decide +kernel]
          omega
        · refine kk _ _ ⟨?_, ?_⟩ (k3.trans k4) (hp4.le (by omega))
          · rw [join_ones, hl]; omega
          · rw [join_ones]; exact hg
    by_cases hz : V.int d3 = V.int 0
    · refine .inr ⟨_, rfl, ?_⟩
      rw [decide_eq_true hz]
      exact ⟨L, _, _, _, rfl, rfl, SqL.of eL, rfl, fin d2 b0 (by omega)⟩
    · refine .inr ⟨_, rfl, ?_⟩
      rw [decide_eq_false hz]
      exact ⟨L, _, _, _, rfl, rfl, SqL.of eL, rfl, fin d1 a0 (by omega)⟩
end
end Fs
/-! A name that isn't taken. -/
namespace Fs
open PySem L2 TL
theorem eqV_str (a b : Str) : eqV (.str a) (.str b) = decide (a = b) := by
  by_cases h : a = b
  · rw [decide_eq_true h, h]; simp [eqV]
  · rw [decide_eq_false h]; simp [eqV, h]
theorem inV_strs (z : Str) (ts : List Str) : inV (.str z) (ts.map V.str) = decide (z ∈ ts) := by
  unfold inV
  induction ts with
  | nil => simp
  | cons t r ih =>
    rw [List.map_cons, List.any_cons, ih, eqV_str]
    by_cases h1 : t = z
    · simp [h1]
    · have h2 : ¬ z = t := fun e => h1 e.symm
      simp [h1, h2]
theorem flat_strs (ts : List Str) : (ts.map V.str).all flatV = true := by
  rw [List.all_eq_true]
  intro x hx
  obtain ⟨t, _, e⟩ := List.mem_map.mp hx
  rw [← e]
  rfl
end Fs
/-! The pairs of kinds. -/
namespace Fs
open PySem L2 TL
abbrev sF : Str := Str.ofString "fault"
abbrev sS : Str := Str.ofString "sheaf"
/-- kinds as they are told, one behind another -/
inductive Wf : List (Str × Str) → Prop where
  | nil : Wf []
  | snoc {ps : List (Str × Str)} {z y : Str} : Wf ps → IsNm z → z ∉ sS :: sF :: ps.map Prod.fst → y ∈ sF :: ps.map Prod.fst → Wf (ps ++ [(z, y)])
/-- a tuple a pair -/
def TupsAt (H : Hp) : List Addr → List (Str × Str) → Prop
  | [], [] => True
  | a :: as, q :: ps => H a = some (.tup [.str q.1, .str q.2]) ∧ TupsAt H as ps
  | _, _ => False
theorem TupsAt.len {H : Hp} : ∀ {as : List Addr} {ps : List (Str × Str)}, TupsAt H as ps → as.length = ps.length
  | [], [], _ => rfl
  | _ :: as, _ :: ps, h => by rw [List.length_cons, List.length_cons, TupsAt.len h.2]
  | [], _ :: _, h => h.elim
  | _ :: _, [], h => h.elim
theorem TupsAt.map {H H' : Hp} (k : ∀ a xs, H a = some (.tup xs) → H' a = some (.tup xs)) : ∀ {as : List Addr} {ps : List (Str × Str)}, TupsAt H as ps → TupsAt H' as ps
  | [], [], _ => True.intro
  | _ :: as, _ :: ps, h => ⟨k _ _ h.1, TupsAt.map k h.2⟩
  | [], _ :: _, h => h.elim
  | _ :: _, [], h => h.elim
theorem TupsAt.snoc {H : Hp} {b : Addr} {q : Str × Str} (hb : H b = some (.tup [.str q.1, .str q.2])) : ∀ {as : List Addr} {ps : List (Str × Str)}, TupsAt H as ps → TupsAt H (as ++ [b]) (ps ++ [q])
  | [], [], _ => ⟨hb, True.intro⟩
  | _ :: as, _ :: ps, h => ⟨h.1, TupsAt.snoc hb h.2⟩
  | [], _ :: _, h => h.elim
  | _ :: _, [], h => h.elim
theorem TupsAt.at {H : Hp} : ∀ {as : List Addr} {ps : List (Str × Str)} {i : Nat} {a : Addr}, TupsAt H as ps → as[i]? = some a → ∃ q, ps[i]? = some q ∧ H a = some (.tup [.str q.1, .str q.2])
  | [], _, _, _, _, e => by simp at e
  | _ :: _, [], _, _, h, _ => h.elim
  | b :: as, q :: ps, 0, a, h, e => by
    have e' : b = a := by simpa using e
    subst e'
    exact ⟨q, rfl, h.1⟩
  | b :: as, q :: ps, i + 1, a, h, e => TupsAt.at (i := i) h.2 (by simpa using e)
/-- a list of pairs -/
def PairsAt (H : Hp) (l : Addr) (ps : List (Str × Str)) : Prop := ∃ as : List Addr, H l = some (.lst (as.map V.ref)) ∧ TupsAt H as ps
theorem Keep.tup {ex : List Addr} {H H' : Hp} (k : Keep ex H H') (hx : ∀ b ∈ ex, ∃ o, H b = some o ∧ ∀ xs, o ≠ .tup xs) {a : Addr} {xs : List V} (h : H a = some (.tup xs)) : H' a = some (.tup xs) :=
  k.at h fun z => by
    obtain ⟨o, e, n⟩ := hx a z
    rw [h] at e
    exact n xs (Option.some.inj e).symm
theorem lst_ex {H : Hp} {p : Addr} {xs : List V} (h : H p = some (.lst xs)) : ∀ b ∈ [p], ∃ o, H b = some o ∧ ∀ xs, o ≠ .tup xs := fun b hb => by
  rw [List.mem_singleton.mp hb]
  exact ⟨_, h, fun _ z => nomatch z⟩
theorem PairsAt.keep {ex : List Addr} {H H' : Hp} {l : Addr} {ps : List (Str × Str)} (h : PairsAt H l ps) (k : Keep ex H H') (hl : l ∉ ex) (hx : ∀ b ∈ ex, ∃ o, H b = some o ∧ ∀ xs, o ≠ .tup xs) : PairsAt H' l ps := by
  obtain ⟨as, e, t⟩ := h
  exact ⟨as, k.at e hl, t.map fun a xs q => k.tup hx q⟩
theorem PairsAt.some {H : Hp} {l : Addr} {ps : List (Str × Str)} (h : PairsAt H l ps) : ∃ xs, H l = some (.lst xs) := by
  obtain ⟨as, e, _⟩ := h
  exact ⟨_, e⟩
/-- [name for name, above in pairs]: slots i, j -/
theorem names_run {K : PySem.W.Frag} {l D : Addr} {ps : List (Str × Str)} {i j : Nat} {σ : L2.St} {H1 : Hp} {Qd : Hp → Prop} (h : PairsAt H1 l ps) (hD : H1 D = none) (hlen : ps.length ≤ 1000)
    (hw : ∀ v u, wipe (((wipe σ [i, j]).set i (some v)).set j (some u)) [i, j] = wipe σ [i, j]) (hv : ∀ v u, (((wipe σ [i, j]).set i (some v)).set j (some u))[i]? = some (some v))
    (hq : ∀ H, H D = some (.lst ((ps.map Prod.fst).map V.str)) → Keep [] H1 H → Qd H) :
    ∃ W : Nat → Nat → Hp → Prop, (∃ m, W 0 m (upd H1 D (.lst []))) ∧ ∀ k m H, W k m H →
      ((Itl K l).stop k H ∧ Qd H) ∨ ((Itl K l).go k H ∧ ∃ Nx : Hp → Prop, (∀ H', Nx H' → ∃ m', m' < m ∧ W (k + 1) m' H') ∧ ∀ x H', (Itl K l).yld k H x H' → gTup K 2 (gCons (gName i) (gCons (gName j) gNil)) x (wipe σ [i, j]) H' fun σ2 H2 => wipe σ2 [i, j] = wipe σ [i, j] ∧ tYes σ2 H2 fun b H3 =>
        if b = true then tVar i σ2 H3 fun y H4 => ∃ acc, H4 D = some (.lst acc) ∧ acc.length < sizeLine ∧ Nx (upd H4 D (.lst (acc ++ [y]))) else Nx H3) := by
  obtain ⟨as, e, t⟩ := h
  have hl := t.len
  refine lc_list (K := K) (a := l) (xs := as.map V.ref) (fun k H => H D = some (.lst (((ps.take k).map Prod.fst).map V.str)) ∧ Keep [] H1 H) ⟨upd_same, Keep.new hD⟩ (fun k H _ hI => SqL.of (hI.2.at e nin0)) (fun k x H hx hI => ?_) (fun H hI => ?_)
  · obtain ⟨a, ha, rfl⟩ : ∃ a, as[k]? = some a ∧ x = V.ref a := by
      rw [List.getElem?_map] at hx
      cases q : as[k]? with
      | none => rw [q] at hx; cases hx
      | some a => rw [q] at hx; exact ⟨a, rfl, (Option.some.inj hx).symm⟩
    obtain ⟨q, hq2, hta⟩ := t.at ha
    have hk : k < ps.length := (List.getElem?_eq_some_iff.mp hq2).1
    refine ⟨a, _, rfl, SqT.of (hI.2.at hta nin0), rfl, _, _, rfl, _, _, rfl, rfl, hw _ _, tyes ?_⟩
    refine ⟨_, hv _ _, _, hI.1, ?_, ?_, fun b o hb ho => ?_⟩
    · rw [List.length_map, List.length_map, List.length_take]
      exact Nat.lt_of_le_of_lt (by omega : min k ps.length ≤ 1000) (by decide)
    · rw [upd_same, List.take_add_one, hq2, List.map_append, List.map_append]
      rfl
    · rw [upd_ne (ne_of_none ho hD)]
      exact hI.2 b o hb ho
  · rw [List.length_map, hl, List.take_length] at hI
    exact hq H hI.1 hI.2
theorem Keep.freshTo {ex : List Addr} {H H1 : Hp} {p : Addr} {o : HO} (a : Keep ex H H1) (h : H p = none) : Keep ex H (upd H1 p o) := fun b u n q => by
  rw [upd_ne (ne_of_none q h)]
  exact a b u n q
theorem digit_in {α : Type} {l : List α} {d : Int} (h0 : 0 ≤ d) (h1 : d < (l.length : Int)) : ∃ c, c ∈ l ∧ l[d.toNat]? = some c ∧ ((d.toNat : Nat) : Int) = d := by
  have h2 : d.toNat < l.length := by omega
  exact ⟨l[d.toNat], List.getElem_mem h2, List.getElem?_eq_getElem h2, Int.toNat_of_nonneg h0⟩
theorem keep_of_dig {p : Addr} {H H' : Hp} (h : ∀ b, b ≠ p → H' b = H b) : Keep [p] H H' := fun b o hb e => by
  rw [h b (fun z => hb (by rw [z]; exact in1))]
  exact e
end Fs
/-! The kinds that are drawn; the texts. -/
namespace Fs
open PySem L2 TL
abbrev sKds : Stmt := top 34 --def _law_kinds
abbrev sTxs : Stmt := top 35 --def _law_texts
abbrev nKds : List Str := ["_law_pot_here", "_law_most", "_law_pairs", "_law_k", "_law_name_here", "_law_ahead", "_law_one", "_law_above"]
abbrev nTxs : List Str := ["_law_pot_here", "_law_first"]
theorem scKds : FnScope nKds ["_law_pot_here", "_law_most"] (defScope sKds) := ⟨rfl, rfl, rfl, by decide +kernel, rfl, by decide +kernel, by decide +kernel⟩
theorem scTxs : FnScope nTxs ["_law_pot_here"] (defScope sTxs) := ⟨rfl, rfl, rfl, by decide +kernel, rfl, by decide +kernel, by decide +kernel⟩
def spKds : Sp := fun vs H Q _ => ∃ (p : Addr) (n mo : Nat), vs = [.ref p, .int (mo : Int)] ∧ mo ≤ 12 ∧ PotAt H p n ∧ n < 2 ^ 30 ∧
  ∀ (l : Addr) (ps : List (Str × Str)) (H' : Hp), H l = none → Wf ps → ps.length ≤ mo → PairsAt H' l ps → Keep [p] H H' → PotAt H' p (n + 200) → Q (.ref l) H'
/-- the five texts: the last sign of the third one is an x -/
def TxsOk (tx : List Str) : Prop := tx.length = 5 ∧ ∀ z ∈ tx, IsTx z
def spTxs : Sp := fun vs H Q _ => ∃ (p : Addr) (n : Nat), vs = [.ref p] ∧ PotAt H p n ∧ n < 2 ^ 30 ∧
  ∀ (X : Addr) (tx : List Str) (H' : Hp), H X = none → TxsOk tx → H' X = some (.lst (tx.map V.str)) → Keep [p] H H' → PotAt H' p (n + 200) → Q (.ref X) H'
theorem iteNot {c A B : Prop} [Decidable c] (hc : ¬ c) (h : A) : if (!decide c) = true then A else B := by
  rw [decide_eq_false hc]
  exact iteT h
section
variable {P : Program} {w : World} {K : PySem.W.Frag} {mg : Str → Option Value} {base : Heap} {fD fN fT : Addr}
theorem ok_kds {f : Addr} {fd fdD fdN : FuncData} (F : Fun K "_law_kinds" "_law_kinds" sKds f fd) (FD : FnOk P w K mg base CX0 1 fD fdD ["_law_pot_here", "_law_many"] spDigit) (mD : mg "_law_digit" = some (.ref fD)) (kD : PySem.W.keepIn K (.ref fD) = true) (bD : Binds K fdD ["_law_pot_here", "_law_many"] [])
    (FN : FnOk P w K mg base CX0 2 fN fdN ["_law_pot_here"] spName) (mN : mg "_law_name" = some (.ref fN)) (kN : PySem.W.keepIn K (.ref fN) = true) (bN : Binds K fdN ["_law_pot_here"] []) (mL : mg "len" = none) (mR : mg "range" = none) :
    FnOk P w K mg base CX0 3 f fd ["_law_pot_here", "_law_most"] spKds := by
  refine F.ok scKds (fun vs H Q E h => ?_) (fun cdv A outer s H vs Q E hr h => ?_)
  · obtain ⟨p, n, mo, rfl, _⟩ := h
    rfl
  · obtain ⟨p, n, mo, rfl, hmo, hp, hn, kk⟩ := h
    have hr1 : Room 1 _ := hr.mono (by decide)
    refine ⟨_, pss_cons (ps_set (i := 2) scKds.nd rfl (Or.inl rfl) (pe_lst pa_nil))
      (pss_cons (ps_for PassesOwn.never rfl (pi_range1 rfl mR (pa_cons (pe_call FD hr1 rfl mD kD bD .nil pass0 (pa_cons (pv 0) (pa_cons (pe_op op_add (pv 1) pe_int) pa_nil))) pa_nil)) (pg_name (i := 3) scKds.nd rfl (Or.inl rfl))
        (pss_cons (ps_set (i := 4) scKds.nd rfl (Or.inl rfl) (pe_call FN hr rfl mN kN bN .nil pass0 (pa_cons (pv 0) pa_nil)))
        (pss_cons (ps_set (i := 5) scKds.nd rfl (Or.inl rfl) (pe_op op_cat (pe_lst (pa_cons pe_str pa_nil)) (pe_lc (own := [("_law_one", 6), ("_law_above", 7)]) (g := gTup K 2 (gCons (gName 6) (gCons (gName 7) gNil))) (tt := tYes) (te := tVar 6) rfl scKds.nd (pi_list (pv 2))
          (blkOk_by (N := nKds) (sc := defScope sKds) (by decide +kernel)) (fun _ _ _ _ _ => by exact (pg_tup rfl (pgs_cons (pg_name (i := 6) scKds.nd rfl (Or.inl rfl)) (pgs_cons (pg_name (i := 7) scKds.nd rfl (Or.inl rfl)) pgs_nil)))) (fun _ _ _ _ _ => pts_nil) (fun _ _ _ _ _ => pv 6))))
        (pss_one (ps_if (PW.pt (pw_and (pt_cmpR op_ne (pv 4) pe_str (nomark _)) (pw_and1 (pt_cmpR op_notIn_seq (pv 4) (pv 5) (by rfl)))))
          (pss_one (ps_expr (pe_bm PySem.F.plainAttrs_list PySem.F.slot_list_append PySem.F.type_list_append mt_append (pv 2) (pa_cons (pe_tup (pa_cons (pv 4) (pa_cons (pe_ix ix_list (pv 5) (pe_call FD hr1 rfl mD kD bD .nil pass0 (pa_cons (pv 0) (pa_cons (pe_callB call_len_seq (by rfl) mL PySem.boot_len (pa_cons (pv 5) pa_nil)) pa_nil))) (fun _ _ => rfl)) pa_nil))) pa_nil)))) pss_nil)))))
      (pss_one (ps_ret (pv 2)))), ?_⟩
    refine ⟨Nat.zero_le _, fun l hl => ?_⟩
    have hp0 : PotAt (upd H l (.lst [])) p n := hp.keep (ex := []) (Keep.new hl) nin0
    obtain ⟨x0, ep0⟩ := hp.some
    have nlp : l ≠ p := Ne.symm (ne_of_none ep0 hl)
    refine ⟨_, rfl, _, rfl, _, _, rfl, rfl, p, n, _, rfl, hp0, by omega, by omega, by omega, fun d H1 d0 d1 hk1 hp1 => ?_⟩
    have hl1 : H1 l = some (.lst []) := by rw [hk1 l nlp, upd_same]
    have k1 : Keep [p] H H1 := (Keep.new hl).trans (keep_of_dig hk1)
    obtain ⟨m, rfl⟩ : ∃ m : Nat, d = (m : Int) := ⟨d.toNat, by omega⟩
    refine ⟨_, rfl, by omega, by omega, ?_⟩
    rw [Int.toNat_natCast]
    refine for_range (lo := 0) (n := m) (fun i σ H' => ∃ (ps : List (Str × Str)) (v3 v4 v5 v6 v7 : Option V), σ = [some (.ref p), some (.int (mo : Int)), some (.ref l), v3, v4, v5, v6, v7] ∧ Wf ps ∧ ps.length ≤ i ∧ PairsAt H' l ps ∧ PotAt H' p (n + 1 + 10 * i) ∧ Keep [p] H H')
      ⟨[], none, none, none, none, none, rfl, .nil, Nat.le_refl _, ⟨[], hl1, True.intro⟩, hp1, k1⟩ ?_ ?_
    · rintro i σ H2 hi ⟨ps, v3, v4, v5, v6, v7, rfl, hw, hlen, hP, hp2, k2⟩
      -- name
      refine ⟨_, rfl, p, _, rfl, hp2, by omega, fun z H3 hz k3 hp3 => ?_⟩
      obtain ⟨x2, ep2⟩ := hp2.some
      have hP3 : PairsAt H3 l ps := hP.keep k3 (nin1 nlp) (lst_ex ep2)
      -- ahead
      refine ⟨(by show 1 ≤ sizeLine; decide), fun a ha => ?_⟩
      have h1 : PairsAt (upd H3 a (.lst [.str sF])) l ps := hP3.keep (ex := []) (Keep.new ha) nin0 (fun _ z => absurd z nin0)
      obtain ⟨xs, el⟩ := h1.some
      refine ⟨_, rfl, l, rfl, ⟨_, SqL.of el⟩, fun D hD => ?_⟩
      refine names_run (K := K) (i := 6) (j := 7) h1 hD (by omega) (fun _ _ => rfl) (fun _ _ => rfl) fun H4 e4 k4 => ?_
      have ea : H4 a = some (.lst [.str sF]) := k4.at upd_same nin0
      refine ⟨a, D, _, _, rfl, rfl, ea, e4, ?_, fun b hb => ?_⟩
      · show ([V.str sF] : List V).length + _ ≤ sizeLine
        rw [List.length_map, List.length_map]
        exact Nat.le_trans (by show 1 + ps.length ≤ 1000; omega) (by decide)
      have k5 : Keep [] H3 (upd H4 b (.lst ([V.str sF] ++ (ps.map Prod.fst).map V.str))) := ((Keep.new ha).trans k4).newTo hb
      have eb5 : (upd H4 b (.lst ([V.str sF] ++ (ps.map Prod.fst).map V.str))) b = some (.lst ((sF :: ps.map Prod.fst).map V.str)) := upd_same
      generalize (upd H4 b (.lst ([V.str sF] ++ (ps.map Prod.fst).map V.str))) = H5 at k5 eb5 ⊢
      have k25 : Keep [p] H2 H5 := k3.trans (k5.more fun b z => absurd z nin0)
      have hp5 := hp3.keep k5 nin0
      have hP5 := hP3.keep k5 nin0 (fun _ z => absurd z nin0)
      have skip : ∃ (ps : List (Str × Str)) (w3 w4 w5 w6 w7 : Option V), [some (.ref p), some (.int (mo : Int)), some (.ref l), some (.int (0 + (i : Int))), some (.str z), some (.ref b), v6, v7] = [some (.ref p), some (.int (mo : Int)), some (.ref l), w3, w4, w5, w6, w7] ∧ Wf ps ∧ ps.length ≤ i + 1 ∧ PairsAt H5 l ps ∧ PotAt H5 p (n + 1 + 10 * (i + 1)) ∧ Keep [p] H H5 :=
        ⟨ps, _, _, _, _, _, rfl, hw, by omega, hP5, hp5.le (by omega), k2.trans k25⟩
      refine ⟨_, rfl, rfl, _, rfl, ?_⟩
      by_cases zS : z = sS
      · exact iteNS (by rw [zS]) skip
      refine iteNot (fun q => zS (V.str.inj q)) ?_
      refine ⟨_, rfl, _, rfl, b, _, rfl, .inl (SqL.of eb5), rfl, flat_strs _, _, rfl, ?_⟩
      rw [inV_strs]
      by_cases zA : z ∈ sF :: ps.map Prod.fst
      · rw [decide_eq_true zA]
        exact iteF skip
      rw [decide_eq_false zA]
      refine iteT ?_
      obtain ⟨as, el6, tl6⟩ := hP5
      obtain ⟨x5, ep5⟩ := hp5.some
      have nbp : b ≠ p := fun q => by rw [q, ep5] at eb5; exact absurd eb5 (by
        obtain ⟨_, _, _, e, _⟩ := hp5
        rw [ep5] at e
        intro h
        rw [e] at h
        injection h with h
        injection h with h
        cases h)
      refine ⟨_, rfl, .inl ⟨rfl, _, SqL.of el6⟩, _, rfl, _, rfl, _, rfl, _, rfl, b, _, rfl, .inl (SqL.of eb5), p, _, _, rfl, hp5, by omega, ?_, ?_, fun e H7 e0 e1 hk7 hp7 => ?_⟩
      · rw [List.length_map, List.length_cons]; omega
      · rw [List.length_map, List.length_cons, List.length_map]; omega
      · rw [List.length_map] at e1
        obtain ⟨y, hy, hy2, hy3⟩ := digit_in (l := sF :: ps.map Prod.fst) e0 e1
        have k7 : Keep [p] H5 H7 := keep_of_dig hk7
        refine ⟨b, _, e, .str y, rfl, rfl, SqL.of (k7.at eb5 (nin1 nbp)), ?_, (by show 2 ≤ sizeLine; decide), fun g hg => ?_⟩
        · rw [← hy3]
          exact atI_nat (by rw [List.getElem?_map, hy2]; rfl)
        have el7 : H7 l = some (.lst (as.map V.ref)) := k7.at el6 (nin1 nlp)
        have nlg : l ≠ g := ne_of_none el7 hg
        refine ⟨l, _, _, rfl, rfl, by rw [upd_ne nlg]; exact el7, ?_, ?_⟩
        · rw [List.length_map, tl6.len]
          exact Nat.lt_of_le_of_lt (by omega : ps.length ≤ 1000) (by decide)
        have tl7 : TupsAt H7 as ps := tl6.map fun a xs q => k7.tup (lst_ex ep5) q
        have tl8 : TupsAt (upd (upd H7 g (.tup [.str z, .str y])) l (.lst (as.map V.ref ++ [V.ref g]))) (as ++ [g]) (ps ++ [(z, y)]) := by
          refine TupsAt.snoc (by rw [upd_ne nlg.symm, upd_same]) (tl7.map fun a xs q => ?_)
          rw [upd_ne (ne_of q el7 (fun z => nomatch z)), upd_ne (ne_of_none q hg)]
          exact q
        refine ⟨ps ++ [(z, y)], _, _, _, _, _, rfl, .snoc hw hz (fun q => ?_) hy, by rw [List.length_append]; show ps.length + 1 ≤ i + 1; omega, ⟨as ++ [g], by rw [upd_same, List.map_append]; rfl, tl8⟩, ?_, ?_⟩
        · rcases List.mem_cons.mp q with q | q
          · exact zS q
          · exact zA q
        · have hp8 : PotAt (upd (upd H7 g (.tup [.str z, .str y])) l (.lst (as.map V.ref ++ [V.ref g]))) p _ :=
            (hp7.keep (ex := []) (Keep.new hg) nin0).keep (ex := [l]) (Keep.own in1) (nin1 nlp.symm)
          exact hp8.le (by omega)
        · exact (((k2.trans k25).trans k7).newTo hg).freshTo hl
    · rintro σ H2 ⟨ps, v3, v4, v5, v6, v7, rfl, hw, hlen, hP, hp2, k2⟩
      exact ⟨_, rfl, kk l ps H2 hl hw (by omega) hP k2 (hp2.le (by omega))⟩
theorem str_cut {z : Str} {m : Nat} (h : IsTx z) : (cutS z none (some (m : Int))).cps.toList.length ≤ m ∧ ∀ c ∈ (cutS z none (some (m : Int))).cps.toList, c < 128 ∧ fineC c = true := by
  unfold cutS
  rw [HT.sIx_none, HT.sIx_nat, List.drop_zero, Nat.sub_zero]
  refine ⟨?_, fun c hc => ?_⟩
  · simp only [List.length_take]
    omega
  · exact h.2 c (List.mem_of_mem_take hc)
theorem str_add {a b : Str} : (a ++ b).cps.toList = a.cps.toList ++ b.cps.toList := by
  show (a.cps ++ b.cps).toList = _
  exact Array.toList_append
theorem ok_txs {f : Addr} {fd fdT : FuncData} (F : Fun K "_law_texts" "_law_texts" sTxs f fd) (FT : FnOk P w K mg base CX0 2 fT fdT ["_law_pot_here"] spText) (mT : mg "_law_text" = some (.ref fT)) (kT : PySem.W.keepIn K (.ref fT) = true) (bT : Binds K fdT ["_law_pot_here"] []) :
    FnOk P w K mg base CX0 3 f fd ["_law_pot_here"] spTxs := by
  refine F.ok scTxs (fun vs H Q E h => ?_) (fun cdv A outer s H vs Q E hr h => ?_)
  · obtain ⟨p, n, rfl, _⟩ := h
    rfl
  · obtain ⟨p, n, rfl, hp, hn, kk⟩ := h
    refine ⟨_, pss_cons (ps_set (i := 1) scTxs.nd rfl (Or.inl rfl) (pe_call FT hr rfl mT kT bT .nil pass0 (pa_cons (pv 0) pa_nil)))
      (pss_one (ps_ret (pe_lst (pa_cons (pv 1) (pa_cons (pe_call FT hr rfl mT kT bT .nil pass0 (pa_cons (pv 0) pa_nil)) (pa_cons (pe_op op_add_str (pe_slice sl_str (pv 1) po_none (po_some pe_int)) pe_str) (pa_cons pe_str (pa_cons (pe_call FT hr rfl mT kT bT .nil pass0 (pa_cons (pv 0) pa_nil)) pa_nil)))))))), ?_⟩
    refine ⟨_, rfl, p, n, rfl, hp, by omega, fun t1 H1 h1 k1 hp1 => ?_⟩
    refine ⟨_, rfl, _, rfl, p, _, rfl, hp1, by omega, fun t2 H2 h2 k2 hp2 => ?_⟩
    obtain ⟨c1, c2⟩ := str_cut (m := 20) h1
    have l1 : t1.length ≤ 40 := by have := h1.1; simp only [Str.length]; simpa using this
    have hx : IsTx (cutS t1 none (some ((20 : Nat) : Int)) ++ Str.ofString "x") := by
      refine ⟨?_, fun c hc => ?_⟩
      · rw [str_add, List.length_append, show (Str.ofString "x").cps.toList.length = 1 by decide +kernel]
        omega
      · rw [str_add] at hc
        rcases List.mem_append.mp hc with q | q
        · exact c2 c q
        · exact (by decide +kernel : ∀ c ∈ (Str.ofString "x").cps.toList, c < 128 ∧ fineC c = true) c q
    have he : IsTx (Str.ofString "") := ⟨Nat.zero_le _, fun c hc => by revert c hc; decide +kernel⟩
    refine ⟨_, rfl, _, rfl, _, rfl, Nat.le_trans l1 (by decide), ?_⟩
    refine ⟨_, _, rfl, rfl, ?_, ?_⟩
    · have e : (cutS t1 none (some ((20 : Nat) : Int))).length ≤ 20 := by simp only [Str.length]; simpa using c1
      rw [show (Str.ofString "x").length = 1 by decide +kernel]
      exact Nat.le_trans (Nat.add_le_add_right e 1) (by decide)
    refine ⟨_, rfl, p, _, rfl, hp2, by omega, fun t5 H3 h5 k3 hp3 => ?_⟩
    refine ⟨(by show 5 ≤ sizeLine; decide), fun X hX => ?_⟩
    have k03 := (k1.trans k2).trans k3
    obtain ⟨x3, ep3⟩ := hp3.some
    have hX0 : H X = none := Keep.free k03 hX (nin1 fun z => by rw [z, ep3] at hX; cases hX)
    refine kk X [t1, t2, cutS t1 none (some ((20 : Nat) : Int)) ++ Str.ofString "x", Str.ofString "", t5] _ hX0 ⟨rfl, fun z hz => ?_⟩ upd_same (k03.newTo hX) ((hp3.keep (ex := []) (Keep.new hX) nin0).le (by omega))
    simp only [List.mem_cons, List.not_mem_nil, or_false] at hz
    rcases hz with z | z | z | z | z <;> rw [z] <;> assumption
end
end Fs
/-! max(xs, default=0), xs a list of whole numbers. -/
namespace Fs
open PySem PySem.Spec PyProof.Rows L2 TL
theorem args_maxD (a d : Value) : argsOk "max" ⟨[a], [("default", d)]⟩ := by
  unfold argsOk
  kernel_rfl
section
variable {prog : Program} {w : World} {A : Around} {R : Result → Shared → Prop} {I : Addr} {fp wr : List Addr} {n : Nat} {P : Nat → Value → Prop} {St : Nat → Heap → Prop} {d : Value}
/-- from the second item on -/
theorem maxD_loop (W : Walks prog w A.in1 I fp wr n P St) (bt : Nat → Nat → Bool) (hcmp : CmpOf prog w A.in1 .Gt P bt) (S : Addr) (hSf : S ∉ fp) : ∀ (k j : Nat) (s : Shared) (vb : Value) (c : Nat), n - (j + 1) = k → j + 1 ≤ n → St (j + 1) s.heap → P (argBest bt j) vb → s.heap.get? S = some { cls := .type "list", dict := none, data := .seq #[vb, vb] c, slots := #[] } →
      (∀ v h' tk, P (argBest bt (n - 1)) v → (∀ b o, b ∉ wr → b ≠ S → s.heap.get? b = some o → h'.get? b = some o) → R (.ok (.ret v)) { s with heap := h', toks := tk }) → codeAny (model prog w) A (.builtin "max.loop" ⟨[.ref I, .none, .ref S], [("default", d)]⟩) R s := by
  have hSw : S ∉ wr := fun h => hSf (W.sub _ h)
  have nm : (toString "max" ++ toString ".loop" : String) = "max.loop" := by decide
  intro k
  induction k with
  | zero =>
    intro j s vb c hk hj hst hPb hS hR
    have hin : j + 1 = n := by omega
    refine codeAny_builtin F.entry_max_loop ?_
    rw [Around.under_plainId F.plain_max_loop _]
    show wpAny _ A.in1 (seqItems? (.ref S) >>= _) _ _ s
    refine wpAny_bind (wpAny_seqItems hS rfl ?_)
    show wpAny _ A.in1 (tryCatch (pyNext (.ref I)) _ >>= _) _ _ s
    refine wpAny_bind (wpAny_tryCatch (W.done s _ _ (hin ▸ hst) fun h' tk hk' => ?_))
    have hS' := hk' S _ hSw hS
    show wpAny _ A.in1 (updateSeq S (fun _ => #[]) >>= _) _ _ _
    exact wpAny_bind (wpAny_updateSeq hS' rfl (wpAny_bind (wpAny_letGo (wpAny_pure (hR vb _ tk (by rw [← hin]; exact hPb) fun b o z1 z2 e => (Heap.get?_update_other _ _ (Ne.symm z2)).trans (hk' b o z1 e))))))
  | succ k ih =>
    intro j s vb c hk hj hst hPb hS hR
    have hlt : j + 1 < n := by omega
    refine codeAny_builtin F.entry_max_loop ?_
    rw [Around.under_plainId F.plain_max_loop _]
    show wpAny _ A.in1 (seqItems? (.ref S) >>= _) _ _ s
    refine wpAny_bind (wpAny_seqItems hS rfl ?_)
    show wpAny _ A.in1 (tryCatch (pyNext (.ref I)) _ >>= _) _ _ s
    refine wpAny_bind (wpAny_tryCatch (W.item (j + 1) s _ _ hlt hst fun v h' tk hP hst' hk' => ?_))
    have hS' := hk' S _ hSw hS
    show wpAny _ A.in1 (tryCatch (holding [v, v] (richCompare .Gt v vb >>= _)) _ >>= _) _ _ _
    refine wpAny_bind (wpAny_tryCatch (wpAny_holding (wpAny_bind (hcmp (j + 1) (argBest bt j) v vb _ _ _ hP hPb (wpAny_bind (wpAny_holding (wpAny_truthy_bool (wpAny_bind (wpAny_letGo (wpAny_pure ?_))))))))))
    cases hb : bt (j + 1) (argBest bt j) with
    | true =>
      simp only [if_true]
      refine wpAny_bind (wpAny_updateSeq hS' rfl (wpAny_bind (wpAny_letGo ?_)))
      rw [nm]
      refine wpAny_pure ⟨plainId_quiet F.plain_max_loop _, ih (j + 1) _ v _ (by omega) hlt (W.frame _ _ _ hst' fun b hbf o e => (Heap.get?_update_other _ _ (fun h : S = b => hSf (by rw [h]; exact hbf))).trans e) (by simp only [argBest, hb, if_true]; exact hP) (Heap.get?_update_self _ hS' rfl)
        fun v' h'' tk'' hP' hk'' => hR v' h'' tk'' hP' fun b o z1 z2 e => hk'' b o z1 z2 ((Heap.get?_update_other _ _ (Ne.symm z2)).trans (hk' b o z1 e))⟩
    | false =>
      simp only [Bool.false_eq_true, if_false]
      refine wpAny_bind (wpAny_letGo ?_)
      rw [nm]
      exact wpAny_pure ⟨plainId_quiet F.plain_max_loop _, ih (j + 1) _ vb c (by omega) hlt hst' (by simp only [argBest, hb, Bool.false_eq_true, if_false]; exact hPb) hS' fun v' h'' tk'' hP' hk'' => hR v' h'' tk'' hP' fun b o z1 z2 e => hk'' b o z1 z2 (hk' b o z1 e)⟩
/-- from the start -/
theorem maxD_first (W : Walks prog w A.in1 I fp wr n P St) (bt : Nat → Nat → Bool) (hcmp : CmpOf prog w A.in1 .Gt P bt) (S : Addr) (hSf : S ∉ fp) {s : Shared} {c : Nat} (hst : St 0 s.heap) (hS : s.heap.get? S = some { cls := .type "list", dict := none, data := .seq #[] c, slots := #[] })
    (h0 : n = 0 → ∀ h' tk, (∀ b o, b ∉ wr → b ≠ S → s.heap.get? b = some o → h'.get? b = some o) → R (.ok (.ret d)) { s with heap := h', toks := tk })
    (hR : 0 < n → ∀ v h' tk, P (argBest bt (n - 1)) v → (∀ b o, b ∉ wr → b ≠ S → s.heap.get? b = some o → h'.get? b = some o) → R (.ok (.ret v)) { s with heap := h', toks := tk }) : codeAny (model prog w) A (.builtin "max.loop" ⟨[.ref I, .none, .ref S], [("default", d)]⟩) R s := by
  have hSw : S ∉ wr := fun h => hSf (W.sub _ h)
  have nm : (toString "max" ++ toString ".loop" : String) = "max.loop" := by decide
  refine codeAny_builtin F.entry_max_loop ?_
  rw [Around.under_plainId F.plain_max_loop _]
  show wpAny _ A.in1 (seqItems? (.ref S) >>= _) _ _ s
  refine wpAny_bind (wpAny_seqItems hS rfl ?_)
  show wpAny _ A.in1 (tryCatch (pyNext (.ref I)) _ >>= _) _ _ s
  by_cases hn : 0 < n
  · refine wpAny_bind (wpAny_tryCatch (W.item 0 s _ _ hn hst fun v h' tk hP hst' hk' => ?_))
    have hS' := hk' S _ hSw hS
    show wpAny _ A.in1 (updateSeq S (fun _ => #[v, v]) >>= _) _ _ _
    refine wpAny_bind (wpAny_updateSeq hS' rfl ?_)
    rw [nm]
    exact wpAny_pure ⟨plainId_quiet F.plain_max_loop _, maxD_loop W bt hcmp S hSf _ 0 _ v _ rfl hn (W.frame _ _ _ hst' fun b hbf o e => (Heap.get?_update_other _ _ (fun h : S = b => hSf (by rw [h]; exact hbf))).trans e) hP (Heap.get?_update_self _ hS' rfl)
      fun v' h'' tk'' hP' hk'' => hR hn v' h'' tk'' hP' fun b o z1 z2 e => hk'' b o z1 z2 ((Heap.get?_update_other _ _ (Ne.symm z2)).trans (hk' b o z1 e))⟩
  · have z : n = 0 := by omega
    refine wpAny_bind (wpAny_tryCatch (W.done s _ _ (z ▸ hst) fun h' tk hk' => ?_))
    have hS' := hk' S _ hSw hS
    show wpAny _ A.in1 (rule (toString "max" ++ toString ".default") >>= _) _ _ _
    refine wpAny_bind (wpAny_rule ?_)
    exact wpAny_pure (h0 z h' tk fun b o z1 _ e => hk' b o z1 e)
end
section
variable {prog : Program} {w : World} {A : Around} {E : Value → Shared → Prop} {s : Shared} {l : Addr}
theorem call_treeK {id : String} {b : Builtin} {c : Args} {Q : Value → Shared → Prop} (hk : builtinKind id = none) (hp : plainId id = true) (hb : entryFor table id = some b) (ha : argsOk id c)
    (hc : wpAny (model prog w) A.in1 (b c) (fun fin s' => match fin with | .done f => (match (Except.ok f : Result) with | .ok (.ret v) => Q v s' | .ok _ => False | .error e => E e s') | .again c' => c'.quiet = true ∧ codeAny (model prog w) A c' (fun r s' => match r with | .ok (.ret v) => Q v s' | .ok _ => False | .error e => E e s') s') E s) : wpAny (model prog w) A (call (.builtin id) c.pos c.kw) Q E s := by
  refine wpAny_call (codeAny_call_builtin hp hb ?_)
  simp only [checkBuiltinCall, hk]
  cases hsig : Manifest.signature? id with
  | none => exact wpAny_pure hc
  | some sig =>
    simp only [argsOk, hsig] at ha
    have h2 : Bind.checkArgs id sig c = pure () := ha
    show wpAny _ A.in1 (Bind.checkArgs id sig c) _ _ s
    rw [h2]; exact wpAny_pure hc
theorem maxD_intList {xs : Array (Int × Tok)} {d : Value} {Q : Value → Shared → Prop} (hh : A.handled = none) (hl : s.heap.IsList l (intItems xs))
    (h0 : xs.size = 0 → ∀ h' tk, (∀ b o, s.heap.get? b = some o → h'.get? b = some o) → Q d { s with heap := h', toks := tk })
    (h : 0 < xs.size → ∀ v h' tk, (intItems xs)[argBest (fun i j => decide (numAt xs i > numAt xs j)) (xs.size - 1)]? = some v → (∀ b o, s.heap.get? b = some o → h'.get? b = some o) → Q v { s with heap := h', toks := tk }) : wpAny (model prog w) A (call (.builtin "max") [.ref l] [("default", d)]) Q E s := by
  have nm : (toString "max" ++ toString ".loop" : String) = "max.loop" := by decide
  refine call_treeK (c := ⟨[.ref l], [("default", d)]⟩) F.kind_max F.plain_max F.entry_max (args_maxD _ _) ?_
  show wpAny _ A.in1 (Builtin.Builtins.bindParams "max" ["key", "default"] 0 ⟨[], [("default", d)]⟩ >>= _) _ _ s
  refine wpAny_bind (wpAny_of_eq (show Builtin.Builtins.bindParams "max" ["key", "default"] 0 ⟨[], [("default", d)]⟩ = pure [none, some d] from rfl) ?_)
  refine wpAny_bind (wpAny_pure ?_)
  refine wpAny_bind (iter_intList hl fun s₂ e st hfp hlI => ?_)
  subst e
  refine wpAny_bind (wpAny_newObj_type ?_)
  rw [nm]
  have W : Walks prog w A.in1 s.heap.objs.size _ _ _ _ _ := Walks.list (A := A.in1) hh _ l hlI (intItems xs)
  refine wpAny_pure ⟨plainId_quiet F.plain_max_loop _, maxD_first W (fun i j => decide (numAt xs i > numAt xs j)) (CmpOf.ints_gt (numAt xs) (fun _ _ => intItems_at)) _ (fun hm => Nat.lt_irrefl _ (hfp _ hm)) (W.frame _ _ _ st fun b _ o e => Heap.get?_push_of_some _ e) (Heap.get?_push_size _ rfl) (fun z h' tk hk => ?_) fun z v h' tk hP hk => ?_⟩
  · refine h0 (by simpa [intItems] using z) h' tk (old_kept (l := l) fun b o hb e => ?_)
    exact hk b o (by simpa using hb) (Nat.ne_of_lt (Heap.lt_size e)) (Heap.get?_push_of_some _ e)
  · refine h (by simpa [intItems] using z) v h' tk (by simpa [intItems] using hP) (old_kept (l := l) fun b o hb e => ?_)
    exact hk b o (by simpa using hb) (Nat.ne_of_lt (Heap.lt_size e)) (Heap.get?_push_of_some _ e)
theorem maxD_raw {its : List Value} {ns : List Int} {d : Value} {Q : Value → Shared → Prop} (hh : A.handled = none) (hl : s.heap.IsList l its.toArray) (hi : IntsAre its ns)
    (h0 : ns = [] → ∀ h' tk, (∀ b o, s.heap.get? b = some o → h'.get? b = some o) → Q d { s with heap := h', toks := tk })
    (h : ∀ h' tk M t', (∀ b o, s.heap.get? b = some o → h'.get? b = some o) → M ∈ ns → (∀ a, a ∈ ns → a ≤ M) → Q (.int M t') { s with heap := h', toks := tk }) : wpAny (model prog w) A (call (.builtin "max") [.ref l] [("default", d)]) Q E s := by
  obtain ⟨xs, e⟩ := hi.allInts.items
  have hn : numsOf (intItems xs).toList = ns := by rw [← e]; exact hi.numsOf
  rw [nums_intItems] at hn
  subst hn
  rw [e] at hl
  refine maxD_intList hh hl (fun z h' tk hk => h0 (List.eq_nil_of_length_eq_zero (by simpa using z)) h' tk hk) fun hsz v h' tk hv hk => ?_
  obtain ⟨t, rfl⟩ := intItems_at hv
  obtain ⟨h1, h2⟩ := argBest_gt (numAt xs) (xs.size - 1)
  refine h h' tk _ t hk ?_ fun a ha => ?_
  · rw [numAt_eq]; exact PySem.getD_mem (by rw [List.length_map, Array.length_toList]; omega)
  · obtain ⟨j, hj, rfl⟩ := mem_getD ha
    rw [List.length_map, Array.length_toList] at hj
    rw [← numAt_eq]; exact h2 j (by omega)
end
def rMaxD0 (K : PySem.W.Frag) : List V → List V → Hp → VK → Prop := fun vs zs H Q => ∃ (a : Addr) (ns : List Int) (e : Int), vs = [V.ref a] ∧ zs = [.int e] ∧ SqL K H a (ns.map V.int) ∧ (ns = [] → Q (.int e) H) ∧ ∀ m, m ∈ ns → (∀ y, y ∈ ns → y ≤ m) → Q (.int m) H
theorem cr_maxD0 {X : Cx} (hc : X.calm = true) : CallRK X (.builtin "max") [Str.ofString "default"] (rMaxD0 X.K) := by
  intro pins s σ H vs zs us ws Q I r rz h
  obtain ⟨a, ns, e, rfl, rfl, hs, q0, q⟩ := h
  obtain ⟨its, rv, hl, _⟩ := I.list hs
  rw [Vals.ref1 r]
  obtain ⟨w1, rfl, t, rfl⟩ := vals1 rz
  exact maxD_raw (I.ok.hd hc) hl.isList rv.ints (fun z h' tk hk => ⟨.int _, H, I.kept hk, ⟨_, rfl⟩, q0 z⟩) fun h' tk m t' hk h1 h2 => ⟨.int _, H, I.kept hk, ⟨_, rfl⟩, q m h1 h2⟩
end Fs
/-! What is a whole number, a text, a name; the kinds. -/
namespace Fs
open PySem L2 TL
abbrev sWhole : Stmt := top 2
abbrev sIsText : Stmt := top 3
abbrev sIsName : Stmt := top 4
theorem scWhole : FnScope ["thing"] ["thing"] (defScope sWhole) := ⟨rfl, rfl, rfl, by decide +kernel, rfl, by decide +kernel, by decide +kernel⟩
theorem scIsText : FnScope ["thing"] ["thing"] (defScope sIsText) := ⟨rfl, rfl, rfl, by decide +kernel, rfl, by decide +kernel, by decide +kernel⟩
theorem scIsName : FnScope ["thing"] ["thing"] (defScope sIsName) := ⟨rfl, rfl, rfl, by decide +kernel, rfl, by decide +kernel, by decide +kernel⟩
def spWhole : Sp := fun vs H Q _ => ∃ i : Int, vs = [.int i] ∧ Q (.bl true) H
def spIsText : Sp := fun vs H Q _ => ∃ z : Str, vs = [.str z] ∧ Q (.bl true) H
def spIsName (Pt : Addr) : Sp := fun vs H Q _ => ∃ z : Str, vs = [.str z] ∧ IsNm z ∧ GxR.TabG H Pt ∧ ∀ H2, GxR.Tabbed Pt H H2 → Q (.bl true) H2
/-- 'a' <= sign <= 'z' -/
def pbN (c : Nat) : Bool := (!decide ([c] < (Str.ofString "a").cps.toList)) && (!decide ((Str.ofString "z").cps.toList < [c]))
theorem one_lt {a b : Nat} : ([a] < [b]) ↔ a < b := by
  constructor
  · intro h
    cases h with
    | rel h => exact h
    | cons h => cases h
  · intro h
    exact List.Lex.rel h
theorem pbN_small {c : Nat} (h : small c = true) : pbN c = true := by
  unfold small at h
  simp only [Bool.and_eq_true, decide_eq_true_eq] at h
  have ea : (Str.ofString "a").cps.toList = [97] := by decide +kernel
  have ez : (Str.ofString "z").cps.toList = [122] := by decide +kernel
  have h1 : ¬ ([c] < [97]) := fun q => by have := one_lt.mp q; omega
  have h2 : ¬ ([122] < [c]) := fun q => by have := one_lt.mp q; omega
  unfold pbN
  rw [ea, ez, decide_eq_false h1, decide_eq_false h2]
  rfl
theorem elt_name {prog : Program} {w : World} {scope : Scope} {x : Str} {j1 j2 : Nat} {p1 p2 p3 p4 : Pos} (hk : scope.kind = .function) (hl : scope.names.lookup x = some .local) (hd : (x == ("__debug__" : Str)) = false := by decide) :
    GxR.EltP prog w scope x (.Compare (.Constant (.str "a") j1 p1) [.LtE, .LtE] [.Name x p2, .Constant (.str "z") j2 p3] p4) pbN := by
  intro cenv A' E' c t s₂ m₂ hs hn hm
  have name : ∀ (s : Shared) (Q : Value → Shared → Prop), s.heap.Ns cenv.locals m₂ → Q (.str ⟨#[c]⟩ t) s → wpAny (model prog w) A' (eval (.Name x p2) cenv) Q E' s := fun s Q hn' h =>
    wpAny_Name (wpAny_loadName_local (by rw [hs]; exact hk) (show cenv.scope.names.lookup x = some .local by rw [hs]; exact hl) hn' hm h) hd
  refine PyProof.Rows.Compare_chain (PySem.Calls.Constant_str (PyProof.Rows.chain_link (name _ _ hn (PySem.P.le_str ?_)))) (by with_unfolding_all rfl)
  refine wpAny_truthy_bool ?_
  by_cases h : [c] < (Str.ofString "a").cps.toList
  · have e : pbN c = false := by unfold pbN; rw [decide_eq_true h]; rfl
    have e2 : (!decide ((Str.mk #[c]).cps.toList < (Str.ofString "a").cps.toList)) = false := by
      show (!decide ([c] < _)) = false
      rw [decide_eq_true h]; rfl
    rw [e2]
    exact PyProof.Rows.ite_ff ⟨by rw [e], GxR.keeps_tok _ _⟩
  · have e2 : (!decide ((Str.mk #[c]).cps.toList < (Str.ofString "a").cps.toList)) = true := by
      show (!decide ([c] < _)) = true
      rw [decide_eq_false h]; rfl
    rw [e2]
    refine PyProof.Rows.ite_tt (PyProof.Rows.chain_last (PySem.Calls.Constant_str (PySem.P.le_str ⟨?_, GxR.keeps_tok _ _⟩)))
    · have e : pbN c = (!decide ((Str.ofString "z").cps.toList < [c])) := by unfold pbN; rw [decide_eq_false h]; rfl
      rw [e]
section
variable {P : Program} {w : World} {K : PySem.W.Frag} {mg : Str → Option Value} {base : Heap}
theorem ok_whole {f : Addr} {fd : FuncData} (F : Fun K "is_whole" "is_whole" sWhole f fd) (mI : mg "isinstance" = none) (mT : mg "int" = none) (mB : mg "bool" = none) : FnOk P w K mg base CX0 1 f fd ["thing"] spWhole := by
  refine F.ok scWhole (fun vs H Q E h => ?_) (fun cdv A outer s H vs Q E hr h => ?_)
  · obtain ⟨i, rfl, _⟩ := h
    rfl
  · obtain ⟨i, rfl, kk⟩ := h
    refine ⟨_, pss_one (ps_ret (pe_and (pe_callB call_isi (by rfl) mI (by decide +kernel) (pa_cons (pv 0) (pa_cons (pe_bltn (v := .ty "int") (u := .type "int") (by rfl) mT (by decide +kernel) rfl) pa_nil)))
      (pe_one (pe_not (pe_callB call_isi (by rfl) mI (by decide +kernel) (pa_cons (pv 0) (pa_cons (pe_bltn (v := .ty "bool") (u := .type "bool") (by rfl) mB (by decide +kernel) rfl) pa_nil))))))), ?_⟩
    refine ⟨_, rfl, _, _, _, _, _, rfl, .ty "int", .base (.int i), kit_ty (r := true) (by decide +kernel), true, rfl, iteT ?_⟩
    exact ⟨_, rfl, _, _, _, _, _, rfl, .ty "bool", .base (.int i), kit_ty (r := false) (by decide +kernel), false, rfl, kk⟩
theorem ok_isText {f : Addr} {fd : FuncData} (F : Fun K "is_text" "is_text" sIsText f fd) (mI : mg "isinstance" = none) (mS : mg "str" = none) : FnOk P w K mg base CX0 1 f fd ["thing"] spIsText := by
  refine F.ok scIsText (fun vs H Q E h => ?_) (fun cdv A outer s H vs Q E hr h => ?_)
  · obtain ⟨i, rfl, _⟩ := h
    rfl
  · obtain ⟨i, rfl, kk⟩ := h
    refine ⟨_, pss_one (ps_ret (pe_callB call_isi (by rfl) mI (by decide +kernel) (pa_cons (pv 0) (pa_cons (pe_bltn (v := .ty "str") (u := .type "str") (by rfl) mS (by decide +kernel) rfl) pa_nil)))), ?_⟩
    exact ⟨_, rfl, _, _, _, _, _, rfl, .ty "str", .base (.str i), kit_ty (r := true) (by decide +kernel), kk⟩
theorem ok_isName {f fT c Pt : Addr} {fdT : FuncData} {oc dV kV doc pm ct : Value} {an od : Option Addr} {osl : Array (Option Value)} (lk : K.lookup f = some ⟨oc, od, .func (PySem.W.fnOf "is_name" "is_name" (defArgs sIsName) (defBody sIsName) (defScope sIsName) dV kV doc pm an (.ref c) ct), osl⟩) (hcd : PySem.W.codeIn K (.ref c) "is_name" = true)
    (TB : GxR.TabB base mg c Pt) (FT : FnOk P w K mg base CX0 1 fT fdT ["thing"] spIsText) (mT : mg "is_text" = some (.ref fT)) (kT : PySem.W.keepIn K (.ref fT) = true) (bT : Binds K fdT ["thing"] []) (mL : mg "len" = none) (mA : mg "all" = none) :
    FnOk P w K mg base CX0 2 f (PySem.W.fnOf "is_name" "is_name" (defArgs sIsName) (defBody sIsName) (defScope sIsName) dV kV doc pm an (.ref c) ct) ["thing"] (spIsName Pt) := by
  refine fn_of (CX := CX0) lk hcd scIsName (fun vs H Q E h => ?_) (fun A outer s H vs Q E hr h => ?_)
  · obtain ⟨z, rfl, _⟩ := h
    rfl
  · obtain ⟨z, rfl, ⟨h1, h2, h3⟩, hT, kk⟩ := h
    refine ⟨_, PSs.nox (pss_one (ps_ret (pe_and (pe_call FT hr rfl mT kT bT .nil pass0 (pa_cons (pv 0) pa_nil)) (pe_and (pe_chain op_le op_le pe_int (pe_callB call_len_str (by rfl) mL PySem.boot_len (pa_cons (pv 0) pa_nil)) pe_int)
      (pe_one (GxR.pe_allS hr (by rfl) mA (by decide +kernel) TB rfl ⟨rfl, rfl, by decide +kernel, rfl, rfl, fun y hy e => ?_⟩ (pv 0) (elt_name rfl rfl) (fun v => rfl))))))), ?_⟩
    · have q : ∀ y ∈ ([((".0" : Str), NameKind.local), (("sign" : Str), NameKind.local)] : List (Str × NameKind)), y.2 = NameKind.free → False := by decide
      exact (q y hy e).elim
    have hzl : z.length = z.cps.toList.length := by simp [Str.length]
    refine ⟨_, rfl, z, rfl, true, rfl, iteT ?_⟩
    refine ⟨_, rfl, z, rfl, Nat.le_of_lt (Nat.lt_of_lt_of_le (by omega : z.length < 1000) (by decide)), _, _, rfl, rfl, _, rfl, ?_⟩
    rw [decide_eq_true (show (1 : Int) ≤ (z.length : Int) by omega)]
    refine iteT ⟨_, _, rfl, rfl, _, rfl, ?_⟩
    rw [decide_eq_true (show (z.length : Int) ≤ (8 : Int) by omega)]
    refine iteT ⟨_, rfl, z, rfl, hT, fun H2 hH => ?_⟩
    have ea : z.cps.toList.all pbN = true := List.all_eq_true.mpr fun c hc => pbN_small (h3 c hc)
    rw [ea]
    exact kk H2 hH
end
end Fs
/-! The class of kinds. -/
namespace Fs
open PySem L2 TL
abbrev sKInit : Stmt := inClass (top 26) 0
abbrev sIsKind : Stmt := inClass (top 26) 2
abbrev sChkNew : Stmt := inClass (top 26) 6
theorem scKInit : FnScope ["self", "pairs", "name", "above"] ["self", "pairs"] (defScope sKInit) := ⟨rfl, rfl, rfl, by decide +kernel, rfl, by decide +kernel, by decide +kernel⟩
theorem scIsKind : FnScope ["self", "thing"] ["self", "thing"] (defScope sIsKind) := ⟨rfl, rfl, rfl, by decide +kernel, rfl, by decide +kernel, by decide +kernel⟩
theorem scChkNew : FnScope ["self", "name", "above"] ["self", "name", "above"] (defScope sChkNew) := ⟨rfl, rfl, rfl, by decide +kernel, rfl, by decide +kernel, by decide +kernel⟩
/-- what a kinds' dict holds -/
def kvsOf (ps : List (Str × Str)) : List (Key × V) := [(.inr sF, .non), (.inr sS, .str sF)] ++ ps.map fun q => (.inr q.1, .str q.2)
theorem sFS : ¬ sF = sS := by decide +kernel
theorem kvs_some (z : Str) : ∀ ps : List (Str × Str), (valV (ps.map fun q => ((.inr q.1 : Key), V.str q.2)) (.inr z)).isSome = decide (z ∈ ps.map Prod.fst)
  | [] => rfl
  | q :: r => by
    rw [List.map_cons, List.map_cons]
    by_cases h : q.1 = z
    · rw [valV_pos (by rw [h]), decide_eq_true (by rw [h]; exact List.mem_cons_self)]
      rfl
    · rw [valV_neg (fun e => h (Sum.inr.inj e)), kvs_some z r]
      have h2 : ¬ z = q.1 := fun e => h e.symm
      simp only [List.mem_cons, h2, false_or]
theorem kvs_is (z : Str) (ps : List (Str × Str)) : (valV (kvsOf ps) (.inr z)).isSome = decide (z ∈ sF :: sS :: ps.map Prod.fst) := by
  show (valV ((.inr sF, V.non) :: (.inr sS, V.str sF) :: ps.map fun q => ((.inr q.1 : Key), V.str q.2)) (.inr z)).isSome = _
  by_cases h : sF = z
  · rw [valV_pos (by rw [h]), decide_eq_true (by rw [h]; exact List.mem_cons_self)]
    rfl
  · rw [valV_neg (fun e => h (Sum.inr.inj e))]
    have h' : ¬ z = sF := fun e => h e.symm
    by_cases h2 : sS = z
    · rw [valV_pos (by rw [h2]), decide_eq_true (by rw [h2]; exact List.mem_cons_of_mem _ List.mem_cons_self)]
      rfl
    · have h2' : ¬ z = sS := fun e => h2 e.symm
      rw [valV_neg (fun e => h2 (Sum.inr.inj e)), kvs_some]
      simp only [List.mem_cons, h', h2', false_or]
theorem kvs_put {z y : Str} {ps : List (Str × Str)} (h : z ∉ sF :: sS :: ps.map Prod.fst) : putK (kvsOf ps) (.inr z) (.str y) = kvsOf (ps ++ [(z, y)]) := by
  have hn : ((kvsOf ps).any fun kv => decide (kv.1 = (.inr z : Key))) = false := by
    rw [List.any_eq_false]
    intro kv hkv e
    have e' := of_decide_eq_true e
    rcases List.mem_append.mp hkv with m | m
    · rcases List.mem_cons.mp m with m | m
      · rw [m] at e'
        exact h (by rw [← Sum.inr.inj e']; exact List.mem_cons_self)
      · rw [List.mem_singleton.mp m] at e'
        exact h (by rw [← Sum.inr.inj e']; exact List.mem_cons_of_mem _ List.mem_cons_self)
    · obtain ⟨q, hq, rfl⟩ := List.mem_map.mp m
      exact h (by rw [← Sum.inr.inj e']; exact List.mem_cons_of_mem _ (List.mem_cons_of_mem _ (List.mem_map.mpr ⟨q, hq, rfl⟩)))
  unfold putK
  rw [hn, if_neg Bool.false_ne_true]
  unfold kvsOf
  rw [List.map_append, ← List.append_assoc]
  rfl
theorem kvs_len (ps : List (Str × Str)) : (kvsOf ps).length = ps.length + 2 := by
  unfold kvsOf
  rw [List.length_append, List.length_map]
  show 2 + ps.length = _
  omega
/-- kinds of these pairs at kd, its dict at d -/
def KindsAt (C : Addr) (H : Hp) (kd : Addr) (ps : List (Str × Str)) : Prop := ∃ dx d, H kd = some (.ins C dx [("_above", .ref d)]) ∧ H d = some (.dK (kvsOf ps))
theorem ab_look (v : V) : ([(("_above" : Str), v)] : List (Str × V)).lookup ("_above" : Str) = some v := by simp [List.lookup]
theorem ab_no (v : V) {m : Str} (h : ¬ m = "_above") : ([(("_above" : Str), v)] : List (Str × V)).lookup m = none := by
  have e : (m == ("_above" : Str)) = false := by simpa using h
  simp [List.lookup, e]
theorem KindsAt.keep {C : Addr} {ex : List Addr} {H H' : Hp} {kd : Addr} {ps : List (Str × Str)} (h : KindsAt C H kd ps) (k : Keep ex H H') (hx : ∀ b ∈ ex, ∃ o, H b = some o ∧ (∀ C dx fs, o ≠ .ins C dx fs) ∧ ∀ kvs, o ≠ .dK kvs) : KindsAt C H' kd ps := by
  obtain ⟨dx, d, e1, e2⟩ := h
  refine ⟨dx, d, k.at e1 fun z => ?_, k.at e2 fun z => ?_⟩
  · obtain ⟨o, e, n, _⟩ := hx _ z
    rw [e1] at e
    exact n _ _ _ (Option.some.inj e).symm
  · obtain ⟨o, e, _, n⟩ := hx _ z
    rw [e2] at e
    exact n _ (Option.some.inj e).symm
/-- the class's own text -/
structure KTxt (K : PySem.W.Frag) (mg : Str → Option Value) (C fI fK fN : Addr) : Prop where
  cl : Cls K C
  nA : NoAttr K C "_above"
  mK : Meth K C "is_kind" fK
  mN : Meth K C "_check_new" fN
/-- a new object is told the pairs -/
def spKInit (C Pt : Addr) : Sp := fun vs H Q _ => ∃ (p l dx : Addr) (ps : List (Str × Str)), vs = [.ref p, .ref l] ∧ H p = some (.ins C dx []) ∧ PairsAt H l ps ∧ Wf ps ∧ ps.length ≤ 30 ∧ GxR.TabG H Pt ∧
  ∀ H' : Hp, Keep [p, Pt] H H' → KindsAt C H' p ps → GxR.TabG H' Pt → Q .non H'
theorem Wf.not_sheaf {ps : List (Str × Str)} (h : Wf ps) : ∀ y ∈ sF :: ps.map Prod.fst, ¬ y = sS := by
  induction h with
  | nil =>
    intro y hy e
    rw [List.mem_singleton.mp hy] at e
    exact sFS e
  | @snoc ps z y hw hz hn hy ih =>
    intro x hx e
    rw [List.map_append] at hx
    rcases List.mem_cons.mp hx with q | q
    · exact ih x (by rw [q]; exact List.mem_cons_self) e
    · rcases List.mem_append.mp q with q | q
      · exact ih x (List.mem_cons_of_mem _ q) e
      · have e2 : x = z := by simpa using q
        exact hn (by rw [← e2, e]; exact List.mem_cons_self)
/-- the first pairs, and the next one -/
theorem Wf.step {ps : List (Str × Str)} (h : Wf ps) : ∀ {i : Nat} {q : Str × Str}, ps[i]? = some q → IsNm q.1 ∧ q.1 ∉ sF :: sS :: (ps.take i).map Prod.fst ∧ q.2 ∈ sF :: (ps.take i).map Prod.fst := by
  induction h with
  | nil => intro i q e; simp at e
  | @snoc ps z y hw hz hn hy ih =>
    intro i q e
    by_cases hi : i < ps.length
    · rw [List.getElem?_append_left hi] at e
      rw [List.take_append_of_le_length (Nat.le_of_lt hi)]
      exact ih e
    · have hi2 : i = ps.length := by
        have := (List.getElem?_eq_some_iff.mp e).1
        rw [List.length_append, List.length_singleton] at this
        omega
      subst hi2
      rw [List.getElem?_append_right (Nat.le_refl _), Nat.sub_self] at e
      have e' : (z, y) = q := by simpa using e
      subst e'
      rw [List.take_left]
      refine ⟨hz, fun m => hn ?_, hy⟩
      rcases List.mem_cons.mp m with m | m
      · exact (show z = sF from m) ▸ List.mem_cons_of_mem _ List.mem_cons_self
      · rcases List.mem_cons.mp m with m | m
        · exact (show z = sS from m) ▸ List.mem_cons_self
        · exact List.mem_cons_of_mem _ (List.mem_cons_of_mem _ m)
def spIsKind (C : Addr) : Sp := fun vs H Q _ => ∃ (kd : Addr) (z : Str) (ps : List (Str × Str)), vs = [.ref kd, .str z] ∧ KindsAt C H kd ps ∧ Q (.bl (decide (z ∈ sF :: sS :: ps.map Prod.fst))) H
def spChkNew (C Pt : Addr) : Sp := fun vs H Q _ => ∃ (kd : Addr) (z y : Str) (ps : List (Str × Str)), vs = [.ref kd, .str z, .str y] ∧ KindsAt C H kd ps ∧ IsNm z ∧ z ∉ sF :: sS :: ps.map Prod.fst ∧ y ∈ sF :: ps.map Prod.fst ∧ ¬ y = sS ∧ GxR.TabG H Pt ∧ ∀ H2, GxR.Tabbed Pt H H2 → Q .non H2
theorem tab_keep {Pt : Addr} {H H' : Hp} (h : GxR.Tabbed Pt H H') : Keep [Pt] H H' := fun b o hb e => by
  rw [h.2 b (fun z => hb (by rw [z]; exact in1))]
  exact e
theorem tab_ex {H : Hp} {Pt : Addr} (h : GxR.TabG H Pt) : ∀ b ∈ [Pt], ∃ o, H b = some o ∧ (∀ C dx fs, o ≠ .ins C dx fs) ∧ ∀ kvs, o ≠ .dK kvs := fun b hb => by
  obtain ⟨ps, e, _⟩ := h
  rw [List.mem_singleton.mp hb]
  exact ⟨_, e, (fun _ _ _ z => by cases z), fun _ z => by cases z⟩
section
variable {P : Program} {w : World} {K : PySem.W.Frag} {mg : Str → Option Value} {base : Heap} {C fI fK fN : Addr}
theorem ok_isKind {fT : Addr} {fd fdT : FuncData} (F : Fun K "is_kind" "Kinds.is_kind" sIsKind fK fd) (T : KTxt K mg C fI fK fN) (FT : FnOk P w K mg base CX0 1 fT fdT ["thing"] spIsText) (mT : mg "is_text" = some (.ref fT)) (kT : PySem.W.keepIn K (.ref fT) = true) (bT : Binds K fdT ["thing"] []) :
    FnOk P w K mg base CX0 2 fK fd ["self", "thing"] (spIsKind C) := by
  refine F.ok scIsKind (fun vs H Q E h => ?_) (fun cdv A outer s H vs Q E hr h => ?_)
  · obtain ⟨kd, z, ps, rfl, _⟩ := h
    rfl
  · obtain ⟨kd, z, ps, rfl, ⟨dx, d, e1, e2⟩, kk⟩ := h
    refine ⟨_, pss_one (ps_ret (pe_and (pe_call FT hr rfl mT kT bT .nil pass0 (pa_cons (pv 1) pa_nil)) (pe_one (pe_cmp (pc_din (hu_of hr) (pv 1) (pe_fld (pv 0) rfl)) rfl)))), ?_⟩
    refine ⟨_, rfl, z, rfl, true, rfl, iteT ⟨_, rfl, _, rfl, kd, C, dx, _, _, rfl, e1, T.cl, T.nA, ab_look _, d, _, rfl, DGet.k (k := Sum.inr z) e2, ?_⟩⟩
    rw [kvs_is]
    exact kk
theorem ok_chkNew {fM : Addr} {fd fdM fdK : FuncData} {Pt : Addr} (F : Fun K "_check_new" "Kinds._check_new" sChkNew fN fd) (T : KTxt K mg C fI fK fN) (FM : FnOk P w K mg base CX0 2 fM fdM ["thing"] (spIsName Pt)) (mM : mg "is_name" = some (.ref fM)) (kM : PySem.W.keepIn K (.ref fM) = true) (bM : Binds K fdM ["thing"] [])
    (FK : FnOk P w K mg base CX0 2 fK fdK ["self", "thing"] (spIsKind C)) (bK : Binds K fdK ["self", "thing"] []) : FnOk P w K mg base CX0 3 fN fd ["self", "name", "above"] (spChkNew C Pt) := by
  refine F.ok scChkNew (fun vs H Q E h => ?_) (fun cdv A outer s H vs Q E hr h => ?_)
  · obtain ⟨kd, z, y, ps, rfl, _⟩ := h
    rfl
  · obtain ⟨kd, z, y, ps, rfl, hk, hz, hz2, hy, hy2, hT, kk⟩ := h
    refine ⟨_, pss_cons (ps_if (PW.pt (pw_or (pt_not (pt_val (pe_call FM hr rfl mM kM bM .nil pass0 (pa_cons (pv 1) pa_nil)))) (pw_or1 (pt_val (pe_meth (pv 0) T.cl T.mK FK hr bK .nil pass0 (pa_cons (pv 1) pa_nil)))))) (pss_one ps_never) pss_nil)
      (pss_one (ps_if (PW.pt (pw_or (pt_not (pt_val (pe_meth (pv 0) T.cl T.mK FK hr bK .nil pass0 (pa_cons (pv 2) pa_nil)))) (pw_or1 (pt_cmpR op_eq (pv 2) pe_str (nomark _))))) (pss_one ps_never) pss_nil)), ?_⟩
    refine ⟨_, rfl, z, rfl, hz, hT, fun H2 hH => ⟨true, rfl, iteF ?_⟩⟩
    have hk2 := hk.keep (tab_keep hH) (tab_ex hT)
    obtain ⟨dx, d, e1, e2⟩ := id hk2
    have noK : ([(("_above" : Str), V.ref d)] : List (Str × V)).lookup ("is_kind" : Str) = none := ab_no _ (by decide +kernel)
    refine ⟨_, rfl, kd, dx, _, rfl, e1, noK, _, rfl, kd, z, ps, rfl, hk2, _, rfl, ?_⟩
    rw [decide_eq_false hz2]
    refine iteF ?_
    refine ⟨_, rfl, kd, dx, _, rfl, e1, noK, _, rfl, kd, y, ps, rfl, hk2, _, rfl, ?_⟩
    have hy3 : y ∈ sF :: sS :: ps.map Prod.fst := by
      rcases List.mem_cons.mp hy with q | q
      · rw [q]; exact List.mem_cons_self
      · exact List.mem_cons_of_mem _ (List.mem_cons_of_mem _ q)
    rw [decide_eq_true hy3]
    refine iteF ⟨_, rfl, rfl, _, rfl, ?_⟩
    rw [decide_eq_false (fun e => hy2 (V.str.inj e))]
    exact iteF (kk H2 hH)
theorem ok_kInit {fd fdN : FuncData} {Pt : Addr} (F : Fun K "__init__" "Kinds.__init__" sKInit fI fd) (T : KTxt K mg C fI fK fN) (FN : FnOk P w K mg base CX0 3 fN fdN ["self", "name", "above"] (spChkNew C Pt)) (bN : Binds K fdN ["self", "name", "above"] []) :
    FnOk P w K mg base CX0 4 fI fd ["self", "pairs"] (spKInit C Pt) := by
  refine F.ok scKInit (fun vs H Q E h => ?_) (fun cdv A outer s H vs Q E hr h => ?_)
  · obtain ⟨p, l, dx, ps, rfl, _⟩ := h
    rfl
  · obtain ⟨p, l, dx, ps, rfl, hp, hP, hw, hlen, hT, kk⟩ := h
    refine ⟨_, pss_cons (ps_fld (pv 0) (pe_disp (pps_cons pe_str pe_non (pps_cons pe_str pe_str pps_nil)) (by rfl) (by rfl) (fun z => by cases z) (by decide)) rfl)
      (pss_one (ps_for PassesOwn.never rfl (pi_list (pv 1)) (pg_tup rfl (pgs_cons (pg_name (i := 2) scKInit.nd rfl (Or.inl rfl)) (pgs_cons (pg_name (i := 3) scKInit.nd rfl (Or.inl rfl)) pgs_nil)))
        (pss_cons (ps_expr (pe_meth (pv 0) T.cl T.mN FN hr bN .nil pass0 (pa_cons (pv 2) (pa_cons (pv 3) pa_nil)))) (pss_one (ps_dput (hu_of hr) (pe_fld (pv 0) rfl) (pv 2) (pv 3) rfl))))), ?_⟩
    intro d hd
    refine ⟨upd_same, kvsOf [], rfl, by decide, ?_⟩
    have npd : p ≠ d := ne_of_none hp hd
    have eK : mergeK [] (kvsOf []) = kvsOf [] := by decide +kernel
    rw [eK, upd_upd]
    refine ⟨_, rfl, p, C, dx, [], rfl, by rw [upd_ne npd]; exact hp, T.cl, T.nA, by decide, ?_⟩
    have k0 : Keep [p, Pt] H (upd (upd H d (.dK (kvsOf []))) p (.ins C dx [("_above", .ref d)])) := (Keep.new hd).ownTo List.mem_cons_self
    obtain ⟨as, el, tl⟩ := hP
    obtain ⟨tb, et, ht⟩ := hT
    have nlp : l ≠ p := ne_of el hp (fun z => nomatch z)
    have nlT : l ≠ Pt := ne_of el et (fun z => nomatch z)
    have nld : l ≠ d := ne_of_none el hd
    have npT : p ≠ Pt := ne_of hp et (fun z => nomatch z)
    have ndT : d ≠ Pt := fun z => by rw [z, et] at hd; cases hd
    have nlx : l ∉ [p, Pt] := fun z => by
      rcases List.mem_cons.mp z with z | z
      · exact nlp z
      · exact nlT (List.mem_singleton.mp z)
    have tx : ∀ a xs, H a = some (.tup xs) → a ∉ [p, Pt] := fun a xs q z => by
      rcases List.mem_cons.mp z with z | z
      · rw [z, hp] at q; cases q
      · rw [List.mem_singleton.mp z, et] at q; cases q
    refine ⟨_, rfl, l, rfl, ⟨_, SqL.of (k0.at el nlx)⟩, for_list (K := K) (a := l) (xs := as.map V.ref) (fun i σ H' => ∃ v2 v3 : Option V, σ = [some (.ref p), some (.ref l), v2, v3] ∧ Keep [p, Pt] H H' ∧ H' p = some (.ins C dx [("_above", .ref d)]) ∧ H' d = some (.dK (kvsOf (ps.take i))) ∧ GxR.TabG H' Pt)
      ⟨none, none, rfl, k0, upd_same, by rw [upd_ne npd.symm, upd_same]; rfl, ⟨tb, by rw [upd_ne npT.symm, upd_ne ndT.symm]; exact et, ht⟩⟩
      (fun i σ H' _ ⟨_, _, _, k, _⟩ => SqL.of (k.at el nlx)) ?_ ?_⟩
    · rintro i x σ H1 hx ⟨v2, v3, rfl, k1, e1, e2, hT1⟩
      obtain ⟨a, ha, rfl⟩ : ∃ a, as[i]? = some a ∧ x = V.ref a := by
        rw [List.getElem?_map] at hx
        cases q : as[i]? with
        | none => rw [q] at hx; cases hx
        | some a => rw [q] at hx; exact ⟨a, rfl, (Option.some.inj hx).symm⟩
      obtain ⟨q, hq2, hta⟩ := tl.at ha
      obtain ⟨w1, w2, w3⟩ := hw.step hq2
      have hns := hw.not_sheaf
      have hta1 : H1 a = some (.tup [.str q.1, .str q.2]) := k1.at hta (tx a _ hta)
      refine ⟨a, _, rfl, SqT.of hta1, rfl, _, _, rfl, _, _, rfl, rfl, ?_⟩
      have noN : ([(("_above" : Str), V.ref d)] : List (Str × V)).lookup ("_check_new" : Str) = none := ab_no _ (by decide +kernel)
      have hy : ¬ q.2 = sS := by
        refine hns q.2 ?_
        rcases List.mem_cons.mp w3 with m | m
        · rw [m]; exact List.mem_cons_self
        · obtain ⟨u, hu, eu⟩ := List.mem_map.mp m
          exact List.mem_cons_of_mem _ (List.mem_map.mpr ⟨u, List.mem_of_mem_take hu, eu⟩)
      refine ⟨_, rfl, p, dx, _, rfl, e1, noN, _, rfl, _, rfl, p, q.1, q.2, ps.take i, rfl, ⟨dx, d, e1, e2⟩, w1, w2, w3, hy, hT1, fun H2 hH => ?_⟩
      have k2 := tab_keep hH
      have e12 : H2 p = some (.ins C dx [("_above", .ref d)]) := k2.at e1 (nin1 npT)
      have e22 : H2 d = some (.dK (kvsOf (ps.take i))) := k2.at e2 (nin1 ndT)
      have hil : i < ps.length := (List.getElem?_eq_some_iff.mp hq2).1
      refine ⟨_, rfl, _, rfl, p, C, dx, _, _, rfl, e12, T.cl, T.nA, ab_look _, ?_⟩
      have hlk : (kvsOf (ps.take i)).length < sizeLine := by
        rw [kvs_len, List.length_take]
        exact Nat.lt_of_lt_of_le (by omega : min i ps.length + 2 < 1000) (by decide)
      refine ⟨_, rfl, d, _, rfl, DPut.k (k := Sum.inr q.1) e22 hlk, ?_⟩
      have eT : ps.take (i + 1) = ps.take i ++ [(q.1, q.2)] := by rw [List.take_add_one, hq2]; rfl
      rw [kvs_put w2, ← eT]
      refine ⟨_, _, rfl, ((k1.trans (k2.more fun b hb => List.mem_cons_of_mem _ hb)).freshTo hd), by rw [upd_ne npd]; exact e12, upd_same, ?_⟩
      obtain ⟨tb2, et2, ht2⟩ := hH.1
      exact ⟨tb2, by rw [upd_ne ndT.symm]; exact et2, ht2⟩
    · rintro σ H1 ⟨v2, v3, rfl, k1, e1, e2, hT1⟩
      rw [List.length_map, tl.len, List.take_length] at e2
      exact kk H1 k1 ⟨dx, d, e1, e2⟩ hT1
end
end Fs
/-! The ledger: what it holds. -/
namespace Fs
open PySem L2 TL
/-- a fault -/
structure Ent where
  kind : Str
  text : Str
  mem : List Nat
  notes : List Str
  cause : Option Nat
  atw : Option Nat
def optV : Option Nat → V
  | none => .non
  | some k => .int (k : Int)
/-- where a ledger's own lists stand -/
structure LA where
  dx : Addr
  kd : Addr
  l1 : Addr
  l2 : Addr
  l3 : Addr
  l4 : Addr
  l5 : Addr
  l6 : Addr
def LA.ls (A : LA) : List Addr := [A.l1, A.l2, A.l3, A.l4, A.l5, A.l6]
def fldsL (A : LA) : List (Str × V) := [("_kinds", .ref A.kd), ("_kind_of", .ref A.l1), ("_text_of", .ref A.l2), ("_members_of", .ref A.l3), ("_notes_of", .ref A.l4), ("_cause_of", .ref A.l5), ("_at_work_of", .ref A.l6)]
theorem fl0 (A : LA) : (fldsL A).lookup ("_kinds" : Str) = some (.ref A.kd) := rfl
theorem fl1 (A : LA) : (fldsL A).lookup ("_kind_of" : Str) = some (.ref A.l1) := rfl
theorem fl2 (A : LA) : (fldsL A).lookup ("_text_of" : Str) = some (.ref A.l2) := rfl
theorem fl3 (A : LA) : (fldsL A).lookup ("_members_of" : Str) = some (.ref A.l3) := rfl
theorem fl4 (A : LA) : (fldsL A).lookup ("_notes_of" : Str) = some (.ref A.l4) := rfl
theorem fl5 (A : LA) : (fldsL A).lookup ("_cause_of" : Str) = some (.ref A.l5) := rfl
theorem fl6 (A : LA) : (fldsL A).lookup ("_at_work_of" : Str) = some (.ref A.l6) := rfl
theorem flno (A : LA) : (fldsL A).lookup ("_check_fault" : Str) = none := rfl
/-- a list of tuples of whole numbers, as the faults have them -/
def MemsAt (H : Hp) : List Addr → List Ent → Prop
  | [], [] => True
  | a :: as, e :: es => H a = some (.tup (e.mem.map fun k : Nat => V.int (k : Int))) ∧ MemsAt H as es
  | _, _ => False
def NotesAt (H : Hp) : List Addr → List Ent → Prop
  | [], [] => True
  | a :: as, e :: es => H a = some (.lst (e.notes.map V.str)) ∧ NotesAt H as es
  | _, _ => False
theorem MemsAt.map {H H' : Hp} (k : ∀ a xs, H a = some (.tup xs) → H' a = some (.tup xs)) : ∀ {as : List Addr} {es : List Ent}, MemsAt H as es → MemsAt H' as es
  | [], [], _ => True.intro
  | _ :: as, _ :: es, h => ⟨k _ _ h.1, MemsAt.map k h.2⟩
  | [], _ :: _, h => h.elim
  | _ :: _, [], h => h.elim
theorem MemsAt.len {H : Hp} : ∀ {as : List Addr} {es : List Ent}, MemsAt H as es → as.length = es.length
  | [], [], _ => rfl
  | _ :: as, _ :: es, h => by rw [List.length_cons, List.length_cons, MemsAt.len h.2]
  | [], _ :: _, h => h.elim
  | _ :: _, [], h => h.elim
theorem MemsAt.snoc {H : Hp} {b : Addr} {e : Ent} (hb : H b = some (.tup (e.mem.map fun k : Nat => V.int (k : Int)))) : ∀ {as : List Addr} {es : List Ent}, MemsAt H as es → MemsAt H (as ++ [b]) (es ++ [e])
  | [], [], _ => ⟨hb, True.intro⟩
  | _ :: as, _ :: es, h => ⟨h.1, MemsAt.snoc hb h.2⟩
  | [], _ :: _, h => h.elim
  | _ :: _, [], h => h.elim
theorem MemsAt.at {H : Hp} : ∀ {as : List Addr} {es : List Ent} {i : Nat} {e : Ent}, MemsAt H as es → es[i]? = some e → ∃ a, as[i]? = some a ∧ H a = some (.tup (e.mem.map fun k : Nat => V.int (k : Int)))
  | _, [], _, _, _, q => by simp at q
  | [], _ :: _, _, _, h, _ => h.elim
  | b :: as, f :: es, 0, e, h, q => by
    have e' : f = e := by simpa using q
    subst e'
    exact ⟨b, rfl, h.1⟩
  | b :: as, f :: es, i + 1, e, h, q => MemsAt.at (i := i) h.2 (by simpa using q)
theorem NotesAt.map {H H' : Hp} : ∀ {as : List Addr} {es : List Ent}, (∀ a ∈ as, ∀ xs, H a = some (.lst xs) → H' a = some (.lst xs)) → NotesAt H as es → NotesAt H' as es
  | [], [], _, _ => True.intro
  | _ :: as, _ :: es, k, h => ⟨k _ List.mem_cons_self _ h.1, NotesAt.map (fun a ha => k a (List.mem_cons_of_mem _ ha)) h.2⟩
  | [], _ :: _, _, h => h.elim
  | _ :: _, [], _, h => h.elim
theorem NotesAt.len {H : Hp} : ∀ {as : List Addr} {es : List Ent}, NotesAt H as es → as.length = es.length
  | [], [], _ => rfl
  | _ :: as, _ :: es, h => by rw [List.length_cons, List.length_cons, NotesAt.len h.2]
  | [], _ :: _, h => h.elim
  | _ :: _, [], h => h.elim
theorem NotesAt.snoc {H : Hp} {b : Addr} {e : Ent} (hb : H b = some (.lst (e.notes.map V.str))) : ∀ {as : List Addr} {es : List Ent}, NotesAt H as es → NotesAt H (as ++ [b]) (es ++ [e])
  | [], [], _ => ⟨hb, True.intro⟩
  | _ :: as, _ :: es, h => ⟨h.1, NotesAt.snoc hb h.2⟩
  | [], _ :: _, h => h.elim
  | _ :: _, [], h => h.elim
theorem NotesAt.at {H : Hp} : ∀ {as : List Addr} {es : List Ent} {i : Nat} {e : Ent}, NotesAt H as es → es[i]? = some e → ∃ a, as[i]? = some a ∧ H a = some (.lst (e.notes.map V.str))
  | _, [], _, _, _, q => by simp at q
  | [], _ :: _, _, _, h, _ => h.elim
  | b :: as, f :: es, 0, e, h, q => by
    have e' : f = e := by simpa using q
    subst e'
    exact ⟨b, rfl, h.1⟩
  | b :: as, f :: es, i + 1, e, h, q => NotesAt.at (i := i) h.2 (by simpa using q)
theorem NotesAt.is {H : Hp} : ∀ {as : List Addr} {es : List Ent}, NotesAt H as es → ∀ a ∈ as, ∃ xs, H a = some (.lst xs)
  | [], [], _, _, h => absurd h List.not_mem_nil
  | _ :: as, _ :: es, h, a, m => by
    rcases List.mem_cons.mp m with m | m
    · rw [m]; exact ⟨_, h.1⟩
    · exact NotesAt.is h.2 a m
  | [], _ :: _, h, _, _ => h.elim
  | _ :: _, [], h, _, _ => h.elim
/-- a ledger at p with these faults -/
structure LedAt (C : Addr) (H : Hp) (p : Addr) (A : LA) (ms ns : List Addr) (es : List Ent) : Prop where
  ins : H p = some (.ins C A.dx (fldsL A))
  h1 : H A.l1 = some (.lst (es.map fun e => V.str e.kind))
  h2 : H A.l2 = some (.lst (es.map fun e => V.str e.text))
  h3 : H A.l3 = some (.lst (ms.map V.ref))
  h4 : H A.l4 = some (.lst (ns.map V.ref))
  h5 : H A.l5 = some (.lst (es.map fun e => optV e.cause))
  h6 : H A.l6 = some (.lst (es.map fun e => optV e.atw))
  mems : MemsAt H ms es
  notes : NotesAt H ns es
  nd : (A.ls ++ ns).Nodup
theorem LedAt.isl {C : Addr} {H : Hp} {p : Addr} {A : LA} {ms ns : List Addr} {es : List Ent} (h : LedAt C H p A ms ns es) : ∀ a ∈ A.ls, ∃ xs, H a = some (.lst xs) := by
  intro a ha
  have q : a = A.l1 ∨ a = A.l2 ∨ a = A.l3 ∨ a = A.l4 ∨ a = A.l5 ∨ a = A.l6 := by simpa [LA.ls] using ha
  rcases q with q | q | q | q | q | q <;> rw [q]
  · exact ⟨_, h.h1⟩
  · exact ⟨_, h.h2⟩
  · exact ⟨_, h.h3⟩
  · exact ⟨_, h.h4⟩
  · exact ⟨_, h.h5⟩
  · exact ⟨_, h.h6⟩
/-- what does not touch its lists leaves a ledger as it is -/
theorem LedAt.keep {C : Addr} {H H' : Hp} {p : Addr} {A : LA} {ms ns : List Addr} {es : List Ent} {ex : List Addr} (h : LedAt C H p A ms ns es) (k : Keep ex H H') (hl : ∀ b ∈ ex, b ∉ A.ls ++ ns) (hx : ∀ b ∈ ex, ∃ xs, H b = some (.lst xs)) : LedAt C H' p A ms ns es := by
  have nl : ∀ a ∈ A.ls ++ ns, a ∉ ex := fun a ha z => hl a z ha
  have ni : ∀ o, (∀ xs, o ≠ .lst xs) → ∀ b, H b = some o → b ∉ ex := fun o ho b e z => by
    obtain ⟨xs, q⟩ := hx b z
    rw [e] at q
    exact ho xs (Option.some.inj q)
  have m : ∀ a, a ∈ A.ls → a ∉ ex := fun a ha => nl a (List.mem_append_left _ ha)
  exact ⟨k.at h.ins (ni _ (fun _ z => by cases z) _ h.ins), k.at h.h1 (m _ (by simp [LA.ls])), k.at h.h2 (m _ (by simp [LA.ls])), k.at h.h3 (m _ (by simp [LA.ls])), k.at h.h4 (m _ (by simp [LA.ls])), k.at h.h5 (m _ (by simp [LA.ls])), k.at h.h6 (m _ (by simp [LA.ls])),
    h.mems.map fun a xs q => k.at q (ni _ (fun _ z => by cases z) _ q), h.notes.map fun a ha xs q => k.at q (nl a (List.mem_append_right _ ha)), h.nd⟩
end Fs
/-! The ledger's ways in and out. -/
namespace Fs
open PySem L2 TL
abbrev cLed : Stmt := top 28
abbrev sLInit : Stmt := inClass cLed 0
abbrev sPlain : Stmt := inClass cLed 1
abbrev sSheaf : Stmt := inClass cLed 2
abbrev sMany : Stmt := inClass cLed 4
abbrev sKind : Stmt := inClass cLed 5
abbrev sTextM : Stmt := inClass cLed 6
abbrev sMembers : Stmt := inClass cLed 7
abbrev sNotes : Stmt := inClass cLed 8
abbrev sCause : Stmt := inClass cLed 9
abbrev sAtWork : Stmt := inClass cLed 10
abbrev sAdd : Stmt := inClass cLed 18
abbrev sChkF : Stmt := inClass cLed 20
abbrev sChkT : Stmt := inClass cLed 22
abbrev sChkM : Stmt := inClass cLed 23
theorem scLInit : FnScope ["self", "kinds"] ["self", "kinds"] (defScope sLInit) := ⟨rfl, rfl, rfl, by decide +kernel, rfl, by decide +kernel, by decide +kernel⟩
theorem scPlain : FnScope ["self", "kind", "text"] ["self", "kind", "text"] (defScope sPlain) := ⟨rfl, rfl, rfl, by decide +kernel, rfl, by decide +kernel, by decide +kernel⟩
theorem scSheaf : FnScope ["self", "text", "members"] ["self", "text", "members"] (defScope sSheaf) := ⟨rfl, rfl, rfl, by decide +kernel, rfl, by decide +kernel, by decide +kernel⟩
theorem scMany : FnScope ["self"] ["self"] (defScope sMany) := ⟨rfl, rfl, rfl, by decide +kernel, rfl, by decide +kernel, by decide +kernel⟩
theorem scKind : FnScope ["self", "k"] ["self", "k"] (defScope sKind) := ⟨rfl, rfl, rfl, by decide +kernel, rfl, by decide +kernel, by decide +kernel⟩
theorem scTextM : FnScope ["self", "k"] ["self", "k"] (defScope sTextM) := ⟨rfl, rfl, rfl, by decide +kernel, rfl, by decide +kernel, by decide +kernel⟩
theorem scMembers : FnScope ["self", "k"] ["self", "k"] (defScope sMembers) := ⟨rfl, rfl, rfl, by decide +kernel, rfl, by decide +kernel, by decide +kernel⟩
theorem scNotes : FnScope ["self", "k"] ["self", "k"] (defScope sNotes) := ⟨rfl, rfl, rfl, by decide +kernel, rfl, by decide +kernel, by decide +kernel⟩
theorem scCause : FnScope ["self", "k"] ["self", "k"] (defScope sCause) := ⟨rfl, rfl, rfl, by decide +kernel, rfl, by decide +kernel, by decide +kernel⟩
theorem scAtWork : FnScope ["self", "k"] ["self", "k"] (defScope sAtWork) := ⟨rfl, rfl, rfl, by decide +kernel, rfl, by decide +kernel, by decide +kernel⟩
theorem scAdd : FnScope ["self", "kind", "text", "members"] ["self", "kind", "text", "members"] (defScope sAdd) := ⟨rfl, rfl, rfl, by decide +kernel, rfl, by decide +kernel, by decide +kernel⟩
theorem scChkF : FnScope ["self", "k"] ["self", "k"] (defScope sChkF) := ⟨rfl, rfl, rfl, by decide +kernel, rfl, by decide +kernel, by decide +kernel⟩
theorem scChkT : FnScope ["self", "text"] ["self", "text"] (defScope sChkT) := ⟨rfl, rfl, rfl, by decide +kernel, rfl, by decide +kernel, by decide +kernel⟩
theorem scChkM : FnScope ["self", "members", "k"] ["self", "members"] (defScope sChkM) := ⟨rfl, rfl, rfl, by decide +kernel, rfl, by decide +kernel, by decide +kernel⟩
/-- the class's own text -/
structure LTxt (K : PySem.W.Frag) (mg : Str → Option Value) (C fA fCF fCT fCM : Addr) : Prop where
  cl : Cls K C
  n0 : NoAttr K C "_kinds"
  n1 : NoAttr K C "_kind_of"
  n2 : NoAttr K C "_text_of"
  n3 : NoAttr K C "_members_of"
  n4 : NoAttr K C "_notes_of"
  n5 : NoAttr K C "_cause_of"
  n6 : NoAttr K C "_at_work_of"
  mA : Meth K C "_add" fA
  mF : Meth K C "_check_fault" fCF
  mT : Meth K C "_check_text" fCT
  mM : Meth K C "_check_members" fCM
  len : mg "len" = none
  tup : mg "tuple" = none
  lst : mg "list" = none
/-- a number of a fault that is there -/
def spChkF (C : Addr) : Sp := fun vs H Q _ => ∃ (p : Addr) (A : LA) (ms ns : List Addr) (es : List Ent) (k : Nat), vs = [.ref p, .int (k : Int)] ∧ LedAt C H p A ms ns es ∧ k < es.length ∧ Q .non H
def spChkT (C : Addr) : Sp := fun vs H Q _ => ∃ (p : Addr) (z : Str), vs = [.ref p, .str z] ∧ Q .non H
def spMany (C : Addr) : Sp := fun vs H Q _ => ∃ (p : Addr) (A : LA) (ms ns : List Addr) (es : List Ent), vs = [.ref p] ∧ LedAt C H p A ms ns es ∧ Q (.int (es.length : Int)) H
/-- one of the ways to look at a fault -/
def spGet (C : Addr) (g : Ent → V) : Sp := fun vs H Q _ => ∃ (p : Addr) (A : LA) (ms ns : List Addr) (es : List Ent) (k : Nat) (e : Ent), vs = [.ref p, .int (k : Int)] ∧ LedAt C H p A ms ns es ∧ es[k]? = some e ∧ Q (g e) H
/-- .. a list of one's own -/
def spGetL (C : Addr) (g : Ent → List V) : Sp := fun vs H Q _ => ∃ (p : Addr) (A : LA) (ms ns : List Addr) (es : List Ent) (k : Nat) (e : Ent), vs = [.ref p, .int (k : Int)] ∧ LedAt C H p A ms ns es ∧ es[k]? = some e ∧ ∀ l, H l = none → Q (.ref l) (upd H l (.lst (g e)))
section
variable {P : Program} {w : World} {K : PySem.W.Frag} {mg : Str → Option Value} {base : Heap} {C fA fCF fCT fCM : Addr}
theorem ok_chkF {fW : Addr} {fd fdW : FuncData} (F : Fun K "_check_fault" "Ledger._check_fault" sChkF fCF fd) (T : LTxt K mg C fA fCF fCT fCM) (FW : FnOk P w K mg base CX0 1 fW fdW ["thing"] spWhole) (mW : mg "is_whole" = some (.ref fW)) (kW : PySem.W.keepIn K (.ref fW) = true) (bW : Binds K fdW ["thing"] []) :
    FnOk P w K mg base CX0 2 fCF fd ["self", "k"] (spChkF C) := by
  refine F.ok scChkF (fun vs H Q E h => ?_) (fun cdv A outer s H vs Q E hr h => ?_)
  · obtain ⟨p, L, ms, ns, es, k, rfl, _⟩ := h
    rfl
  · obtain ⟨p, L, ms, ns, es, k, rfl, hL, hk, kk⟩ := h
    refine ⟨_, pss_one (ps_if (PW.pt (pw_or (pt_not (pt_val (pe_call FW hr rfl mW kW bW .nil pass0 (pa_cons (pv 1) pa_nil)))) (pw_or1 (pt_not (pt_chain op_le op_lt pe_int (pv 1) (pe_callB call_len_seq (by rfl) T.len PySem.boot_len (pa_cons (pe_fld (pv 0) rfl) pa_nil))))))) (pss_one ps_never) pss_nil), ?_⟩
    refine ⟨_, rfl, _, rfl, true, rfl, iteF ?_⟩
    refine ⟨_, rfl, _, _, rfl, rfl, _, rfl, ?_⟩
    rw [decide_eq_true (show (0 : Int) ≤ (k : Int) by omega)]
    refine iteT ⟨_, rfl, p, C, L.dx, _, _, rfl, hL.ins, T.cl, T.n1, fl1 L, L.l1, _, rfl, .inl (SqL.of hL.h1), _, _, rfl, rfl, _, rfl, ?_⟩
    rw [List.length_map, decide_eq_true (show (k : Int) < (es.length : Int) by omega)]
    exact iteF kk
theorem ok_chkT {fX : Addr} {fd fdX : FuncData} (F : Fun K "_check_text" "Ledger._check_text" sChkT fCT fd) (FX : FnOk P w K mg base CX0 1 fX fdX ["thing"] spIsText) (mX : mg "is_text" = some (.ref fX)) (kX : PySem.W.keepIn K (.ref fX) = true) (bX : Binds K fdX ["thing"] []) :
    FnOk P w K mg base CX0 2 fCT fd ["self", "text"] (spChkT C) := by
  refine F.ok scChkT (fun vs H Q E h => ?_) (fun cdv A outer s H vs Q E hr h => ?_)
  · obtain ⟨p, z, rfl, _⟩ := h
    rfl
  · obtain ⟨p, z, rfl, kk⟩ := h
    refine ⟨_, pss_one (ps_if (pt_not (pt_val (pe_call FX hr rfl mX kX bX .nil pass0 (pa_cons (pv 1) pa_nil)))) (pss_one ps_never) pss_nil), ?_⟩
    exact ⟨_, rfl, z, rfl, true, rfl, iteF kk⟩
theorem ok_many {f : Addr} {fd : FuncData} (F : Fun K "many" "Ledger.many" sMany f fd) (T : LTxt K mg C fA fCF fCT fCM) : FnOk P w K mg base CX0 1 f fd ["self"] (spMany C) := by
  refine F.ok scMany (fun vs H Q E h => ?_) (fun cdv A outer s H vs Q E hr h => ?_)
  · obtain ⟨p, L, ms, ns, es, rfl, _⟩ := h
    rfl
  · obtain ⟨p, L, ms, ns, es, rfl, hL, kk⟩ := h
    refine ⟨_, pss_one (ps_ret (pe_callB call_len_seq (by rfl) T.len PySem.boot_len (pa_cons (pe_fld (pv 0) rfl) pa_nil))), ?_⟩
    refine ⟨_, rfl, p, C, L.dx, _, _, rfl, hL.ins, T.cl, T.n1, fl1 L, L.l1, _, rfl, .inl (SqL.of hL.h1), ?_⟩
    rw [List.length_map]
    exact kk
theorem ok_kind {f : Addr} {fd fdF : FuncData} (F : Fun K "kind" "Ledger.kind" sKind f fd) (T : LTxt K mg C fA fCF fCT fCM) (FF : FnOk P w K mg base CX0 2 fCF fdF ["self", "k"] (spChkF C)) (bF : Binds K fdF ["self", "k"] []) : FnOk P w K mg base CX0 3 f fd ["self", "k"] (spGet C fun e => .str e.kind) := by
  refine F.ok scKind (fun vs H Q E h => ?_) (fun cdv A outer s H vs Q E hr h => ?_)
  · obtain ⟨p, L, ms, ns, es, k, e, rfl, _⟩ := h
    rfl
  · obtain ⟨p, L, ms, ns, es, k, e, rfl, hL, he, kk⟩ := h
    have hk := (List.getElem?_eq_some_iff.mp he).1
    refine ⟨_, pss_cons (ps_expr (pe_meth (pv 0) T.cl T.mF FF hr bF .nil pass0 (pa_cons (pv 1) pa_nil))) (pss_one (ps_ret (pe_ix ix_list (pe_fld (pv 0) rfl) (pv 1) (fun _ _ => rfl)))), ?_⟩
    refine ⟨_, rfl, p, L.dx, _, rfl, hL.ins, flno L, _, rfl, p, L, ms, ns, es, k, rfl, hL, hk, ?_⟩
    exact ⟨_, rfl, p, C, L.dx, _, _, rfl, hL.ins, T.cl, T.n1, fl1 L, _, rfl, L.l1, _, _, _, rfl, rfl, SqL.of hL.h1, atI_nat (by rw [List.getElem?_map, he]; rfl), kk⟩
theorem ok_textM {f : Addr} {fd fdF : FuncData} (F : Fun K "text" "Ledger.text" sTextM f fd) (T : LTxt K mg C fA fCF fCT fCM) (FF : FnOk P w K mg base CX0 2 fCF fdF ["self", "k"] (spChkF C)) (bF : Binds K fdF ["self", "k"] []) : FnOk P w K mg base CX0 3 f fd ["self", "k"] (spGet C fun e => .str e.text) := by
  refine F.ok scTextM (fun vs H Q E h => ?_) (fun cdv A outer s H vs Q E hr h => ?_)
  · obtain ⟨p, L, ms, ns, es, k, e, rfl, _⟩ := h
    rfl
  · obtain ⟨p, L, ms, ns, es, k, e, rfl, hL, he, kk⟩ := h
    have hk := (List.getElem?_eq_some_iff.mp he).1
    refine ⟨_, pss_cons (ps_expr (pe_meth (pv 0) T.cl T.mF FF hr bF .nil pass0 (pa_cons (pv 1) pa_nil))) (pss_one (ps_ret (pe_ix ix_list (pe_fld (pv 0) rfl) (pv 1) (fun _ _ => rfl)))), ?_⟩
    refine ⟨_, rfl, p, L.dx, _, rfl, hL.ins, flno L, _, rfl, p, L, ms, ns, es, k, rfl, hL, hk, ?_⟩
    exact ⟨_, rfl, p, C, L.dx, _, _, rfl, hL.ins, T.cl, T.n2, fl2 L, _, rfl, L.l2, _, _, _, rfl, rfl, SqL.of hL.h2, atI_nat (by rw [List.getElem?_map, he]; rfl), kk⟩
theorem ok_cause {f : Addr} {fd fdF : FuncData} (F : Fun K "cause" "Ledger.cause" sCause f fd) (T : LTxt K mg C fA fCF fCT fCM) (FF : FnOk P w K mg base CX0 2 fCF fdF ["self", "k"] (spChkF C)) (bF : Binds K fdF ["self", "k"] []) : FnOk P w K mg base CX0 3 f fd ["self", "k"] (spGet C fun e => optV e.cause) := by
  refine F.ok scCause (fun vs H Q E h => ?_) (fun cdv A outer s H vs Q E hr h => ?_)
  · obtain ⟨p, L, ms, ns, es, k, e, rfl, _⟩ := h
    rfl
  · obtain ⟨p, L, ms, ns, es, k, e, rfl, hL, he, kk⟩ := h
    have hk := (List.getElem?_eq_some_iff.mp he).1
    refine ⟨_, pss_cons (ps_expr (pe_meth (pv 0) T.cl T.mF FF hr bF .nil pass0 (pa_cons (pv 1) pa_nil))) (pss_one (ps_ret (pe_ix ix_list (pe_fld (pv 0) rfl) (pv 1) (fun _ _ => rfl)))), ?_⟩
    refine ⟨_, rfl, p, L.dx, _, rfl, hL.ins, flno L, _, rfl, p, L, ms, ns, es, k, rfl, hL, hk, ?_⟩
    exact ⟨_, rfl, p, C, L.dx, _, _, rfl, hL.ins, T.cl, T.n5, fl5 L, _, rfl, L.l5, _, _, _, rfl, rfl, SqL.of hL.h5, atI_nat (by rw [List.getElem?_map, he]; rfl), kk⟩
theorem ok_atWork {f : Addr} {fd fdF : FuncData} (F : Fun K "at_work" "Ledger.at_work" sAtWork f fd) (T : LTxt K mg C fA fCF fCT fCM) (FF : FnOk P w K mg base CX0 2 fCF fdF ["self", "k"] (spChkF C)) (bF : Binds K fdF ["self", "k"] []) : FnOk P w K mg base CX0 3 f fd ["self", "k"] (spGet C fun e => optV e.atw) := by
  refine F.ok scAtWork (fun vs H Q E h => ?_) (fun cdv A outer s H vs Q E hr h => ?_)
  · obtain ⟨p, L, ms, ns, es, k, e, rfl, _⟩ := h
    rfl
  · obtain ⟨p, L, ms, ns, es, k, e, rfl, hL, he, kk⟩ := h
    have hk := (List.getElem?_eq_some_iff.mp he).1
    refine ⟨_, pss_cons (ps_expr (pe_meth (pv 0) T.cl T.mF FF hr bF .nil pass0 (pa_cons (pv 1) pa_nil))) (pss_one (ps_ret (pe_ix ix_list (pe_fld (pv 0) rfl) (pv 1) (fun _ _ => rfl)))), ?_⟩
    refine ⟨_, rfl, p, L.dx, _, rfl, hL.ins, flno L, _, rfl, p, L, ms, ns, es, k, rfl, hL, hk, ?_⟩
    exact ⟨_, rfl, p, C, L.dx, _, _, rfl, hL.ins, T.cl, T.n6, fl6 L, _, rfl, L.l6, _, _, _, rfl, rfl, SqL.of hL.h6, atI_nat (by rw [List.getElem?_map, he]; rfl), kk⟩
theorem ok_members {f : Addr} {fd fdF : FuncData} (F : Fun K "members" "Ledger.members" sMembers f fd) (T : LTxt K mg C fA fCF fCT fCM) (FF : FnOk P w K mg base CX0 2 fCF fdF ["self", "k"] (spChkF C)) (bF : Binds K fdF ["self", "k"] []) : FnOk P w K mg base CX0 3 f fd ["self", "k"] (spGetL C fun e => e.mem.map fun k : Nat => V.int (k : Int)) := by
  refine F.ok scMembers (fun vs H Q E h => ?_) (fun cdv A outer s H vs Q E hr h => ?_)
  · obtain ⟨p, L, ms, ns, es, k, e, rfl, _⟩ := h
    rfl
  · obtain ⟨p, L, ms, ns, es, k, e, rfl, hL, he, kk⟩ := h
    have hk := (List.getElem?_eq_some_iff.mp he).1
    obtain ⟨m, hm, hm2⟩ := hL.mems.at he
    refine ⟨_, pss_cons (ps_expr (pe_meth (pv 0) T.cl T.mF FF hr bF .nil pass0 (pa_cons (pv 1) pa_nil))) (pss_one (ps_ret (pe_callTy call_list_of (by rfl) T.lst (by decide +kernel) (pa_cons (pe_ix ix_list (pe_fld (pv 0) rfl) (pv 1) (fun _ _ => rfl)) pa_nil)))), ?_⟩
    refine ⟨_, rfl, p, L.dx, _, rfl, hL.ins, flno L, _, rfl, p, L, ms, ns, es, k, rfl, hL, hk, ?_⟩
    exact ⟨_, rfl, p, C, L.dx, _, _, rfl, hL.ins, T.cl, T.n3, fl3 L, _, rfl, L.l3, _, _, V.ref m, rfl, rfl, SqL.of hL.h3, atI_nat (by rw [List.getElem?_map, hm]; rfl), m, _, rfl, .inr (SqT.of hm2), kk⟩
theorem ok_notes {f : Addr} {fd fdF : FuncData} (F : Fun K "notes" "Ledger.notes" sNotes f fd) (T : LTxt K mg C fA fCF fCT fCM) (FF : FnOk P w K mg base CX0 2 fCF fdF ["self", "k"] (spChkF C)) (bF : Binds K fdF ["self", "k"] []) : FnOk P w K mg base CX0 3 f fd ["self", "k"] (spGetL C fun e => e.notes.map V.str) := by
  refine F.ok scNotes (fun vs H Q E h => ?_) (fun cdv A outer s H vs Q E hr h => ?_)
  · obtain ⟨p, L, ms, ns, es, k, e, rfl, _⟩ := h
    rfl
  · obtain ⟨p, L, ms, ns, es, k, e, rfl, hL, he, kk⟩ := h
    have hk := (List.getElem?_eq_some_iff.mp he).1
    obtain ⟨m, hm, hm2⟩ := hL.notes.at he
    refine ⟨_, pss_cons (ps_expr (pe_meth (pv 0) T.cl T.mF FF hr bF .nil pass0 (pa_cons (pv 1) pa_nil))) (pss_one (ps_ret (pe_callTy call_list_of (by rfl) T.lst (by decide +kernel) (pa_cons (pe_ix ix_list (pe_fld (pv 0) rfl) (pv 1) (fun _ _ => rfl)) pa_nil)))), ?_⟩
    refine ⟨_, rfl, p, L.dx, _, rfl, hL.ins, flno L, _, rfl, p, L, ms, ns, es, k, rfl, hL, hk, ?_⟩
    exact ⟨_, rfl, p, C, L.dx, _, _, rfl, hL.ins, T.cl, T.n4, fl4 L, _, rfl, L.l4, _, _, V.ref m, rfl, rfl, SqL.of hL.h4, atI_nat (by rw [List.getElem?_map, hm]; rfl), m, _, rfl, .inl (SqL.of hm2), kk⟩
end
end Fs
/-! A fault more. -/
namespace Fs
open PySem L2 TL
/-- a new fault: its members as they are handed in -/
def spAdd (K : PySem.W.Frag) (C : Addr) : Sp := fun vs H Q _ => ∃ (p m : Addr) (A : LA) (ms ns : List Addr) (es : List Ent) (z t : Str) (mem : List Nat), vs = [.ref p, .str z, .str t, .ref m] ∧ LedAt C H p A ms ns es ∧ SqL K H m (mem.map fun k : Nat => V.int (k : Int)) ∧ m ∉ A.ls ∧ es.length < 100000 ∧
  ∀ (H' : Hp) (t' n' : Addr), Keep A.ls H H' → LedAt C H' p A (ms ++ [t']) (ns ++ [n']) (es ++ [⟨z, t, mem, [], none, none⟩]) → H n' = none → Q (.int (es.length : Int)) H'
theorem app_run {K : PySem.W.Frag} {C p dx l : Addr} {fs : List (Str × V)} {f : Str} {xs : List V} {v : V} {σ : L2.St} {H : Hp} {te : TE} {D : Ends} (hσ : σ[0]? = some (some (.ref p))) (hp : H p = some (.ins C dx fs)) (cl : Cls K C) (na : NoAttr K C f) (hf : fs.lookup f = some (.ref l))
    (hl : H l = some (.lst xs)) (hlen : xs.length ≤ 100000) (hte : ∀ Q : VK, Q v H → te σ H Q) (h : D.nx σ (upd H l (.lst (xs ++ [v])))) : tDrop (tBM K "list" rAppend (tFld K (tVar 0) f) (tCons te tNil)) D σ H := by
  refine ⟨_, hσ, p, C, dx, fs, _, rfl, hp, cl, na, hf, .inl ⟨rfl, _, SqL.of hl⟩, hte _ ?_⟩
  exact ⟨l, xs, v, rfl, rfl, hl, Nat.lt_of_le_of_lt hlen (by decide), h⟩
theorem ls_ne {A : LA} {ns : List Addr} (h : (A.ls ++ ns).Nodup) : A.l1 ≠ A.l2 ∧ A.l1 ≠ A.l3 ∧ A.l1 ≠ A.l4 ∧ A.l1 ≠ A.l5 ∧ A.l1 ≠ A.l6 ∧ A.l2 ≠ A.l3 ∧ A.l2 ≠ A.l4 ∧ A.l2 ≠ A.l5 ∧ A.l2 ≠ A.l6 ∧ A.l3 ≠ A.l4 ∧ A.l3 ≠ A.l5 ∧ A.l3 ≠ A.l6 ∧ A.l4 ≠ A.l5 ∧ A.l4 ≠ A.l6 ∧ A.l5 ≠ A.l6 := by
  have q := (List.nodup_append.mp h).1
  simp [LA.ls] at q
  obtain ⟨⟨a, b, c, d, e⟩, ⟨f, g, h, i⟩, ⟨j, k, l⟩, ⟨m, n⟩, o⟩ := q
  exact ⟨a, b, c, d, e, f, g, h, i, j, k, l, m, n, o⟩
theorem l_in (A : LA) : A.l1 ∈ A.ls ∧ A.l2 ∈ A.ls ∧ A.l3 ∈ A.ls ∧ A.l4 ∈ A.ls ∧ A.l5 ∈ A.ls ∧ A.l6 ∈ A.ls := by simp [LA.ls]
section
variable {P : Program} {w : World} {K : PySem.W.Frag} {mg : Str → Option Value} {base : Heap} {C fA fCF fCT fCM : Addr}
theorem ok_add {fd : FuncData} (F : Fun K "_add" "Ledger._add" sAdd fA fd) (T : LTxt K mg C fA fCF fCT fCM) : FnOk P w K mg base CX0 1 fA fd ["self", "kind", "text", "members"] (spAdd K C) := by
  refine F.ok scAdd (fun vs H Q E h => ?_) (fun cdv A outer s H vs Q E hr h => ?_)
  · obtain ⟨p, m, L, ms, ns, es, z, t, mem, rfl, _⟩ := h
    rfl
  · obtain ⟨p, m, L, ms, ns, es, z, t, mem, rfl, hL, hm, hmn, hlen, kk⟩ := h
    obtain ⟨n12, n13, n14, n15, n16, n23, n24, n25, n26, n34, n35, n36, n45, n46, n56⟩ := ls_ne hL.nd
    obtain ⟨i1, i2, i3, i4, i5, i6⟩ := l_in L
    have lm := hL.mems.len
    have ln := hL.notes.len
    refine ⟨_, pss_cons (ps_expr (pe_bm PySem.F.plainAttrs_list PySem.F.slot_list_append PySem.F.type_list_append mt_append (pe_fld (pv 0) rfl) (pa_cons (pv 1) pa_nil))) (pss_cons (ps_expr (pe_bm PySem.F.plainAttrs_list PySem.F.slot_list_append PySem.F.type_list_append mt_append (pe_fld (pv 0) rfl) (pa_cons (pv 2) pa_nil))) (pss_cons (ps_expr (pe_bm PySem.F.plainAttrs_list PySem.F.slot_list_append PySem.F.type_list_append mt_append (pe_fld (pv 0) rfl) (pa_cons (pe_callTy call_tuple_of (by rfl) T.tup (by decide +kernel) (pa_cons (pv 3) pa_nil)) pa_nil))) (pss_cons (ps_expr (pe_bm PySem.F.plainAttrs_list PySem.F.slot_list_append PySem.F.type_list_append mt_append (pe_fld (pv 0) rfl) (pa_cons (pe_lst pa_nil) pa_nil))) (pss_cons (ps_expr (pe_bm PySem.F.plainAttrs_list PySem.F.slot_list_append PySem.F.type_list_append mt_append (pe_fld (pv 0) rfl) (pa_cons pe_non pa_nil))) (pss_cons (ps_expr (pe_bm PySem.F.plainAttrs_list PySem.F.slot_list_append PySem.F.type_list_append mt_append (pe_fld (pv 0) rfl) (pa_cons pe_non pa_nil)))
      (pss_one (ps_ret (pe_op op_sub (pe_callB call_len_seq (by rfl) T.len PySem.boot_len (pa_cons (pe_fld (pv 0) rfl) pa_nil)) pe_int)))))))), ?_⟩
    -- kind
    refine app_run rfl hL.ins T.cl T.n1 (fl1 L) hL.h1 (by rw [List.length_map]; omega) (fun Q q => ⟨_, rfl, q⟩) ?_
    have k1 : Keep [L.l1] H (upd H L.l1 (.lst ((es.map fun e => V.str e.kind) ++ [.str z]))) := Keep.own in1
    have a1 : (upd H L.l1 (.lst ((es.map fun e => V.str e.kind) ++ [.str z]))) L.l1 = _ := upd_same
    generalize (upd H L.l1 (.lst ((es.map fun e => V.str e.kind) ++ [.str z]))) = H1 at k1 a1 ⊢
    have p1 : H1 p = some (.ins C L.dx (fldsL L)) := k1.at hL.ins (nin1 (ne_of hL.ins hL.h1 (fun z => by cases z)))
    have b2 := k1.at hL.h2 (nin1 n12.symm)
    -- text
    refine app_run rfl p1 T.cl T.n2 (fl2 L) b2 (by rw [List.length_map]; omega) (fun Q q => ⟨_, rfl, q⟩) ?_
    have k2 : Keep [L.l2] H1 (upd H1 L.l2 (.lst ((es.map fun e => V.str e.text) ++ [.str t]))) := Keep.own in1
    have a2 : (upd H1 L.l2 (.lst ((es.map fun e => V.str e.text) ++ [.str t]))) L.l2 = _ := upd_same
    generalize (upd H1 L.l2 (.lst ((es.map fun e => V.str e.text) ++ [.str t]))) = H2 at k2 a2 ⊢
    have p2 : H2 p = some (.ins C L.dx (fldsL L)) := k2.at p1 (nin1 (ne_of p1 b2 (fun z => by cases z)))
    have nm : ∀ l, l ∈ L.ls → m ∉ [l] := fun l hl z => hmn (by rw [List.mem_singleton.mp z]; exact hl)
    have m2 := k2.seq (nm _ i2) (k1.seq (nm _ i1) hm)
    have b3 := k2.at (k1.at hL.h3 (nin1 n13.symm)) (nin1 n23.symm)
    -- tuple(members)
    refine ⟨_, rfl, p, C, L.dx, _, _, rfl, p2, T.cl, T.n3, fl3 L, .inl ⟨rfl, _, SqL.of b3⟩, _, rfl, m, _, rfl, .inl ⟨m2, fun u hu => ?_⟩⟩
    have k3 : Keep [] H2 (upd H2 u (.tup (mem.map fun k : Nat => V.int (k : Int)))) := Keep.new hu
    have a3 : (upd H2 u (.tup (mem.map fun k : Nat => V.int (k : Int)))) u = _ := upd_same
    generalize (upd H2 u (.tup (mem.map fun k : Nat => V.int (k : Int)))) = H3 at k3 a3 ⊢
    have b3' := k3.at b3 nin0
    refine ⟨L.l3, _, _, rfl, rfl, b3', Nat.lt_of_le_of_lt (by rw [List.length_map]; omega : (ms.map V.ref).length ≤ 100000) (by decide), ?_⟩
    have k4 : Keep [L.l3] H3 (upd H3 L.l3 (.lst ((ms.map V.ref) ++ [.ref u]))) := Keep.own in1
    have a4 : (upd H3 L.l3 (.lst ((ms.map V.ref) ++ [.ref u]))) L.l3 = _ := upd_same
    generalize (upd H3 L.l3 (.lst ((ms.map V.ref) ++ [.ref u]))) = H4 at k4 a4 ⊢
    have p4 : H4 p = some (.ins C L.dx (fldsL L)) := k4.at (k3.at p2 nin0) (nin1 (ne_of (k3.at p2 nin0) b3' (fun z => by cases z)))
    have b4 := k4.at (k3.at (k2.at (k1.at hL.h4 (nin1 n14.symm)) (nin1 n24.symm)) nin0) (nin1 n34.symm)
    -- []
    refine ⟨_, rfl, p, C, L.dx, _, _, rfl, p4, T.cl, T.n4, fl4 L, .inl ⟨rfl, _, SqL.of b4⟩, Nat.zero_le _, fun n hn => ?_⟩
    have k5 : Keep [] H4 (upd H4 n (.lst [])) := Keep.new hn
    have a5 : (upd H4 n (.lst [])) n = _ := upd_same
    generalize (upd H4 n (.lst [])) = H5 at k5 a5 ⊢
    have b4' := k5.at b4 nin0
    refine ⟨L.l4, _, _, rfl, rfl, b4', Nat.lt_of_le_of_lt (by rw [List.length_map]; omega : (ns.map V.ref).length ≤ 100000) (by decide), ?_⟩
    have k6 : Keep [L.l4] H5 (upd H5 L.l4 (.lst ((ns.map V.ref) ++ [.ref n]))) := Keep.own in1
    have a6 : (upd H5 L.l4 (.lst ((ns.map V.ref) ++ [.ref n]))) L.l4 = _ := upd_same
    generalize (upd H5 L.l4 (.lst ((ns.map V.ref) ++ [.ref n]))) = H6 at k6 a6 ⊢
    have p6 : H6 p = some (.ins C L.dx (fldsL L)) := k6.at (k5.at p4 nin0) (nin1 (ne_of (k5.at p4 nin0) b4' (fun z => by cases z)))
    have b5 := k6.at (k5.at (k4.at (k3.at (k2.at (k1.at hL.h5 (nin1 n15.symm)) (nin1 n25.symm)) nin0) (nin1 n35.symm)) nin0) (nin1 n45.symm)
    -- None
    refine app_run rfl p6 T.cl T.n5 (fl5 L) b5 (by rw [List.length_map]; omega) (fun Q q => q) ?_
    have k7 : Keep [L.l5] H6 (upd H6 L.l5 (.lst ((es.map fun e => optV e.cause) ++ [.non]))) := Keep.own in1
    have a7 : (upd H6 L.l5 (.lst ((es.map fun e => optV e.cause) ++ [.non]))) L.l5 = _ := upd_same
    generalize (upd H6 L.l5 (.lst ((es.map fun e => optV e.cause) ++ [.non]))) = H7 at k7 a7 ⊢
    have p7 : H7 p = some (.ins C L.dx (fldsL L)) := k7.at p6 (nin1 (ne_of p6 b5 (fun z => by cases z)))
    have b6 := k7.at (k6.at (k5.at (k4.at (k3.at (k2.at (k1.at hL.h6 (nin1 n16.symm)) (nin1 n26.symm)) nin0) (nin1 n36.symm)) nin0) (nin1 n46.symm)) (nin1 n56.symm)
    refine app_run rfl p7 T.cl T.n6 (fl6 L) b6 (by rw [List.length_map]; omega) (fun Q q => q) ?_
    have k8 : Keep [L.l6] H7 (upd H7 L.l6 (.lst ((es.map fun e => optV e.atw) ++ [.non]))) := Keep.own in1
    have a8 : (upd H7 L.l6 (.lst ((es.map fun e => optV e.atw) ++ [.non]))) L.l6 = _ := upd_same
    generalize (upd H7 L.l6 (.lst ((es.map fun e => optV e.atw) ++ [.non]))) = H8 at k8 a8 ⊢
    have p8 : H8 p = some (.ins C L.dx (fldsL L)) := k8.at p7 (nin1 (ne_of p7 b6 (fun z => by cases z)))
    have e1 : H8 L.l1 = _ := k8.at (k7.at (k6.at (k5.at (k4.at (k3.at (k2.at a1 (nin1 n12)) nin0) (nin1 n13)) nin0) (nin1 n14)) (nin1 n15)) (nin1 n16)
    have e2 : H8 L.l2 = _ := k8.at (k7.at (k6.at (k5.at (k4.at (k3.at a2 nin0) (nin1 n23)) nin0) (nin1 n24)) (nin1 n25)) (nin1 n26)
    have e3 : H8 L.l3 = _ := k8.at (k7.at (k6.at (k5.at a4 nin0) (nin1 n34)) (nin1 n35)) (nin1 n36)
    have e4 : H8 L.l4 = _ := k8.at (k7.at a6 (nin1 n45)) (nin1 n46)
    have e5 : H8 L.l5 = _ := k8.at a7 (nin1 n56)
    have sub : ∀ {l : Addr}, l ∈ L.ls → ∀ b, b ∈ [l] → b ∈ L.ls := fun hl b hb => by rw [List.mem_singleton.mp hb]; exact hl
    have s0 : ∀ b, b ∈ ([] : List Addr) → b ∈ L.ls := fun b hb => absurd hb nin0
    have kA2 : Keep L.ls H H2 := (k1.more (sub i1)).trans (k2.more (sub i2))
    have kA4 : Keep L.ls H H4 := (kA2.trans (k3.more s0)).trans (k4.more (sub i3))
    have kA : Keep L.ls H H8 := (((kA4.trans (k5.more s0)).trans (k6.more (sub i4))).trans (k7.more (sub i5))).trans (k8.more (sub i6))
    have isl := hL.isl
    have nu : ∀ l, l ∈ L.ls → u ≠ l := fun l hl z => by
      have q : H2 l ≠ none := by
        rcases (show l = L.l1 ∨ l = L.l2 ∨ l = L.l3 ∨ l = L.l4 ∨ l = L.l5 ∨ l = L.l6 by simpa [LA.ls] using hl) with q | q | q | q | q | q
        · rw [q, k2.at a1 (nin1 n12)]; simp
        · rw [q, a2]; simp
        · rw [q, b3]; simp
        · rw [q, k2.at (k1.at hL.h4 (nin1 n14.symm)) (nin1 n24.symm)]; simp
        · rw [q, k2.at (k1.at hL.h5 (nin1 n15.symm)) (nin1 n25.symm)]; simp
        · rw [q, k2.at (k1.at hL.h6 (nin1 n16.symm)) (nin1 n26.symm)]; simp
      exact q (by rw [← z]; exact hu)
    have nn : ∀ l, l ∈ L.ls → n ≠ l := fun l hl z => by
      have q : H4 l ≠ none := by
        rcases (show l = L.l1 ∨ l = L.l2 ∨ l = L.l3 ∨ l = L.l4 ∨ l = L.l5 ∨ l = L.l6 by simpa [LA.ls] using hl) with q | q | q | q | q | q
        · rw [q, k4.at (k3.at (k2.at a1 (nin1 n12)) nin0) (nin1 n13)]; simp
        · rw [q, k4.at (k3.at a2 nin0) (nin1 n23)]; simp
        · rw [q, a4]; simp
        · rw [q, b4]; simp
        · rw [q, k4.at (k3.at (k2.at (k1.at hL.h5 (nin1 n15.symm)) (nin1 n25.symm)) nin0) (nin1 n35.symm)]; simp
        · rw [q, k4.at (k3.at (k2.at (k1.at hL.h6 (nin1 n16.symm)) (nin1 n26.symm)) nin0) (nin1 n36.symm)]; simp
      exact q (by rw [← z]; exact hn)
    have nl : ∀ l, l ∈ L.ls → u ∉ [l] := fun l hl => nin1 (nu l hl)
    have eu : H8 u = _ := k8.at (k7.at (k6.at (k5.at (k4.at a3 (nl _ i3)) nin0) (nl _ i4)) (nl _ i5)) (nl _ i6)
    have ml : ∀ l, l ∈ L.ls → n ∉ [l] := fun l hl => nin1 (nn l hl)
    have en : H8 n = _ := k8.at (k7.at (k6.at a5 (ml _ i4)) (ml _ i5)) (ml _ i6)
    have nns : n ∉ ns := fun z => by
      obtain ⟨xs, q⟩ := hL.notes.is n z
      have q2 := kA4.at q (fun y => (nn n y) rfl)
      rw [q2] at hn
      cases hn
    refine ⟨_, rfl, p, C, L.dx, _, _, rfl, p8, T.cl, T.n1, fl1 L, L.l1, _, rfl, .inl (SqL.of e1), _, _, rfl, rfl, ?_⟩
    have el : (((es.map fun e => V.str e.kind) ++ [V.str z]).length : Int) - 1 = (es.length : Int) := by
      rw [List.length_append, List.length_map]; show ((es.length + 1 : Nat) : Int) - 1 = _; omega
    show Q (V.int (((((es.map fun e => V.str e.kind) ++ [V.str z]).length : Nat) : Int) - 1)) H8
    rw [el]
    refine kk H8 u n kA ⟨p8, by rw [e1, List.map_append]; rfl, by rw [e2, List.map_append]; rfl, by rw [e3, List.map_append]; rfl, by rw [e4, List.map_append]; rfl, by rw [e5, List.map_append]; rfl, by rw [a8, List.map_append]; rfl, ?_, ?_, ?_⟩ ?_
    · refine MemsAt.snoc (e := ⟨z, t, mem, [], none, none⟩) eu (hL.mems.map fun a xs q => kA.at q fun y => ?_)
      obtain ⟨ys, qy⟩ := isl a y
      rw [q] at qy
      cases qy
    · refine NotesAt.snoc (e := ⟨z, t, mem, [], none, none⟩) en (hL.notes.map fun a ha xs q => kA.at q fun y => ?_)
      exact (List.nodup_append.mp hL.nd).2.2 a y a ha rfl
    · rw [← List.append_assoc]
      refine List.nodup_append.mpr ⟨hL.nd, by simp, fun a ha b hb => ?_⟩
      rw [List.mem_singleton.mp hb]
      intro z
      rw [z] at ha
      rcases List.mem_append.mp ha with q | q
      · exact nn n q rfl
      · exact nns q
    · exact Keep.free kA4 hn (fun y => nn n y rfl)
end
end Fs
/-! A plain fault, a sheaf; a new ledger. -/
namespace Fs
open PySem L2 TL
def spChkM (K : PySem.W.Frag) (C : Addr) : Sp := fun vs H Q _ => ∃ (p m : Addr) (A : LA) (ms ns : List Addr) (es : List Ent) (mem : List Nat), vs = [.ref p, .ref m] ∧ LedAt C H p A ms ns es ∧ SqL K H m (mem.map fun k : Nat => V.int (k : Int)) ∧ mem ≠ [] ∧ (∀ k ∈ mem, k < es.length) ∧ Q .non H
def spPlain (C CK : Addr) : Sp := fun vs H Q _ => ∃ (p : Addr) (A : LA) (ms ns : List Addr) (es : List Ent) (z t : Str) (ps : List (Str × Str)), vs = [.ref p, .str z, .str t] ∧ LedAt C H p A ms ns es ∧ KindsAt CK H A.kd ps ∧ z ∈ sF :: ps.map Prod.fst ∧ ¬ z = sS ∧ es.length < 100000 ∧
  ∀ (H' : Hp) (t' n' : Addr), Keep A.ls H H' → LedAt C H' p A (ms ++ [t']) (ns ++ [n']) (es ++ [⟨z, t, [], [], none, none⟩]) → H n' = none → Q (.int (es.length : Int)) H'
def spSheaf (K : PySem.W.Frag) (C : Addr) : Sp := fun vs H Q _ => ∃ (p m : Addr) (A : LA) (ms ns : List Addr) (es : List Ent) (t : Str) (mem : List Nat), vs = [.ref p, .str t, .ref m] ∧ LedAt C H p A ms ns es ∧ SqL K H m (mem.map fun k : Nat => V.int (k : Int)) ∧ m ∉ A.ls ∧ mem ≠ [] ∧ (∀ k ∈ mem, k < es.length) ∧ es.length < 100000 ∧
  ∀ (H' : Hp) (t' n' : Addr), Keep A.ls H H' → LedAt C H' p A (ms ++ [t']) (ns ++ [n']) (es ++ [⟨sS, t, mem, [], none, none⟩]) → H n' = none → Q (.int (es.length : Int)) H'
def spLInit (C : Addr) : Sp := fun vs H Q _ => ∃ (p kd dx : Addr), vs = [.ref p, .ref kd] ∧ H p = some (.ins C dx []) ∧ ∀ (H' : Hp) (A : LA), A.kd = kd → Keep [p] H H' → LedAt C H' p A [] [] [] → (∀ l ∈ A.ls, H l = none) → Q .non H'
theorem flnoM (A : LA) : (fldsL A).lookup ("_check_members" : Str) = none := rfl
theorem flnoT (A : LA) : (fldsL A).lookup ("_check_text" : Str) = none := rfl
theorem flnoA (A : LA) : (fldsL A).lookup ("_add" : Str) = none := rfl
section
variable {P : Program} {w : World} {K : PySem.W.Frag} {mg : Str → Option Value} {base : Heap} {C fA fCF fCT fCM CK fKI fKK fKN : Addr}
theorem ok_chkM {fd fdF : FuncData} (F : Fun K "_check_members" "Ledger._check_members" sChkM fCM fd) (T : LTxt K mg C fA fCF fCT fCM) (FF : FnOk P w K mg base CX0 2 fCF fdF ["self", "k"] (spChkF C)) (bF : Binds K fdF ["self", "k"] []) : FnOk P w K mg base CX0 3 fCM fd ["self", "members"] (spChkM K C) := by
  refine F.ok scChkM (fun vs H Q E h => ?_) (fun cdv A outer s H vs Q E hr h => ?_)
  · obtain ⟨p, m, L, ms, ns, es, mem, rfl, _⟩ := h
    rfl
  · obtain ⟨p, m, L, ms, ns, es, mem, rfl, hL, hm, hne, hall, kk⟩ := h
    refine ⟨_, pss_cons (ps_if (pt_not (pt_truth (pv 1) (fun _ => rfl))) (pss_one ps_never) pss_nil)
      (pss_one (ps_for PassesOwn.never rfl (pi_list (pv 1)) (pg_name (i := 2) scChkM.nd rfl (Or.inl rfl)) (pss_one (ps_expr (pe_meth (pv 0) T.cl T.mF FF hr bF .nil pass0 (pa_cons (pv 2) pa_nil)))))), ?_⟩
    refine ⟨_, rfl, true, ?_, iteF ?_⟩
    · refine .inl ⟨_, hm, ?_⟩
      cases mem with
      | nil => exact absurd rfl hne
      | cons k r => rfl
    · refine ⟨_, rfl, m, rfl, ⟨_, hm⟩, for_list (K := K) (a := m) (xs := mem.map fun k : Nat => V.int (k : Int)) (fun i σ H' => H' = H ∧ ∃ v2 : Option V, σ = [some (.ref p), some (.ref m), v2]) ⟨rfl, none, rfl⟩ (fun i σ H' _ hh => by rw [hh.1]; exact hm) ?_ ?_⟩
      · rintro i x σ H' hx ⟨rfl, v2, rfl⟩
        obtain ⟨k, hk, rfl⟩ : ∃ k, mem[i]? = some k ∧ x = V.int ((k : Nat) : Int) := by
          rw [List.getElem?_map] at hx
          cases q : mem[i]? with
          | none => rw [q] at hx; cases hx
          | some a => rw [q] at hx; exact ⟨a, rfl, (Option.some.inj hx).symm⟩
        exact ⟨_, rfl, p, L.dx, _, rfl, hL.ins, flno L, _, rfl, p, L, ms, ns, es, k, rfl, hL, hall k (List.mem_of_getElem? hk), rfl, _, rfl⟩
      · rintro σ H' ⟨rfl, v2, rfl⟩
        exact kk
theorem ok_plain {fd fdA fdT fdK : FuncData} {f : Addr} (F : Fun K "plain" "Ledger.plain" sPlain f fd) (T : LTxt K mg C fA fCF fCT fCM) (TK : KTxt K mg CK fKI fKK fKN) (FK : FnOk P w K mg base CX0 2 fKK fdK ["self", "thing"] (spIsKind CK)) (bK : Binds K fdK ["self", "thing"] []) (FT : FnOk P w K mg base CX0 2 fCT fdT ["self", "text"] (spChkT C)) (bT : Binds K fdT ["self", "text"] [])
    (FA : FnOk P w K mg base CX0 1 fA fdA ["self", "kind", "text", "members"] (spAdd K C)) (bA : Binds K fdA ["self", "kind", "text", "members"] []) : FnOk P w K mg base CX0 3 f fd ["self", "kind", "text"] (spPlain C CK) := by
  refine F.ok scPlain (fun vs H Q E h => ?_) (fun cdv A outer s H vs Q E hr h => ?_)
  · obtain ⟨p, L, ms, ns, es, z, t, ps, rfl, _⟩ := h
    rfl
  · obtain ⟨p, L, ms, ns, es, z, t, ps, rfl, hL, hK, hz, hzs, hlen, kk⟩ := h
    have hr1 : Room 1 _ := hr.mono (by decide)
    refine ⟨_, pss_cons (ps_if (PW.pt (pw_or (pt_not (pt_val (pe_meth (pe_fld (pv 0) rfl) TK.cl TK.mK FK hr bK .nil pass0 (pa_cons (pv 1) pa_nil)))) (pw_or1 (pt_cmpR op_eq (pv 1) pe_str (nomark _))))) (pss_one ps_never) pss_nil)
      (pss_cons (ps_expr (pe_meth (pv 0) T.cl T.mT FT hr bT .nil pass0 (pa_cons (pv 2) pa_nil)))
      (pss_one (ps_ret (pe_meth (pv 0) T.cl T.mA FA hr1 bA .nil pass0 (pa_cons (pv 1) (pa_cons (pv 2) (pa_cons (pe_lst pa_nil) pa_nil))))))), ?_⟩
    obtain ⟨dk, dd, g1, g2⟩ := id hK
    have hz3 : z ∈ sF :: sS :: ps.map Prod.fst := by
      rcases List.mem_cons.mp hz with q | q
      · rw [q]; exact List.mem_cons_self
      · exact List.mem_cons_of_mem _ (List.mem_cons_of_mem _ q)
    refine ⟨_, rfl, p, C, L.dx, _, _, rfl, hL.ins, T.cl, T.n0, fl0 L, L.kd, dk, _, rfl, g1, ab_no _ (by decide +kernel), _, rfl, L.kd, z, ps, rfl, hK, _, rfl, ?_⟩
    rw [decide_eq_true hz3]
    refine iteF ⟨_, rfl, rfl, _, rfl, ?_⟩
    rw [decide_eq_false (fun e => hzs (V.str.inj e))]
    refine iteF ⟨_, rfl, p, L.dx, _, rfl, hL.ins, flnoT L, _, rfl, p, t, rfl, ?_⟩
    refine ⟨_, rfl, p, L.dx, _, rfl, hL.ins, flnoA L, _, rfl, _, rfl, Nat.zero_le _, fun l hl => ?_⟩
    have k1 : Keep [] H (upd H l (.lst [])) := Keep.new hl
    have nl : l ∉ L.ls := fun q => by
      obtain ⟨xs, e⟩ := hL.isl l q
      rw [e] at hl
      cases hl
    refine ⟨p, l, L, ms, ns, es, z, t, [], rfl, hL.keep k1 (fun b q => absurd q nin0) (fun b q => absurd q nin0), SqL.of upd_same, nl, hlen, fun H' t' n' k2 hL' hn => kk H' t' n' ((k1.more fun b q => absurd q nin0).trans k2) hL' (Keep.free k1 hn nin0)⟩
theorem ok_sheaf {fd fdA fdT fdM : FuncData} {f : Addr} (F : Fun K "sheaf" "Ledger.sheaf" sSheaf f fd) (T : LTxt K mg C fA fCF fCT fCM) (FT : FnOk P w K mg base CX0 2 fCT fdT ["self", "text"] (spChkT C)) (bT : Binds K fdT ["self", "text"] []) (FM : FnOk P w K mg base CX0 3 fCM fdM ["self", "members"] (spChkM K C)) (bM : Binds K fdM ["self", "members"] [])
    (FA : FnOk P w K mg base CX0 1 fA fdA ["self", "kind", "text", "members"] (spAdd K C)) (bA : Binds K fdA ["self", "kind", "text", "members"] []) : FnOk P w K mg base CX0 4 f fd ["self", "text", "members"] (spSheaf K C) := by
  refine F.ok scSheaf (fun vs H Q E h => ?_) (fun cdv A outer s H vs Q E hr h => ?_)
  · obtain ⟨p, m, L, ms, ns, es, t, mem, rfl, _⟩ := h
    rfl
  · obtain ⟨p, m, L, ms, ns, es, t, mem, rfl, hL, hm, hmn, hne, hall, hlen, kk⟩ := h
    have hr1 : Room 1 _ := hr.mono (by decide)
    have hr2 : Room 2 _ := hr.mono (by decide)
    refine ⟨_, pss_cons (ps_expr (pe_meth (pv 0) T.cl T.mT FT hr2 bT .nil pass0 (pa_cons (pv 1) pa_nil)))
      (pss_cons (ps_expr (pe_meth (pv 0) T.cl T.mM FM hr bM .nil pass0 (pa_cons (pv 2) pa_nil)))
      (pss_one (ps_ret (pe_meth (pv 0) T.cl T.mA FA hr1 bA .nil pass0 (pa_cons pe_str (pa_cons (pv 1) (pa_cons (pv 2) pa_nil))))))), ?_⟩
    refine ⟨_, rfl, p, L.dx, _, rfl, hL.ins, flnoT L, _, rfl, p, t, rfl, ?_⟩
    refine ⟨_, rfl, p, L.dx, _, rfl, hL.ins, flnoM L, _, rfl, p, m, L, ms, ns, es, mem, rfl, hL, hm, hne, hall, ?_⟩
    exact ⟨_, rfl, p, L.dx, _, rfl, hL.ins, flnoA L, _, rfl, _, rfl, p, m, L, ms, ns, es, sS, t, mem, rfl, hL, hm, hmn, hlen, kk⟩
theorem ok_lInit {f : Addr} {fd : FuncData} (F : Fun K "__init__" "Ledger.__init__" sLInit f fd) (T : LTxt K mg C fA fCF fCT fCM) : FnOk P w K mg base CX0 1 f fd ["self", "kinds"] (spLInit C) := by
  refine F.ok scLInit (fun vs H Q E h => ?_) (fun cdv A outer s H vs Q E hr h => ?_)
  · obtain ⟨p, kd, dx, rfl, _⟩ := h
    rfl
  · obtain ⟨p, kd, dx, rfl, hp, kk⟩ := h
    refine ⟨_, pss_cons (ps_fld (pv 0) (pv 1) rfl) (pss_cons (ps_fld (pv 0) (pe_lst pa_nil) rfl) (pss_cons (ps_fld (pv 0) (pe_lst pa_nil) rfl) (pss_cons (ps_fld (pv 0) (pe_lst pa_nil) rfl) (pss_cons (ps_fld (pv 0) (pe_lst pa_nil) rfl) (pss_cons (ps_fld (pv 0) (pe_lst pa_nil) rfl) (pss_one (ps_fld (pv 0) (pe_lst pa_nil) rfl))))))), ?_⟩
    refine ⟨_, rfl, _, rfl, p, C, dx, [], rfl, hp, T.cl, T.n0, by decide, ?_⟩
    have k0 : Keep [p] H (upd H p (.ins C dx [("_kinds", .ref kd)])) := Keep.own in1
    have p0 : (upd H p (.ins C dx [("_kinds", .ref kd)])) p = some (.ins C dx [("_kinds", .ref kd)]) := upd_same
    have eq0 : upd H p (.ins C dx (putF "_kinds" (.ref kd) [])) = upd H p (.ins C dx [("_kinds", .ref kd)]) := rfl
    rw [eq0]
    generalize (upd H p (.ins C dx [("_kinds", .ref kd)])) = G0 at k0 p0 ⊢
    refine ⟨Nat.zero_le _, fun l1 hl1 => ?_⟩
    have np1 : p ≠ l1 := ne_of_none p0 hl1
    refine ⟨_, rfl, p, C, dx, [("_kinds", .ref kd)], rfl, by rw [upd_ne np1]; exact p0, T.cl, T.n1, (by show 1 < 1000; decide), ?_⟩
    have eq1 : upd (upd G0 l1 (.lst [])) p (.ins C dx (putF "_kind_of" (.ref l1) [("_kinds", .ref kd)])) = upd (upd G0 l1 (.lst [])) p (.ins C dx [("_kinds", .ref kd), ("_kind_of", .ref l1)]) := rfl
    rw [eq1]
    have k1 : Keep [p] G0 (upd (upd G0 l1 (.lst [])) p (.ins C dx [("_kinds", .ref kd), ("_kind_of", .ref l1)])) := (Keep.new hl1).ownTo in1
    have p1 : (upd (upd G0 l1 (.lst [])) p (.ins C dx [("_kinds", .ref kd), ("_kind_of", .ref l1)])) p = some (.ins C dx [("_kinds", .ref kd), ("_kind_of", .ref l1)]) := upd_same
    have b1 : (upd (upd G0 l1 (.lst [])) p (.ins C dx [("_kinds", .ref kd), ("_kind_of", .ref l1)])) l1 = some (.lst []) := by rw [upd_ne np1.symm, upd_same]
    generalize (upd (upd G0 l1 (.lst [])) p (.ins C dx [("_kinds", .ref kd), ("_kind_of", .ref l1)])) = G1 at k1 p1 b1 ⊢
    refine ⟨Nat.zero_le _, fun l2 hl2 => ?_⟩
    have np2 : p ≠ l2 := ne_of_none p1 hl2
    refine ⟨_, rfl, p, C, dx, [("_kinds", .ref kd), ("_kind_of", .ref l1)], rfl, by rw [upd_ne np2]; exact p1, T.cl, T.n2, (by show 2 < 1000; decide), ?_⟩
    have eq2 : upd (upd G1 l2 (.lst [])) p (.ins C dx (putF "_text_of" (.ref l2) [("_kinds", .ref kd), ("_kind_of", .ref l1)])) = upd (upd G1 l2 (.lst [])) p (.ins C dx [("_kinds", .ref kd), ("_kind_of", .ref l1), ("_text_of", .ref l2)]) := rfl
    rw [eq2]
    have k2 : Keep [p] G1 (upd (upd G1 l2 (.lst [])) p (.ins C dx [("_kinds", .ref kd), ("_kind_of", .ref l1), ("_text_of", .ref l2)])) := (Keep.new hl2).ownTo in1
    have p2 : (upd (upd G1 l2 (.lst [])) p (.ins C dx [("_kinds", .ref kd), ("_kind_of", .ref l1), ("_text_of", .ref l2)])) p = some (.ins C dx [("_kinds", .ref kd), ("_kind_of", .ref l1), ("_text_of", .ref l2)]) := upd_same
    have b2 : (upd (upd G1 l2 (.lst [])) p (.ins C dx [("_kinds", .ref kd), ("_kind_of", .ref l1), ("_text_of", .ref l2)])) l2 = some (.lst []) := by rw [upd_ne np2.symm, upd_same]
    generalize (upd (upd G1 l2 (.lst [])) p (.ins C dx [("_kinds", .ref kd), ("_kind_of", .ref l1), ("_text_of", .ref l2)])) = G2 at k2 p2 b2 ⊢
    refine ⟨Nat.zero_le _, fun l3 hl3 => ?_⟩
    have np3 : p ≠ l3 := ne_of_none p2 hl3
    refine ⟨_, rfl, p, C, dx, [("_kinds", .ref kd), ("_kind_of", .ref l1), ("_text_of", .ref l2)], rfl, by rw [upd_ne np3]; exact p2, T.cl, T.n3, (by show 3 < 1000; decide), ?_⟩
    have eq3 : upd (upd G2 l3 (.lst [])) p (.ins C dx (putF "_members_of" (.ref l3) [("_kinds", .ref kd), ("_kind_of", .ref l1), ("_text_of", .ref l2)])) = upd (upd G2 l3 (.lst [])) p (.ins C dx [("_kinds", .ref kd), ("_kind_of", .ref l1), ("_text_of", .ref l2), ("_members_of", .ref l3)]) := rfl
    rw [eq3]
    have k3 : Keep [p] G2 (upd (upd G2 l3 (.lst [])) p (.ins C dx [("_kinds", .ref kd), ("_kind_of", .ref l1), ("_text_of", .ref l2), ("_members_of", .ref l3)])) := (Keep.new hl3).ownTo in1
    have p3 : (upd (upd G2 l3 (.lst [])) p (.ins C dx [("_kinds", .ref kd), ("_kind_of", .ref l1), ("_text_of", .ref l2), ("_members_of", .ref l3)])) p = some (.ins C dx [("_kinds", .ref kd), ("_kind_of", .ref l1), ("_text_of", .ref l2), ("_members_of", .ref l3)]) := upd_same
    have b3 : (upd (upd G2 l3 (.lst [])) p (.ins C dx [("_kinds", .ref kd), ("_kind_of", .ref l1), ("_text_of", .ref l2), ("_members_of", .ref l3)])) l3 = some (.lst []) := by rw [upd_ne np3.symm, upd_same]
    generalize (upd (upd G2 l3 (.lst [])) p (.ins C dx [("_kinds", .ref kd), ("_kind_of", .ref l1), ("_text_of", .ref l2), ("_members_of", .ref l3)])) = G3 at k3 p3 b3 ⊢
    refine ⟨Nat.zero_le _, fun l4 hl4 => ?_⟩
    have np4 : p ≠ l4 := ne_of_none p3 hl4
    refine ⟨_, rfl, p, C, dx, [("_kinds", .ref kd), ("_kind_of", .ref l1), ("_text_of", .ref l2), ("_members_of", .ref l3)], rfl, by rw [upd_ne np4]; exact p3, T.cl, T.n4, (by show 4 < 1000; decide), ?_⟩
    have eq4 : upd (upd G3 l4 (.lst [])) p (.ins C dx (putF "_notes_of" (.ref l4) [("_kinds", .ref kd), ("_kind_of", .ref l1), ("_text_of", .ref l2), ("_members_of", .ref l3)])) = upd (upd G3 l4 (.lst [])) p (.ins C dx [("_kinds", .ref kd), ("_kind_of", .ref l1), ("_text_of", .ref l2), ("_members_of", .ref l3), ("_notes_of", .ref l4)]) := rfl
    rw [eq4]
    have k4 : Keep [p] G3 (upd (upd G3 l4 (.lst [])) p (.ins C dx [("_kinds", .ref kd), ("_kind_of", .ref l1), ("_text_of", .ref l2), ("_members_of", .ref l3), ("_notes_of", .ref l4)])) := (Keep.new hl4).ownTo in1
    have p4 : (upd (upd G3 l4 (.lst [])) p (.ins C dx [("_kinds", .ref kd), ("_kind_of", .ref l1), ("_text_of", .ref l2), ("_members_of", .ref l3), ("_notes_of", .ref l4)])) p = some (.ins C dx [("_kinds", .ref kd), ("_kind_of", .ref l1), ("_text_of", .ref l2), ("_members_of", .ref l3), ("_notes_of", .ref l4)]) := upd_same
    have b4 : (upd (upd G3 l4 (.lst [])) p (.ins C dx [("_kinds", .ref kd), ("_kind_of", .ref l1), ("_text_of", .ref l2), ("_members_of", .ref l3), ("_notes_of", .ref l4)])) l4 = some (.lst []) := by rw [upd_ne np4.symm, upd_same]
    generalize (upd (upd G3 l4 (.lst [])) p (.ins C dx [("_kinds", .ref kd), ("_kind_of", .ref l1), ("_text_of", .ref l2), ("_members_of", .ref l3), ("_notes_of", .ref l4)])) = G4 at k4 p4 b4 ⊢
    refine ⟨Nat.zero_le _, fun l5 hl5 => ?_⟩
    have np5 : p ≠ l5 := ne_of_none p4 hl5
    refine ⟨_, rfl, p, C, dx, [("_kinds", .ref kd), ("_kind_of", .ref l1), ("_text_of", .ref l2), ("_members_of", .ref l3), ("_notes_of", .ref l4)], rfl, by rw [upd_ne np5]; exact p4, T.cl, T.n5, (by show 5 < 1000; decide), ?_⟩
    have eq5 : upd (upd G4 l5 (.lst [])) p (.ins C dx (putF "_cause_of" (.ref l5) [("_kinds", .ref kd), ("_kind_of", .ref l1), ("_text_of", .ref l2), ("_members_of", .ref l3), ("_notes_of", .ref l4)])) = upd (upd G4 l5 (.lst [])) p (.ins C dx [("_kinds", .ref kd), ("_kind_of", .ref l1), ("_text_of", .ref l2), ("_members_of", .ref l3), ("_notes_of", .ref l4), ("_cause_of", .ref l5)]) := rfl
    rw [eq5]
    have k5 : Keep [p] G4 (upd (upd G4 l5 (.lst [])) p (.ins C dx [("_kinds", .ref kd), ("_kind_of", .ref l1), ("_text_of", .ref l2), ("_members_of", .ref l3), ("_notes_of", .ref l4), ("_cause_of", .ref l5)])) := (Keep.new hl5).ownTo in1
    have p5 : (upd (upd G4 l5 (.lst [])) p (.ins C dx [("_kinds", .ref kd), ("_kind_of", .ref l1), ("_text_of", .ref l2), ("_members_of", .ref l3), ("_notes_of", .ref l4), ("_cause_of", .ref l5)])) p = some (.ins C dx [("_kinds", .ref kd), ("_kind_of", .ref l1), ("_text_of", .ref l2), ("_members_of", .ref l3), ("_notes_of", .ref l4), ("_cause_of", .ref l5)]) := upd_same
    have b5 : (upd (upd G4 l5 (.lst [])) p (.ins C dx [("_kinds", .ref kd), ("_kind_of", .ref l1), ("_text_of", .ref l2), ("_members_of", .ref l3), ("_notes_of", .ref l4), ("_cause_of", .ref l5)])) l5 = some (.lst []) := by rw [upd_ne np5.symm, upd_same]
    generalize (upd (upd G4 l5 (.lst [])) p (.ins C dx [("_kinds", .ref kd), ("_kind_of", .ref l1), ("_text_of", .ref l2), ("_members_of", .ref l3), ("_notes_of", .ref l4), ("_cause_of", .ref l5)])) = G5 at k5 p5 b5 ⊢
    refine ⟨Nat.zero_le _, fun l6 hl6 => ?_⟩
    have np6 : p ≠ l6 := ne_of_none p5 hl6
    refine ⟨_, rfl, p, C, dx, [("_kinds", .ref kd), ("_kind_of", .ref l1), ("_text_of", .ref l2), ("_members_of", .ref l3), ("_notes_of", .ref l4), ("_cause_of", .ref l5)], rfl, by rw [upd_ne np6]; exact p5, T.cl, T.n6, (by show 6 < 1000; decide), ?_⟩
    have eq6 : upd (upd G5 l6 (.lst [])) p (.ins C dx (putF "_at_work_of" (.ref l6) [("_kinds", .ref kd), ("_kind_of", .ref l1), ("_text_of", .ref l2), ("_members_of", .ref l3), ("_notes_of", .ref l4), ("_cause_of", .ref l5)])) = upd (upd G5 l6 (.lst [])) p (.ins C dx [("_kinds", .ref kd), ("_kind_of", .ref l1), ("_text_of", .ref l2), ("_members_of", .ref l3), ("_notes_of", .ref l4), ("_cause_of", .ref l5), ("_at_work_of", .ref l6)]) := rfl
    rw [eq6]
    have k6 : Keep [p] G5 (upd (upd G5 l6 (.lst [])) p (.ins C dx [("_kinds", .ref kd), ("_kind_of", .ref l1), ("_text_of", .ref l2), ("_members_of", .ref l3), ("_notes_of", .ref l4), ("_cause_of", .ref l5), ("_at_work_of", .ref l6)])) := (Keep.new hl6).ownTo in1
    have p6 : (upd (upd G5 l6 (.lst [])) p (.ins C dx [("_kinds", .ref kd), ("_kind_of", .ref l1), ("_text_of", .ref l2), ("_members_of", .ref l3), ("_notes_of", .ref l4), ("_cause_of", .ref l5), ("_at_work_of", .ref l6)])) p = some (.ins C dx [("_kinds", .ref kd), ("_kind_of", .ref l1), ("_text_of", .ref l2), ("_members_of", .ref l3), ("_notes_of", .ref l4), ("_cause_of", .ref l5), ("_at_work_of", .ref l6)]) := upd_same
    have b6 : (upd (upd G5 l6 (.lst [])) p (.ins C dx [("_kinds", .ref kd), ("_kind_of", .ref l1), ("_text_of", .ref l2), ("_members_of", .ref l3), ("_notes_of", .ref l4), ("_cause_of", .ref l5), ("_at_work_of", .ref l6)])) l6 = some (.lst []) := by rw [upd_ne np6.symm, upd_same]
    generalize (upd (upd G5 l6 (.lst [])) p (.ins C dx [("_kinds", .ref kd), ("_kind_of", .ref l1), ("_text_of", .ref l2), ("_members_of", .ref l3), ("_notes_of", .ref l4), ("_cause_of", .ref l5), ("_at_work_of", .ref l6)])) = G6 at k6 p6 b6 ⊢
    have c1 : G6 l1 = some (.lst []) := k6.at (k5.at (k4.at (k3.at (k2.at (b1) (nin1 np1.symm)) (nin1 np1.symm)) (nin1 np1.symm)) (nin1 np1.symm)) (nin1 np1.symm)
    have c2 : G6 l2 = some (.lst []) := k6.at (k5.at (k4.at (k3.at (b2) (nin1 np2.symm)) (nin1 np2.symm)) (nin1 np2.symm)) (nin1 np2.symm)
    have c3 : G6 l3 = some (.lst []) := k6.at (k5.at (k4.at (b3) (nin1 np3.symm)) (nin1 np3.symm)) (nin1 np3.symm)
    have c4 : G6 l4 = some (.lst []) := k6.at (k5.at (b4) (nin1 np4.symm)) (nin1 np4.symm)
    have c5 : G6 l5 = some (.lst []) := k6.at (b5) (nin1 np5.symm)
    have c6 : G6 l6 = some (.lst []) := b6
    have n12 : l1 ≠ l2 := ne_of_none (b1) hl2
    have n13 : l1 ≠ l3 := ne_of_none (k2.at (b1) (nin1 np1.symm)) hl3
    have n14 : l1 ≠ l4 := ne_of_none (k3.at (k2.at (b1) (nin1 np1.symm)) (nin1 np1.symm)) hl4
    have n15 : l1 ≠ l5 := ne_of_none (k4.at (k3.at (k2.at (b1) (nin1 np1.symm)) (nin1 np1.symm)) (nin1 np1.symm)) hl5
    have n16 : l1 ≠ l6 := ne_of_none (k5.at (k4.at (k3.at (k2.at (b1) (nin1 np1.symm)) (nin1 np1.symm)) (nin1 np1.symm)) (nin1 np1.symm)) hl6
    have n23 : l2 ≠ l3 := ne_of_none (b2) hl3
    have n24 : l2 ≠ l4 := ne_of_none (k3.at (b2) (nin1 np2.symm)) hl4
    have n25 : l2 ≠ l5 := ne_of_none (k4.at (k3.at (b2) (nin1 np2.symm)) (nin1 np2.symm)) hl5
    have n26 : l2 ≠ l6 := ne_of_none (k5.at (k4.at (k3.at (b2) (nin1 np2.symm)) (nin1 np2.symm)) (nin1 np2.symm)) hl6
    have n34 : l3 ≠ l4 := ne_of_none (b3) hl4
    have n35 : l3 ≠ l5 := ne_of_none (k4.at (b3) (nin1 np3.symm)) hl5
    have n36 : l3 ≠ l6 := ne_of_none (k5.at (k4.at (b3) (nin1 np3.symm)) (nin1 np3.symm)) hl6
    have n45 : l4 ≠ l5 := ne_of_none (b4) hl5
    have n46 : l4 ≠ l6 := ne_of_none (k5.at (b4) (nin1 np4.symm)) hl6
    have n56 : l5 ≠ l6 := ne_of_none (b5) hl6
    have f1 : H l1 = none := Keep.free (k0) hl1 (nin1 np1.symm)
    have f2 : H l2 = none := Keep.free ((k0).trans k1) hl2 (nin1 np2.symm)
    have f3 : H l3 = none := Keep.free (((k0).trans k1).trans k2) hl3 (nin1 np3.symm)
    have f4 : H l4 = none := Keep.free ((((k0).trans k1).trans k2).trans k3) hl4 (nin1 np4.symm)
    have f5 : H l5 = none := Keep.free (((((k0).trans k1).trans k2).trans k3).trans k4) hl5 (nin1 np5.symm)
    have f6 : H l6 = none := Keep.free ((((((k0).trans k1).trans k2).trans k3).trans k4).trans k5) hl6 (nin1 np6.symm)
    refine kk G6 ⟨dx, kd, l1, l2, l3, l4, l5, l6⟩ rfl (((((((k0).trans k1).trans k2).trans k3).trans k4).trans k5).trans k6) ⟨p6, c1, c2, c3, c4, c5, c6, True.intro, True.intro, ?_⟩ ?_
    · simp [LA.ls, n12, n13, n14, n15, n16, n23, n24, n25, n26, n34, n35, n36, n45, n46, n56]
    · intro l hl
      rcases (show l = l1 ∨ l = l2 ∨ l = l3 ∨ l = l4 ∨ l = l5 ∨ l = l6 by simpa [LA.ls] using hl) with q | q | q | q | q | q <;> rw [q] <;> assumption
end
end Fs
/-! All that a ledger tells. -/
namespace Fs
open PySem L2 TL
abbrev memV (l : List Nat) : List V := l.map fun k : Nat => V.int (k : Int)
/-- a row of what is told of a fault; none of its lists is one of these -/
def RowAt (bad : List Addr) (H : Hp) (r : Addr) (e : Ent) : Prop := ∃ m n : Addr, r ∉ bad ∧ m ∉ bad ∧ n ∉ bad ∧ H r = some (.lst [.str e.kind, .str e.text, .ref m, .ref n, optV e.cause, optV e.atw]) ∧ H m = some (.lst (memV e.mem)) ∧ H n = some (.lst (e.notes.map V.str))
def RowsAt (bad : List Addr) (H : Hp) : List Addr → List Ent → Prop
  | [], [] => True
  | a :: as, e :: es => RowAt bad H a e ∧ RowsAt bad H as es
  | _, _ => False
theorem RowAt.imp {bad bad' : List Addr} {H H' : Hp} {r : Addr} {e : Ent} (h : RowAt bad H r e) (k : Keep bad H H') (hb : ∀ a, a ∉ bad → (∃ o, H a = some o) → a ∉ bad') : RowAt bad' H' r e := by
  obtain ⟨m, n, h1, h2, h3, h4, h5, h6⟩ := h
  exact ⟨m, n, hb r h1 ⟨_, h4⟩, hb m h2 ⟨_, h5⟩, hb n h3 ⟨_, h6⟩, k.at h4 h1, k.at h5 h2, k.at h6 h3⟩
theorem RowsAt.imp {bad bad' : List Addr} {H H' : Hp} (k : Keep bad H H') (hb : ∀ a, a ∉ bad → (∃ o, H a = some o) → a ∉ bad') : ∀ {as : List Addr} {es : List Ent}, RowsAt bad H as es → RowsAt bad' H' as es
  | [], [], _ => True.intro
  | _ :: as, _ :: es, h => ⟨h.1.imp k hb, RowsAt.imp k hb h.2⟩
  | [], _ :: _, h => h.elim
  | _ :: _, [], h => h.elim
theorem RowsAt.keep {bad : List Addr} {H H' : Hp} (k : Keep bad H H') {as : List Addr} {es : List Ent} (h : RowsAt bad H as es) : RowsAt bad H' as es := h.imp k fun _ n _ => n
theorem RowsAt.less {bad bad' : List Addr} {H : Hp} (hb : ∀ a, a ∈ bad' → a ∈ bad) {as : List Addr} {es : List Ent} (h : RowsAt bad H as es) : RowsAt bad' H as es := h.imp (Keep.refl _ _) fun a n _ q => n (hb a q)
/-- what isn't tracked may be told bad, too -/
theorem RowsAt.more {bad : List Addr} {H : Hp} {p : Addr} (hp : H p = none) {as : List Addr} {es : List Ent} (h : RowsAt bad H as es) : RowsAt (p :: bad) H as es := h.imp (Keep.refl _ _) fun a n hx q => by
  rcases List.mem_cons.mp q with q | q
  · obtain ⟨o, e⟩ := hx
    rw [q, hp] at e
    cases e
  · exact n q
theorem RowsAt.len {bad : List Addr} {H : Hp} : ∀ {as : List Addr} {es : List Ent}, RowsAt bad H as es → as.length = es.length
  | [], [], _ => rfl
  | _ :: as, _ :: es, h => by rw [List.length_cons, List.length_cons, RowsAt.len h.2]
  | [], _ :: _, h => h.elim
  | _ :: _, [], h => h.elim
theorem RowsAt.snoc {bad : List Addr} {H : Hp} {b : Addr} {e : Ent} (hb : RowAt bad H b e) : ∀ {as : List Addr} {es : List Ent}, RowsAt bad H as es → RowsAt bad H (as ++ [b]) (es ++ [e])
  | [], [], _ => ⟨hb, True.intro⟩
  | _ :: as, _ :: es, h => ⟨h.1, RowsAt.snoc hb h.2⟩
  | [], _ :: _, h => h.elim
  | _ :: _, [], h => h.elim
/-- a list of such rows -/
def ToldAt (bad : List Addr) (H : Hp) (F : Addr) (es : List Ent) : Prop := ∃ rs : List Addr, H F = some (.lst (rs.map V.ref)) ∧ RowsAt bad H rs es
def optD : Option Nat → PyData
  | none => .none
  | some k => .int (k : Int)
def entD (e : Ent) : PyData := .list [.str e.kind, .str e.text, .list (e.mem.map fun k : Nat => PyData.int (k : Int)), .list (e.notes.map PyData.str), optD e.cause, optD e.atw]
theorem dp_ints {K : PySem.W.Frag} {H : Hp} : ∀ l : List Nat, DpAll K H (memV l) (l.map fun k : Nat => PyData.int (k : Int))
  | [] => .nil
  | k :: r => .cons (.int _) (dp_ints r)
theorem dp_strs {K : PySem.W.Frag} {H : Hp} : ∀ l : List Str, DpAll K H (l.map V.str) (l.map PyData.str)
  | [] => .nil
  | k :: r => .cons (.str _) (dp_strs r)
theorem dp_opt {K : PySem.W.Frag} {H : Hp} : ∀ o : Option Nat, Dp K H (optV o) (optD o)
  | none => .non
  | some k => .int _
theorem RowAt.dp {K : PySem.W.Frag} {bad : List Addr} {H : Hp} {r : Addr} {e : Ent} (h : RowAt bad H r e) : Dp K H (.ref r) (entD e) := by
  obtain ⟨m, n, h1, h2, h3, h4, h5, h6⟩ := h
  exact .lst (SqL.of h4) (.cons (.str _) (.cons (.str _) (.cons (.lst (SqL.of h5) (dp_ints _)) (.cons (.lst (SqL.of h6) (dp_strs _)) (.cons (dp_opt _) (.cons (dp_opt _) .nil))))))
theorem RowsAt.dp {K : PySem.W.Frag} {bad : List Addr} {H : Hp} : ∀ {as : List Addr} {es : List Ent}, RowsAt bad H as es → DpAll K H (as.map V.ref) (es.map entD)
  | [], [], _ => .nil
  | _ :: as, _ :: es, h => .cons h.1.dp (RowsAt.dp h.2)
  | [], _ :: _, h => h.elim
  | _ :: _, [], h => h.elim
theorem ToldAt.dp {K : PySem.W.Frag} {bad : List Addr} {H : Hp} {F : Addr} {es : List Ent} (h : ToldAt bad H F es) : Dp K H (.ref F) (.list (es.map entD)) := by
  obtain ⟨rs, e, r⟩ := h
  exact .lst (SqL.of e) r.dp
structure GTxt (K : PySem.W.Frag) (C f1 f2 f3 f4 f5 f6 f7 : Addr) : Prop where
  many : Meth K C "many" f1
  kind : Meth K C "kind" f2
  text : Meth K C "text" f3
  members : Meth K C "members" f4
  notes : Meth K C "notes" f5
  cause : Meth K C "cause" f6
  atw : Meth K C "at_work" f7
theorem flg1 (A : LA) : (fldsL A).lookup ("many" : Str) = none := rfl
theorem flg2 (A : LA) : (fldsL A).lookup ("kind" : Str) = none := rfl
theorem flg3 (A : LA) : (fldsL A).lookup ("text" : Str) = none := rfl
theorem flg4 (A : LA) : (fldsL A).lookup ("members" : Str) = none := rfl
theorem flg5 (A : LA) : (fldsL A).lookup ("notes" : Str) = none := rfl
theorem flg6 (A : LA) : (fldsL A).lookup ("cause" : Str) = none := rfl
theorem flg7 (A : LA) : (fldsL A).lookup ("at_work" : Str) = none := rfl
end Fs
/-! What a fault that comes wants. -/
namespace Fs
open PySem L2 TL
def intsD (l : List Nat) : PyData := .list (l.map fun k : Nat => PyData.int (k : Int))
theorem ints_lay : ∀ l : List Nat, PyData.canLayAll0 (l.map fun k : Nat => PyData.int (k : Int)) = true
  | [] => by simp [PyData.canLayAll0]
  | k :: r => by rw [List.map_cons]; simp [PyData.canLayAll0, PyData.canLay0, ints_lay r]
theorem ints_deep : ∀ l : List Nat, PyData.depthAll (l.map fun k : Nat => PyData.int (k : Int)) ≤ 1
  | [] => by simp [PyData.depthAll]
  | k :: r => by
    have := ints_deep r
    rw [List.map_cons]
    simp [PyData.depthAll, PyData.depth]
    omega
theorem ints_shaped (l : List Nat) : SeqAt.shaped (intsD l) = true := by
  have h := ints_deep l
  have h1 : (intsD l).canLay0 = true := by
    unfold intsD
    simp only [PyData.canLay0]
    exact ints_lay l
  have h2 : (intsD l).depth ≤ 64 := by
    unfold intsD
    simp only [PyData.depth]
    omega
  unfold SeqAt.shaped
  rw [h1, decide_eq_true h2]
  rfl
theorem ints_nil (l : List Nat) : PyData.eqv (intsD l) (intsD []) = l.isEmpty := by
  cases l <;> simp [intsD, PyData.eqv, PyData.eqvAll]
theorem ints_refl (l : List Nat) : PyData.eqv (intsD l) (intsD l) = true := by
  unfold intsD
  simp only [PyData.eqv]
  induction l with
  | nil => simp [PyData.eqvAll]
  | cons k r ih => rw [List.map_cons]; simp [PyData.eqvAll, PyData.eqv, ih]
theorem dp_intsD {K : PySem.W.Frag} {H : Hp} {a : Addr} {l : List Nat} (h : H a = some (.lst (memV l))) : Dp K H (.ref a) (intsD l) := .lst (SqL.of h) (dp_ints l)
/-- tuples of two whole numbers -/
def TwoAt (H : Hp) : List Addr → Prop
  | [] => True
  | t :: r => (∃ a b : Int, H t = some (.tup [.int a, .int b])) ∧ TwoAt H r
theorem TwoAt.map {H H' : Hp} (k : ∀ a xs, H a = some (.tup xs) → H' a = some (.tup xs)) : ∀ {ts : List Addr}, TwoAt H ts → TwoAt H' ts
  | [], _ => True.intro
  | _ :: r, ⟨⟨a, b, e⟩, h⟩ => ⟨⟨a, b, k _ _ e⟩, TwoAt.map k h⟩
theorem TwoAt.at {H : Hp} : ∀ {ts : List Addr} {i : Nat} {t : Addr}, TwoAt H ts → ts[i]? = some t → ∃ a b : Int, H t = some (.tup [.int a, .int b])
  | [], _, _, _, e => by simp at e
  | s :: r, 0, t, h, e => by
    have e' : s = t := by simpa using e
    subst e'
    exact h.1
  | s :: r, i + 1, t, h, e => TwoAt.at (i := i) h.2 (by simpa using e)
theorem TwoAt.snoc {H : Hp} {t : Addr} (ht : ∃ a b : Int, H t = some (.tup [.int a, .int b])) : ∀ {ts : List Addr}, TwoAt H ts → TwoAt H (ts ++ [t])
  | [], _ => ⟨ht, True.intro⟩
  | _ :: r, h => ⟨h.1, TwoAt.snoc ht h.2⟩
/-- [e for j in members]: whole numbers, nothing changed -/
theorem ints_run {K : PySem.W.Frag} {M D : Addr} {mem : List Nat} {i : Nat} {σ : L2.St} {H1 : Hp} {Qd : Hp → Prop} {te : TE} (hM : H1 M = some (.lst (memV mem))) (hD : H1 D = none) (hlen : mem.length ≤ 1000)
    (hw : ∀ v, wipe ((wipe σ [i]).set i (some v)) [i] = wipe σ [i])
    (hte : ∀ k ∈ mem, ∀ (H : Hp), Keep [] H1 H → ∀ Q : VK, (∀ v : Int, Q (.int v) H) → te ((wipe σ [i]).set i (some (.int ((k : Nat) : Int)))) H Q)
    (hq : ∀ (H : Hp) (ns : List Int), ns.length = mem.length → H D = some (.lst (ns.map V.int)) → Keep [] H1 H → Qd H) :
    ∃ W : Nat → Nat → Hp → Prop, (∃ m, W 0 m (upd H1 D (.lst []))) ∧ ∀ k m H, W k m H →
      ((Itl K M).stop k H ∧ Qd H) ∨ ((Itl K M).go k H ∧ ∃ Nx : Hp → Prop, (∀ H', Nx H' → ∃ m', m' < m ∧ W (k + 1) m' H') ∧ ∀ x H', (Itl K M).yld k H x H' → gName i x (wipe σ [i]) H' fun σ2 H2 => wipe σ2 [i] = wipe σ [i] ∧ tYes σ2 H2 fun b H3 =>
        if b = true then te σ2 H3 fun y H4 => ∃ acc, H4 D = some (.lst acc) ∧ acc.length < sizeLine ∧ Nx (upd H4 D (.lst (acc ++ [y]))) else Nx H3) := by
  refine lc_list (K := K) (a := M) (xs := memV mem) (fun k H => ∃ ns : List Int, ns.length = k ∧ H D = some (.lst (ns.map V.int)) ∧ Keep [] H1 H) ⟨[], rfl, upd_same, Keep.new hD⟩ (fun k H _ ⟨_, _, _, kH⟩ => SqL.of (kH.at hM nin0)) (fun k x H hx hI => ?_) (fun H hI => ?_)
  · obtain ⟨ns, hl, eD, kH⟩ := hI
    obtain ⟨a, ha, rfl⟩ : ∃ a, mem[k]? = some a ∧ x = V.int ((a : Nat) : Int) := by
      rw [List.getElem?_map] at hx
      cases q : mem[k]? with
      | none => rw [q] at hx; cases hx
      | some a => rw [q] at hx; exact ⟨a, rfl, (Option.some.inj hx).symm⟩
    have hk := (List.getElem?_eq_some_iff.mp ha).1
    refine ⟨hw _, tyes (hte a (List.mem_of_getElem? ha) H kH _ fun v => ?_)⟩
    refine ⟨_, eD, ?_, ns ++ [v], by rw [List.length_append, hl]; rfl, by rw [upd_same, List.map_append]; rfl, fun b o hb ho => ?_⟩
    · rw [List.length_map, hl]
      exact Nat.lt_of_le_of_lt (by omega : k ≤ 1000) (by decide)
    · rw [upd_ne (ne_of_none ho hD)]
      exact kH b o hb ho
  · obtain ⟨ns, hl, eD, kH⟩ := hI
    exact hq H ns (by rw [hl, List.length_map]) eD kH
/-- where the law stands: the ledger at q, the entries at E, their sizes at S, the pairs at l -/
structure StAt (C CK : Addr) (H : Hp) (q E S l : Addr) (A : LA) (ps : List (Str × Str)) (es : List Ent) (ms ns rs ts : List Addr) : Prop where
  led : LedAt C H q A ms ns es
  kin : KindsAt CK H A.kd ps
  prs : PairsAt H l ps
  wf : Wf ps
  few : ps.length ≤ 8
  ent : H E = some (.lst (rs.map V.ref))
  rows : RowsAt (E :: S :: A.ls) H rs es
  siz : H S = some (.lst (ts.map V.ref))
  two : TwoAt H ts
  tl : ts.length = es.length
  nES : E ≠ S
  nE : E ∉ A.ls ++ ns
  nS : S ∉ A.ls ++ ns
  lE : l ≠ E
  lS : l ≠ S
  lA : l ∉ A.ls
/-- a fault as the law makes it -/
def Small (n : Nat) (e : Ent) : Prop := e.kind.cps.toList.length ≤ 8 ∧ (∀ c ∈ e.kind.cps.toList, c < 128) ∧ IsTx e.text ∧ e.mem.length ≤ 6 ∧ (∀ k ∈ e.mem, k < n) ∧ e.notes = [] ∧ e.cause = none ∧ e.atw = none
theorem log_small {n : Nat} (h : n ≤ 1000) : ((n : Int)).natAbs.log2 < 1920 := by
  rw [Int.natAbs_natCast]
  exact Nat.lt_of_le_of_lt (Nat.log2_le_self n) (by omega)
end Fs
/-! What is shown of all that a ledger tells. -/
namespace Fs
open PySem PyProof.Rows L2 TL
/-- repr(x), x a list or tuple of data at any depth: where nothing else is being shown -/
theorem call_reprD {X : Cx} (hg : X.A.guards = some []) (hu : X.A.units + 64 < cLine) : CallR X (.builtin "repr") (fun xs H Q => ∃ (a : Addr) (d : PyData), xs = [.ref a] ∧ Dp X.K H (.ref a) d ∧ d.showable = true ∧ d.hasDict = false ∧ d.depth ≤ 60 ∧ d.shown.length ≤ sizeLine ∧ Q (.str d.shown) H) := by
  intro pins s σ H xs us Q I r h
  obtain ⟨a, d, rfl, hd, h1, h2, h3, h4, q⟩ := h
  obtain ⟨u, rfl, ru⟩ := vals1 r
  have eu : u = Value.ref a := ru
  subst eu
  obtain ⟨as, rd⟩ := Dp.reads I d _ _ hd rfl
  exact repr_of_reads' rd h1 (PyData.noDict_hsm h2) hg (by omega) (fun _ _ e => e) (fun h' u tk hk => ⟨.str _, H, I.kept hk, ⟨_, rfl⟩, q⟩) h4
theorem textFrom_le : ∀ (ts : List Str) (k : Nat) (acc : Str), (textFrom k acc ts).length ≤ acc.length + piled ts
  | [], k, acc => Nat.le_add_right _ _
  | t :: r, k, acc => by
    have ih := textFrom_le r (k + 1) (acc ++ (if k > 0 then ", " else "" : String) ++ t)
    have e : (acc ++ (if k > 0 then ", " else "" : String) ++ t).length ≤ acc.length + 2 + t.length := by
      rw [strLen_append, strLen_append]
      have e1 : (((if k > 0 then ", " else "" : String) : Str)).length ≤ 2 := by split <;> decide +kernel
      omega
    rw [piled_cons]
    show (textFrom (k + 1) (acc ++ (if k > 0 then ", " else "" : String) ++ t) r).length ≤ _
    omega
theorem listText_le (ts : List Str) : (listText ts).length ≤ piled ts + 2 := by
  have e1 : (("[" : String) : Str).length = 1 := by decide +kernel
  have e2 : (("]" : String) : Str).length = 1 := by decide +kernel
  have h := textFrom_le ts 0 "["
  unfold listText
  rw [strLen_append, e2]
  omega
theorem piled_le {ts : List Str} {n : Nat} : (∀ t ∈ ts, t.length ≤ n) → piled ts ≤ ts.length * (n + 2) := by
  induction ts with
  | nil => intro _; exact Nat.zero_le _
  | cons t r ih =>
    intro h
    have h1 := h t List.mem_cons_self
    have h2 := ih fun u hu => h u (List.mem_cons_of_mem _ hu)
    rw [piled_cons, List.length_cons, Nat.succ_mul]
    omega
theorem shownAll_map {α : Type} (f : α → PyData) : ∀ l : List α, PyData.shownAll (l.map f) = l.map fun x => (f x).shown
  | [] => by simp only [List.map_nil, PyData.shownAll]
  | x :: r => by simp only [List.map_cons, PyData.shownAll, shownAll_map f r]
theorem int_short {k : Nat} (h : k < 10000) : (PyData.int (k : Int)).shown.length ≤ 4 := by
  simp only [PyData.shown]
  exact toString_length_le (Int.natCast_nonneg k) (by decide) (by omega)
theorem log_small4 {n : Nat} (h : n ≤ 10000) : ((n : Int)).natAbs.log2 < 1920 := by
  rw [Int.natAbs_natCast]
  by_cases z : n = 0
  · rw [z]; decide
  · exact Nat.lt_of_lt_of_le ((Nat.log2_lt z).mpr (show n < 2 ^ 14 by omega)) (by decide)
theorem str_short {z : Str} {n : Nat} (h : z.cps.toList.length ≤ n) (hc : ∀ c ∈ z.cps.toList, c < 128) : (PyData.str z).shown.length ≤ 10 * n + 2 := by
  have h1 := StrLaws.reprText_len z fun c hc' => Nat.lt_of_lt_of_le (hc c hc') (by decide)
  have e : z.length = z.cps.toList.length := by simp [Str.length]
  simp only [PyData.shown]
  omega
theorem ints_shown {l : List Nat} (h6 : l.length ≤ 101) (h : ∀ k ∈ l, k < 10000) : (intsD l).shown.length ≤ 608 := by
  unfold intsD
  simp only [PyData.shown]
  have h1 := listText_le (PyData.shownAll (l.map fun k : Nat => PyData.int (k : Int)))
  rw [shownAll_map] at h1 ⊢
  have h2 := piled_le (ts := l.map fun k : Nat => (PyData.int (k : Int)).shown) (n := 4) fun t ht => by
    obtain ⟨k, hk, e⟩ := List.mem_map.mp ht
    rw [← e]
    exact int_short (h k hk)
  rw [List.length_map] at h2
  have h3 : l.length * (4 + 2) ≤ 101 * 6 := Nat.mul_le_mul_right 6 h6
  omega
/-- a fault as the law has it -/
def Sm (n : Nat) (e : Ent) : Prop := e.kind.cps.toList.length ≤ 8 ∧ (∀ c ∈ e.kind.cps.toList, c < 128) ∧ IsTx e.text ∧ e.mem.length ≤ 101 ∧ (∀ k ∈ e.mem, k < n) ∧ (e.notes.length ≤ 30 ∧ ∀ z ∈ e.notes, IsTx z) ∧ (∀ y, e.cause = some y → y < n) ∧ (∀ y, e.atw = some y → y < n)
theorem strs_shown {l : List Str} (h : l.length ≤ 30) (hz : ∀ z ∈ l, IsTx z) : (PyData.list (l.map PyData.str)).shown.length ≤ 13000 := by
  simp only [PyData.shown]
  have h1 := listText_le (PyData.shownAll (l.map PyData.str))
  rw [shownAll_map] at h1 ⊢
  have h2 := piled_le (ts := l.map fun z => (PyData.str z).shown) (n := 402) fun t ht => by
    obtain ⟨z, hz', e⟩ := List.mem_map.mp ht
    rw [← e]
    exact str_short (n := 40) (hz z hz').1 fun c hc => ((hz z hz').2 c hc).1
  rw [List.length_map] at h2
  have h3 : l.length * (402 + 2) ≤ 30 * 404 := Nat.mul_le_mul_right 404 h
  omega
theorem strs_ok (l : List Str) : PyData.showableAll (l.map PyData.str) = true ∧ PyData.hasDictAll (l.map PyData.str) = false ∧ PyData.depthAll (l.map PyData.str) ≤ 1 := by
  induction l with
  | nil => simp only [List.map_nil, PyData.showableAll, PyData.hasDictAll, PyData.depthAll]; decide
  | cons z r ih =>
    obtain ⟨i1, i2, i3⟩ := ih
    rw [List.map_cons]
    simp only [PyData.showableAll, PyData.showable, PyData.hasDictAll, PyData.hasDict, PyData.depthAll, PyData.depth, i1, i2, Bool.and_self, Bool.or_self, true_and]
    omega
theorem opt_shown {n : Nat} {o : Option Nat} (h : ∀ y, o = some y → y < n) (hn : n ≤ 10000) : (optD o).shown.length ≤ 4 := by
  cases o with
  | none => simp only [optD, PyData.shown]; decide +kernel
  | some k => exact int_short (Nat.lt_of_lt_of_le (h k rfl) hn)
theorem opt_ok {n : Nat} {o : Option Nat} (h : ∀ y, o = some y → y < n) (hn : n ≤ 10000) : (optD o).showable = true ∧ (optD o).hasDict = false ∧ (optD o).depth = 0 := by
  cases o with
  | none => refine ⟨?_, ?_, ?_⟩ <;> simp only [optD, PyData.showable, PyData.hasDict, PyData.depth]
  | some k =>
    have h1 := h k rfl
    refine ⟨?_, ?_, ?_⟩
    · simp only [optD, PyData.showable, decide_eq_true_eq]
      exact log_small4 (by omega)
    · simp only [optD, PyData.hasDict]
    · simp only [optD, PyData.depth]
theorem ent_shown {n : Nat} {e : Ent} (h : Sm n e) (hn : n ≤ 10000) : (entD e).shown.length ≤ 15000 := by
  obtain ⟨h1, h2, ⟨h3, h4⟩, h5, h6, h7, h8, h9⟩ := h
  obtain ⟨ki, te, me, no, ca, at'⟩ := e
  have a1 : (PyData.str ki).shown.length ≤ 10 * 8 + 2 := str_short h1 h2
  have a2 : (PyData.str te).shown.length ≤ 10 * 40 + 2 := str_short h3 fun c hc => (h4 c hc).1
  have a3 : (PyData.list (me.map fun k : Nat => PyData.int (k : Int))).shown.length ≤ 608 := ints_shown h5 fun k hk => Nat.lt_of_lt_of_le (h6 k hk) hn
  have a4 : (PyData.list (no.map PyData.str)).shown.length ≤ 13000 := strs_shown h7.1 h7.2
  have a5 : (optD ca).shown.length ≤ 4 := opt_shown h8 hn
  have a6 : (optD at').shown.length ≤ 4 := opt_shown h9 hn
  unfold entD
  simp only [PyData.shown]
  have g := listText_le (PyData.shownAll [.str ki, .str te, .list (me.map fun k : Nat => PyData.int (k : Int)), .list (no.map PyData.str), optD ca, optD at'])
  simp only [PyData.shownAll, piled_cons, piled_nil] at g ⊢
  omega
theorem ints_showable {l : List Nat} (h : ∀ k ∈ l, k < 10000) : PyData.showableAll (l.map fun k : Nat => PyData.int (k : Int)) = true := by
  induction l with
  | nil => simp only [List.map_nil, PyData.showableAll]
  | cons k r ih =>
    rw [List.map_cons]
    simp only [PyData.showableAll, PyData.showable, ih fun x hx => h x (List.mem_cons_of_mem _ hx), Bool.and_true, decide_eq_true_eq]
    exact log_small4 (Nat.le_of_lt (h k List.mem_cons_self))
theorem ints_nodict (l : List Nat) : PyData.hasDictAll (l.map fun k : Nat => PyData.int (k : Int)) = false := by
  induction l with
  | nil => simp only [List.map_nil, PyData.hasDictAll]
  | cons k r ih => rw [List.map_cons]; simp only [PyData.hasDictAll, PyData.hasDict, ih, Bool.or_self]
theorem ent_ok {n : Nat} {e : Ent} (h : Sm n e) (hn : n ≤ 10000) : (entD e).showable = true ∧ (entD e).hasDict = false ∧ (entD e).depth ≤ 3 := by
  obtain ⟨h1, h2, h3, h5, h6, h7, h8, h9⟩ := h
  obtain ⟨ki, te, me, no, ca, at'⟩ := e
  obtain ⟨s1, s2, s3⟩ := strs_ok no
  have q := ints_showable fun k hk => Nat.lt_of_lt_of_le (h6 k hk) hn
  have q2 := ints_deep me
  obtain ⟨c1, c2, c3⟩ := opt_ok h8 hn
  obtain ⟨d1, d2, d3⟩ := opt_ok h9 hn
  refine ⟨?_, ?_, ?_⟩
  · simp only [entD, PyData.showable, PyData.showableAll, s1, q, c1, d1, Bool.and_self]
  · simp only [entD, PyData.hasDict, PyData.hasDictAll, s2, ints_nodict, c2, d2, Bool.or_self]
  · simp only [entD, PyData.depth, PyData.depthAll, c3, d3]
    omega
/-- all that is there is small -/
def AllSmall (es : List Ent) : Prop := ∀ e ∈ es, Sm 10000 e
def entsD (es : List Ent) : PyData := .list (es.map entD)
theorem ents_ok {es : List Ent} (h : AllSmall es) (hl : es.length ≤ 1000) : (entsD es).showable = true ∧ (entsD es).hasDict = false ∧ (entsD es).depth ≤ 60 ∧ (entsD es).shown.length ≤ sizeLine := by
  have h1 : PyData.showableAll (es.map entD) = true ∧ PyData.hasDictAll (es.map entD) = false ∧ PyData.depthAll (es.map entD) ≤ 3 := by
    clear hl
    induction es with
    | nil => simp only [List.map_nil, PyData.showableAll, PyData.hasDictAll, PyData.depthAll]; decide
    | cons e r ih =>
      obtain ⟨i1, i2, i3⟩ := ih fun x hx => h x (List.mem_cons_of_mem _ hx)
      obtain ⟨j1, j2, j3⟩ := ent_ok (h e List.mem_cons_self) (Nat.le_refl _)
      rw [List.map_cons]
      simp only [PyData.showableAll, PyData.hasDictAll, PyData.depthAll, i1, i2, j1, j2, Bool.and_self, Bool.or_self, true_and]
      omega
  obtain ⟨i1, i2, i3⟩ := h1
  refine ⟨?_, ?_, ?_, ?_⟩
  · simp only [entsD, PyData.showable, i1]
  · simp only [entsD, PyData.hasDict, i2]
  · simp only [entsD, PyData.depth]
    omega
  · simp only [entsD, PyData.shown]
    have g := listText_le (PyData.shownAll (es.map entD))
    rw [shownAll_map] at g ⊢
    have g2 := piled_le (ts := es.map fun e => (entD e).shown) (n := 15000) fun t ht => by
      obtain ⟨e, he, q⟩ := List.mem_map.mp ht
      rw [← q]
      exact ent_shown (h e he) (Nat.le_refl _)
    rw [List.length_map] at g2
    have g3 : es.length * (15000 + 2) ≤ 1000 * 15002 := Nat.mul_le_mul_right 15002 hl
    exact Nat.le_trans (by omega : _ ≤ 15003000) (by decide)
theorem reprChar_two (q c : Nat) (h : fineC c = true) : (PySem.Builtin.Str.reprChar q c).length ≤ 2 := by
  unfold fineC at h
  rw [Bool.and_eq_true, decide_eq_true_eq, decide_eq_true_eq] at h
  have hp : ∀ c, c < 127 → 31 < c → PySem.Unicode.isPrintable c = true := by decide +kernel
  have h1 := hp c h.2 h.1
  unfold PySem.Builtin.Str.reprChar
  dsimp only
  split
  · exact Nat.le_refl _
  · rw [if_neg (by simp; omega), if_neg (by simp; omega), if_neg (by simp; omega)]
    exact Nat.le_succ _
theorem foldl_two (q : Nat) : ∀ (l : List Nat) (acc : Array Nat), (∀ c ∈ l, fineC c = true) → (l.foldl (fun out c => out ++ (PySem.Builtin.Str.reprChar q c).toArray) acc).size ≤ acc.size + 2 * l.length
  | [], acc, _ => by simp
  | c :: r, acc, h => by
    have ih := foldl_two q r (acc ++ (PySem.Builtin.Str.reprChar q c).toArray) fun d hd => h d (List.mem_cons_of_mem _ hd)
    have hc := reprChar_two q c (h c (List.mem_cons_self ..))
    simp only [List.foldl_cons, List.length_cons]
    simp only [Array.size_append, List.size_toArray] at ih
    omega
theorem str_fine {z : Str} {n : Nat} (h : z.cps.toList.length ≤ n) (hc : ∀ c ∈ z.cps.toList, fineC c = true) : (PyData.str z).shown.length ≤ 2 * n + 2 := by
  simp only [PyData.shown]
  unfold reprText
  show ((z.cps.foldl (fun out c => out ++ (PySem.Builtin.Str.reprChar (reprQuote z) c).toArray) #[reprQuote z]).push (reprQuote z)).size ≤ _
  rw [Array.size_push, ← Array.foldl_toList]
  have := foldl_two (reprQuote z) z.cps.toList #[reprQuote z] hc
  have e1 : (#[reprQuote z] : Array Nat).size = 1 := rfl
  omega
theorem strs_fine {l : List Str} {n : Nat} (h : l.length ≤ n) (hz : ∀ z ∈ l, IsTx z) : (PyData.list (l.map PyData.str)).shown.length ≤ 84 * n + 2 := by
  simp only [PyData.shown]
  have h1 := listText_le (PyData.shownAll (l.map PyData.str))
  rw [shownAll_map] at h1 ⊢
  have h2 := piled_le (ts := l.map fun z => (PyData.str z).shown) (n := 82) fun t ht => by
    obtain ⟨z, hz', e⟩ := List.mem_map.mp ht
    rw [← e]
    exact str_fine (n := 40) (hz z hz').1 fun c hc => ((hz z hz').2 c hc).2
  rw [List.length_map] at h2
  have h3 : l.length * (82 + 2) ≤ n * 84 := Nat.mul_le_mul_right 84 h
  omega
theorem ent_fine {n cap : Nat} {e : Ent} (h : Sm n e) (hn : n ≤ 10000) (hc : e.notes.length ≤ cap) : (entD e).shown.length ≤ 84 * cap + 796 := by
  obtain ⟨h1, h2, ⟨h3, h4⟩, h5, h6, h7, h8, h9⟩ := h
  obtain ⟨ki, te, me, no, ca, at'⟩ := e
  have a1 : (PyData.str ki).shown.length ≤ 10 * 8 + 2 := str_short h1 h2
  have a2 : (PyData.str te).shown.length ≤ 2 * 40 + 2 := str_fine h3 fun c hc => (h4 c hc).2
  have a3 : (PyData.list (me.map fun k : Nat => PyData.int (k : Int))).shown.length ≤ 608 := ints_shown h5 fun k hk => Nat.lt_of_lt_of_le (h6 k hk) hn
  have a4 : (PyData.list (no.map PyData.str)).shown.length ≤ 84 * cap + 2 := strs_fine hc h7.2
  have a5 : (optD ca).shown.length ≤ 4 := opt_shown h8 hn
  have a6 : (optD at').shown.length ≤ 4 := opt_shown h9 hn
  unfold entD
  simp only [PyData.shown]
  have g := listText_le (PyData.shownAll [.str ki, .str te, .list (me.map fun k : Nat => PyData.int (k : Int)), .list (no.map PyData.str), optD ca, optD at'])
  simp only [PyData.shownAll, piled_cons, piled_nil] at g ⊢
  omega
theorem ents_okN {es : List Ent} (h : AllSmall es) {n c : Nat} (hl : es.length ≤ n) (hc : ∀ e ∈ es, e.notes.length ≤ c) (hs : n * (84 * c + 798) + 2 ≤ sizeLine) : (entsD es).showable = true ∧ (entsD es).hasDict = false ∧ (entsD es).depth ≤ 60 ∧ (entsD es).shown.length ≤ sizeLine := by
  have h1 : PyData.showableAll (es.map entD) = true ∧ PyData.hasDictAll (es.map entD) = false ∧ PyData.depthAll (es.map entD) ≤ 3 := by
    clear hl hc
    induction es with
    | nil => simp only [List.map_nil, PyData.showableAll, PyData.hasDictAll, PyData.depthAll]; decide
    | cons e r ih =>
      obtain ⟨i1, i2, i3⟩ := ih fun x hx => h x (List.mem_cons_of_mem _ hx)
      obtain ⟨j1, j2, j3⟩ := ent_ok (h e List.mem_cons_self) (Nat.le_refl _)
      rw [List.map_cons]
      simp only [PyData.showableAll, PyData.hasDictAll, PyData.depthAll, i1, i2, j1, j2, Bool.and_self, Bool.or_self, true_and]
      omega
  obtain ⟨i1, i2, i3⟩ := h1
  refine ⟨?_, ?_, ?_, ?_⟩
  · simp only [entsD, PyData.showable, i1]
  · simp only [entsD, PyData.hasDict, i2]
  · simp only [entsD, PyData.depth]
    omega
  · simp only [entsD, PyData.shown]
    have g := listText_le (PyData.shownAll (es.map entD))
    rw [shownAll_map] at g ⊢
    have g2 := piled_le (ts := es.map fun e => (entD e).shown) (n := 84 * c + 796) fun t ht => by
      obtain ⟨e, he, q⟩ := List.mem_map.mp ht
      rw [← q]
      exact ent_fine (h e he) (Nat.le_refl _) (hc e he)
    rw [List.length_map] at g2
    have g3 : es.length * (84 * c + 796 + 2) ≤ n * (84 * c + 798) := Nat.mul_le_mul_right _ hl
    omega
end Fs
/-! Leaves, depths, nodes of each fault. -/
namespace Fs
open PySem L2 TL
structure Tree (es : List Ent) (Lf Df Nf : Nat → Nat) : Prop where
  leaf : ∀ (i : Nat) (e : Ent), es[i]? = some e → e.mem = [] → Lf i = 1 ∧ Nf i = 1 ∧ Df i = 0
  nest : ∀ (i : Nat) (e : Ent), es[i]? = some e → e.mem ≠ [] → Lf i = (e.mem.map Lf).sum ∧ Nf i = 1 + (e.mem.map Nf).sum ∧ (∀ m ∈ e.mem, Df m + 1 ≤ Df i) ∧ ∃ m ∈ e.mem, Df i = Df m + 1
  few : ∀ (i : Nat) (e : Ent), es[i]? = some e → Lf i ≤ 101 ∧ Df i ≤ 15
  back : ∀ (i : Nat) (e : Ent), es[i]? = some e → ∀ m ∈ e.mem, m < i
theorem Tree.pos {es : List Ent} {Lf Df Nf : Nat → Nat} (T : Tree es Lf Df Nf) : ∀ n i, i ≤ n → i < es.length → 1 ≤ Lf i ∧ Nf i ≤ Lf i * (Df i + 1) := by
  intro n
  induction n with
  | zero =>
    intro i hi hl
    have he := List.getElem?_eq_getElem hl
    generalize es[i] = e at he
    cases q : e.mem with
    | nil =>
      obtain ⟨a, b, c⟩ := T.leaf i e he q
      rw [a, b, c]
      decide
    | cons x r =>
      have := T.back i e he x (by rw [q]; exact List.mem_cons_self)
      omega
  | succ n ih =>
    intro i hi hl
    have he := List.getElem?_eq_getElem hl
    generalize es[i] = e at he
    by_cases q : e.mem = []
    · obtain ⟨a, b, c⟩ := T.leaf i e he q
      rw [a, b, c]
      decide
    · obtain ⟨a, b, c, d⟩ := T.nest i e he q
      have bk := T.back i e he
      have main : ∀ l : List Nat, (∀ m ∈ l, m ∈ e.mem) → l.length ≤ (l.map Lf).sum ∧ (l.map Nf).sum ≤ (l.map Lf).sum * Df i := by
        intro l hm
        induction l with
        | nil => simp
        | cons m r ih2 =>
          obtain ⟨j1, j2⟩ := ih2 fun x hx => hm x (List.mem_cons_of_mem _ hx)
          have hmm := hm m List.mem_cons_self
          have hmi := bk m hmm
          obtain ⟨k1, k2⟩ := ih m (by omega) (by omega)
          have k3 := c m hmm
          have k4 : Lf m * (Df m + 1) ≤ Lf m * Df i := Nat.mul_le_mul_left _ k3
          simp only [List.map_cons, List.sum_cons, List.length_cons, Nat.add_mul]
          omega
      obtain ⟨m1, m2⟩ := main e.mem fun m h => h
      have m3 : 1 ≤ e.mem.length := by
        cases h : e.mem with
        | nil => exact absurd h q
        | cons x r => rw [List.length_cons]; omega
      rw [a, b]
      refine ⟨by omega, ?_⟩
      rw [Nat.mul_add, Nat.mul_one]
      omega
theorem Tree.nodes {es : List Ent} {Lf Df Nf : Nat → Nat} (T : Tree es Lf Df Nf) {i : Nat} (hi : i < es.length) : Nf i ≤ 1616 := by
  obtain ⟨h1, h2⟩ := T.pos i i (Nat.le_refl _) hi
  obtain ⟨h3, h4⟩ := T.few i _ (List.getElem?_eq_getElem hi)
  have h5 : Lf i * (Df i + 1) ≤ 101 * 16 := Nat.mul_le_mul h3 (by omega)
  omega
theorem Tree.congr {es es' : List Ent} {Lf Df Nf : Nat → Nat} (T : Tree es Lf Df Nf) (h : es.map Ent.mem = es'.map Ent.mem) : Tree es' Lf Df Nf := by
  have g : ∀ (i : Nat) (e : Ent), es'[i]? = some e → ∃ f, es[i]? = some f ∧ f.mem = e.mem := fun i e q => by
    have q2 : (es.map Ent.mem)[i]? = some e.mem := by rw [h, List.getElem?_map, q]; rfl
    rw [List.getElem?_map] at q2
    cases z : es[i]? with
    | none => rw [z] at q2; cases q2
    | some f => rw [z] at q2; exact ⟨f, rfl, Option.some.inj q2⟩
  refine ⟨fun i e q a => ?_, fun i e q a => ?_, fun i e q => ?_, fun i e q => ?_⟩
  · obtain ⟨f, z, w⟩ := g i e q
    exact T.leaf i f z (by rw [w]; exact a)
  · obtain ⟨f, z, w⟩ := g i e q
    rw [← w] at a ⊢
    exact T.nest i f z a
  · obtain ⟨f, z, w⟩ := g i e q
    exact T.few i f z
  · obtain ⟨f, z, w⟩ := g i e q
    rw [← w]
    exact T.back i f z
theorem map_same {l : List Nat} {f g : Nat → Nat} (h : ∀ m ∈ l, f m = g m) : l.map f = l.map g := List.map_congr_left h
def put (f : Nat → Nat) (n v : Nat) : Nat → Nat := fun j => if j = n then v else f j
theorem put_same (f : Nat → Nat) (n v : Nat) : put f n v n = v := if_pos rfl
theorem put_old {f : Nat → Nat} {n v i : Nat} (h : i < n) : put f n v i = f i := if_neg (by omega)
/-- one more -/
theorem Tree.snoc {es : List Ent} {Lf Df Nf : Nat → Nat} (T : Tree es Lf Df Nf) {e : Ent} {a d : Nat} (hb : ∀ m ∈ e.mem, m < es.length) (ha : a = (if e.mem = [] then 1 else (e.mem.map Lf).sum)) (h60 : a ≤ 101) (hd : d ≤ 15) (hd0 : e.mem = [] → d = 0) (hd1 : ∀ m ∈ e.mem, Df m + 1 ≤ d) (hd2 : e.mem ≠ [] → ∃ m ∈ e.mem, d = Df m + 1) :
    Tree (es ++ [e]) (put Lf es.length a) (put Df es.length d) (put Nf es.length (if e.mem = [] then 1 else 1 + (e.mem.map Nf).sum)) := by
  have split : ∀ (i : Nat) (f : Ent), (es ++ [e])[i]? = some f → (i < es.length ∧ es[i]? = some f) ∨ (i = es.length ∧ f = e) := fun i f q => by
    by_cases hi : i < es.length
    · rw [List.getElem?_append_left hi] at q
      exact .inl ⟨hi, q⟩
    · rw [List.getElem?_append_right (by omega)] at q
      have hl : i - es.length < 1 := (List.getElem?_eq_some_iff.mp q).1
      have hi2 : i = es.length := by omega
      rw [hi2, Nat.sub_self] at q
      exact .inr ⟨hi2, (Option.some.inj q).symm⟩
  refine ⟨fun i f q h => ?_, fun i f q h => ?_, fun i f q => ?_, fun i f q => ?_⟩
  · rcases split i f q with ⟨hi, q⟩ | ⟨rfl, rfl⟩
    · rw [put_old hi, put_old hi, put_old hi]
      exact T.leaf i f q h
    · rw [put_same, put_same, put_same, ha, if_pos h, if_pos h]
      exact ⟨rfl, rfl, hd0 h⟩
  · rcases split i f q with ⟨hi, q⟩ | ⟨rfl, rfl⟩
    · obtain ⟨x, y, z, m0, hm0, w⟩ := T.nest i f q h
      have bk := T.back i f q
      rw [put_old hi, put_old hi, put_old hi]
      refine ⟨?_, ?_, fun m hm => ?_, m0, hm0, ?_⟩
      · rw [x]
        exact congrArg List.sum (map_same fun m hm => (put_old (by have := bk m hm; omega)).symm)
      · rw [y]
        exact congrArg (fun l => 1 + List.sum l) (map_same fun m hm => (put_old (by have := bk m hm; omega)).symm)
      · rw [put_old (by have := bk m hm; omega)]
        exact z m hm
      · rw [put_old (by have := bk m0 hm0; omega)]
        exact w
    · obtain ⟨m0, hm0, w⟩ := hd2 h
      rw [put_same, put_same, put_same]
      refine ⟨?_, ?_, fun m hm => ?_, m0, hm0, ?_⟩
      · rw [ha, if_neg h]
        exact congrArg List.sum (map_same fun m hm => (put_old (hb m hm)).symm)
      · rw [if_neg h]
        exact congrArg (fun l => 1 + List.sum l) (map_same fun m hm => (put_old (hb m hm)).symm)
      · rw [put_old (hb m hm)]
        exact hd1 m hm
      · rw [put_old (hb m0 hm0)]
        exact w
  · rcases split i f q with ⟨hi, q⟩ | ⟨rfl, rfl⟩
    · rw [put_old hi, put_old hi]
      exact T.few i f q
    · rw [put_same, put_same]
      exact ⟨h60, hd⟩
  · rcases split i f q with ⟨hi, q⟩ | ⟨rfl, rfl⟩
    · exact T.back i f q
    · exact hb
/-- the law's rows, their lists told -/
def TriAt (bad : List Addr) (H : Hp) : List Addr → List Addr → List Addr → List Ent → Prop
  | [], [], [], [] => True
  | r :: rs, m :: mm, n :: nn, e :: es => (r ∉ bad ∧ m ∉ bad ∧ n ∉ bad ∧ H r = some (.lst [.str e.kind, .str e.text, .ref m, .ref n, optV e.cause, optV e.atw]) ∧ H m = some (.lst (memV e.mem)) ∧ H n = some (.lst (e.notes.map V.str))) ∧ TriAt bad H rs mm nn es
  | _, _, _, _ => False
theorem TriAt.rows {bad : List Addr} {H : Hp} : ∀ {rs mm nn : List Addr} {es : List Ent}, TriAt bad H rs mm nn es → RowsAt bad H rs es
  | [], [], [], [], _ => True.intro
  | r :: rs, m :: mm, n :: nn, e :: es, h => ⟨⟨m, n, h.1⟩, TriAt.rows h.2⟩
theorem TriAt.imp {bad bad' : List Addr} {H H' : Hp} (k : Keep bad H H') (hb : ∀ a, a ∉ bad → (∃ xs, H a = some (.lst xs)) → a ∉ bad') : ∀ {rs mm nn : List Addr} {es : List Ent}, TriAt bad H rs mm nn es → TriAt bad' H' rs mm nn es
  | [], [], [], [], _ => True.intro
  | r :: rs, m :: mm, n :: nn, e :: es, h => by
    obtain ⟨⟨h1, h2, h3, h4, h5, h6⟩, t⟩ := h
    exact ⟨⟨hb r h1 ⟨_, h4⟩, hb m h2 ⟨_, h5⟩, hb n h3 ⟨_, h6⟩, k.at h4 h1, k.at h5 h2, k.at h6 h3⟩, TriAt.imp k hb t⟩
theorem TriAt.keep {bad : List Addr} {H H' : Hp} (k : Keep bad H H') {rs mm nn : List Addr} {es : List Ent} (h : TriAt bad H rs mm nn es) : TriAt bad H' rs mm nn es := h.imp k fun _ n _ => n
theorem TriAt.less {bad bad' : List Addr} {H : Hp} (hb : ∀ a, a ∈ bad' → a ∈ bad) {rs mm nn : List Addr} {es : List Ent} (h : TriAt bad H rs mm nn es) : TriAt bad' H rs mm nn es := h.imp (Keep.refl _ _) fun a n _ q => n (hb a q)
theorem TriAt.more {bad : List Addr} {H : Hp} {p : Addr} (hp : ∀ xs, H p ≠ some (.lst xs)) {rs mm nn : List Addr} {es : List Ent} (h : TriAt bad H rs mm nn es) : TriAt (p :: bad) H rs mm nn es := h.imp (Keep.refl _ _) fun a n ⟨xs, hx⟩ q => by
  rcases List.mem_cons.mp q with q | q
  · rw [q] at hx; exact hp xs hx
  · exact n q
theorem TriAt.snoc {bad : List Addr} {H : Hp} {r m n : Addr} {e : Ent} (hb : r ∉ bad ∧ m ∉ bad ∧ n ∉ bad ∧ H r = some (.lst [.str e.kind, .str e.text, .ref m, .ref n, optV e.cause, optV e.atw]) ∧ H m = some (.lst (memV e.mem)) ∧ H n = some (.lst (e.notes.map V.str))) : ∀ {rs mm nn : List Addr} {es : List Ent}, TriAt bad H rs mm nn es → TriAt bad H (rs ++ [r]) (mm ++ [m]) (nn ++ [n]) (es ++ [e])
  | [], [], [], [], _ => ⟨hb, True.intro⟩
  | _ :: _, _ :: _, _ :: _, _ :: _, h => ⟨h.1, TriAt.snoc hb h.2⟩
theorem TriAt.is {bad : List Addr} {H : Hp} : ∀ {rs mm nn : List Addr} {es : List Ent}, TriAt bad H rs mm nn es → ∀ a ∈ rs ++ (mm ++ nn), ∃ xs, H a = some (.lst xs)
  | [], [], [], [], _, a, h => by simp at h
  | r :: rs, m :: mm, n :: nn, e :: es, h, a, q => by
    have q' : a = r ∨ a = m ∨ a = n ∨ a ∈ rs ++ (mm ++ nn) := by
      simp only [List.mem_append, List.mem_cons] at q ⊢
      rcases q with (q | q) | (q | q) | (q | q) <;> simp [q]
    rcases q' with q | q | q | q
    · rw [q]; exact ⟨_, h.1.2.2.2.1⟩
    · rw [q]; exact ⟨_, h.1.2.2.2.2.1⟩
    · rw [q]; exact ⟨_, h.1.2.2.2.2.2⟩
    · exact TriAt.is h.2 a q
theorem two_more {mm nn : List Addr} {m n : Addr} (h : (mm ++ nn).Nodup) (hm : m ∉ mm ++ nn) (hn : n ∉ mm ++ nn) (ne : m ≠ n) : ((mm ++ [m]) ++ (nn ++ [n])).Nodup := by
  rw [List.nodup_append] at h ⊢
  obtain ⟨h1, h2, h3⟩ := h
  simp only [List.mem_append, not_or] at hm hn
  refine ⟨?_, ?_, ?_⟩
  · refine List.nodup_append.mpr ⟨h1, by simp, fun a ha b hb z => hm.1 ?_⟩
    rw [← List.mem_singleton.mp hb, ← z]; exact ha
  · refine List.nodup_append.mpr ⟨h2, by simp, fun a ha b hb z => hn.2 ?_⟩
    rw [← List.mem_singleton.mp hb, ← z]; exact ha
  · intro a ha b hb z
    rcases List.mem_append.mp ha with q | q <;> rcases List.mem_append.mp hb with q2 | q2
    · exact h3 a q b q2 z
    · exact hn.1 (by rw [← List.mem_singleton.mp q2, ← z]; exact q)
    · exact hm.2 (by rw [← List.mem_singleton.mp q, z]; exact q2)
    · exact ne (by rw [← List.mem_singleton.mp q, z, List.mem_singleton.mp q2])
theorem Tree.nil : Tree [] (fun _ => 0) (fun _ => 0) (fun _ => 0) := ⟨fun i e q => by simp at q, fun i e q => by simp at q, fun i e q => by simp at q, fun i e q => by simp at q⟩
theorem sum_cast {l : List Nat} (f : Nat → Nat) : (l.map fun m => (f m : Int)).sum = ((l.map f).sum : Nat) := by
  induction l with
  | nil => rfl
  | cons m r ih => simp only [List.map_cons, List.sum_cons, ih]; omega
end Fs
/-! Lists over members; faults as they are drawn. -/
namespace Fs
open PySem L2 TL
/-- [e for j in members]: whole numbers, nothing changed -/
theorem ints_runG {K : PySem.W.Frag} {M D : Addr} {mem : List Nat} {i : Nat} {σ : L2.St} {H1 : Hp} {Qd : Hp → Prop} {te : TE} (g : Nat → Int) (hM : H1 M = some (.lst (memV mem))) (hD : H1 D = none) (hlen : mem.length ≤ 1000)
    (hw : ∀ v, wipe ((wipe σ [i]).set i (some v)) [i] = wipe σ [i])
    (hte : ∀ k ∈ mem, ∀ (H : Hp), Keep [] H1 H → ∀ Q : VK, Q (.int (g k)) H → te ((wipe σ [i]).set i (some (.int ((k : Nat) : Int)))) H Q)
    (hq : ∀ (H : Hp), H D = some (.lst ((mem.map g).map V.int)) → Keep [] H1 H → Qd H) :
    ∃ W : Nat → Nat → Hp → Prop, (∃ m, W 0 m (upd H1 D (.lst []))) ∧ ∀ k m H, W k m H →
      ((Itl K M).stop k H ∧ Qd H) ∨ ((Itl K M).go k H ∧ ∃ Nx : Hp → Prop, (∀ H', Nx H' → ∃ m', m' < m ∧ W (k + 1) m' H') ∧ ∀ x H', (Itl K M).yld k H x H' → gName i x (wipe σ [i]) H' fun σ2 H2 => wipe σ2 [i] = wipe σ [i] ∧ tYes σ2 H2 fun b H3 =>
        if b = true then te σ2 H3 fun y H4 => ∃ acc, H4 D = some (.lst acc) ∧ acc.length < sizeLine ∧ Nx (upd H4 D (.lst (acc ++ [y]))) else Nx H3) := by
  refine lc_list (K := K) (a := M) (xs := memV mem) (fun k H => H D = some (.lst (((mem.take k).map g).map V.int)) ∧ Keep [] H1 H) ⟨upd_same, Keep.new hD⟩ (fun k H _ ⟨_, kH⟩ => SqL.of (kH.at hM nin0)) (fun k x H hx hI => ?_) (fun H hI => ?_)
  · obtain ⟨eD, kH⟩ := hI
    obtain ⟨a, ha, rfl⟩ : ∃ a, mem[k]? = some a ∧ x = V.int ((a : Nat) : Int) := by
      rw [List.getElem?_map] at hx
      cases q : mem[k]? with
      | none => rw [q] at hx; cases hx
      | some a => rw [q] at hx; exact ⟨a, rfl, (Option.some.inj hx).symm⟩
    have hk := (List.getElem?_eq_some_iff.mp ha).1
    refine ⟨hw _, tyes (hte a (List.mem_of_getElem? ha) H kH _ ?_)⟩
    refine ⟨_, eD, ?_, ?_, fun b o hb ho => ?_⟩
    · rw [List.length_map, List.length_map, List.length_take]
      exact Nat.lt_of_le_of_lt (by omega : min k mem.length ≤ 1000) (by decide)
    · rw [upd_same, List.take_add_one, ha, List.map_append, List.map_append]; rfl
    · rw [upd_ne (ne_of_none ho hD)]
      exact kH b o hb ho
  · obtain ⟨eD, kH⟩ := hI
    rw [List.length_map, List.take_length] at eD
    exact hq H eD kH
def inFor : Stmt → List Stmt
  | .For _ _ b _ _ => b
  | _ => []
/-- a fault as the law draws it -/
def KindOk (ps : List (Str × Str)) (mem : List Nat) (z : Str) : Prop := (mem = [] → z ∈ sF :: ps.map Prod.fst) ∧ (mem ≠ [] → z = sS)
def Fresh (ps : List (Str × Str)) (i : Nat) (e : Ent) : Prop := IsTx e.text ∧ e.mem.length ≤ 101 ∧ (∀ k ∈ e.mem, k < i) ∧ e.notes = [] ∧ e.cause = none ∧ e.atw = none ∧ KindOk ps e.mem e.kind
def Built (ps : List (Str × Str)) (es : List Ent) : Prop := ∀ (i : Nat) (e : Ent), es[i]? = some e → Fresh ps i e
theorem Built.snoc {ps : List (Str × Str)} {es : List Ent} {e : Ent} (h : Built ps es) (he : Fresh ps es.length e) : Built ps (es ++ [e]) := fun i f q => by
  by_cases hi : i < es.length
  · rw [List.getElem?_append_left hi] at q
    exact h i f q
  · rw [List.getElem?_append_right (by omega)] at q
    have hl : i - es.length < 1 := (List.getElem?_eq_some_iff.mp q).1
    have hi2 : i = es.length := by omega
    rw [hi2, Nat.sub_self] at q
    rw [hi2, ← Option.some.inj q]
    exact he
theorem range_put (f : Nat → Nat) (n v : Nat) : ((List.range n).map fun i => (f i : Int)) ++ [(v : Int)] = (List.range (n + 1)).map fun i => (put f n v i : Int) := by
  rw [List.range_succ, List.map_append]
  refine congr (congrArg _ (List.map_congr_left fun i hi => ?_)) ?_
  · rw [put_old (List.mem_range.mp hi)]
  · rw [List.map_singleton, put_same]
theorem RowsAt.is {bad : List Addr} {H : Hp} : ∀ {as : List Addr} {es : List Ent}, RowsAt bad H as es → ∀ a ∈ as, ∃ o, H a = some o
  | [], [], _, _, h => absurd h List.not_mem_nil
  | _ :: as, _ :: es, h, a, m => by
    rcases List.mem_cons.mp m with m | m
    · rw [m]
      obtain ⟨_, _, _, _, _, e, _⟩ := h.1
      exact ⟨_, e⟩
    · exact RowsAt.is h.2 a m
  | [], _ :: _, h, _, _ => h.elim
  | _ :: _, [], h, _, _ => h.elim
end Fs
/-! A def's promise at places where nothing is being shown. -/
namespace Fs
open PySem L2 TL
structure FnG (P : Program) (w : World) (K : PySem.W.Frag) (mg : Str → Option Value) (base : Heap) (k : Nat) (f : Addr) (fd : FuncData) (ps : List Str) (sp : Sp) : Prop where
  many : ∀ vs H Q E, sp vs H Q E → vs.length = ps.length
  go : ∀ (A : Around) (outer : List Env) (s : Shared) (H : Hp) (us : List Value) (vs : List V) (Q : VK) (E : XK), A.guards = some [] → Room k A → Env0 P w K mg base A outer s H →
    BindsTo s fd ⟨us, []⟩ (ps.zip us) → Vals vs us → sp vs H Q E → codeAny (model P w) A (.call (.ref f) ⟨us, []⟩) (CR CX0 outer P w H s Q E) s
section
variable {P : Program} {w : World} {K : PySem.W.Frag} {mg : Str → Option Value} {base : Heap}
theorem okG {x q : Str} {st : Stmt} {f : Addr} {fd : FuncData} {N ps : List Str} {k : Nat} {sp : Sp} (F : Fun K x q st f fd) (S : FnScope N ps (defScope st)) (len : ∀ vs H Q E, sp vs H Q E → vs.length = ps.length)
    (body : ∀ (cdv : Value) (A : Around) (outer : List Env) (s : Shared) (H : Hp) (vs : List V) (Q : VK) (E : XK), A.guards = some [] → Room k (A.deeper (PyProof.Rows.envOfC q (defScope st) s.heap.objs.size f cdv)) → sp vs H Q E →
      ∃ t, PSs (cxOf CX0 P w K mg base N q (defScope st) f cdv A outer s H E).nox (defBody st) t ∧ t { nx := fun _ H' => Q .non H', rt := Q } (L2.start N vs) H) : FnG P w K mg base (k + 1) f fd ps sp := by
  obtain ⟨oc, od, kV, doc, pm, an, cdv, ct, osl, rfl, lk, hcd⟩ := F.ex
  refine ⟨len, fun A outer s H us vs Q E hg hr e0 bd rv hsp => ?_⟩
  have now : K.In s.heap := e0.mod.kin.keeps fun b o e => (e0.bs b o e).1
  have hl := len _ _ _ _ hsp
  refine codeAny_call_function hr.depth (now f _ lk) rfl S.co S.gen rfl (PySem.W.codeRec_of now hcd) (bd _ _ _ _ (wpAny_newFunctionEnv_cells S.kind (fun z hz => ?_) fun env he s1 entered => ?_))
  · obtain ⟨n, v⟩ := z
    exact (S.par n (List.of_mem_zip hz).1).imp id fun c => ⟨c, PySem.W.cellsFrom_some _ _ _ (.inl c)⟩
  · cases he
    have free : s1.heap.NoLimit := (e0.mod.nolimit.keeps fun b o e => (e0.bs b o e).1).keeps entered.toInCall.keep
    obtain ⟨t, ht, hq⟩ := body cdv A outer s H vs Q E hg (hr.deeper _) hsp
    have at1 := inv_start (CX := CX0) (E := E) (ps := ps) (us := us) (vs := vs) S hr.hd e0 hl rv entered
    refine ⟨free, codeAny_func (wpAny_mono (ht.nox.run [] s1 _ H _ at1 hq) (fun fl s' end_ => ?_) fun e s' bad => ?_)⟩
    · cases fl with
      | ret u' =>
        obtain ⟨v', _, H', J, rv', q'⟩ := end_
        exact ⟨v', H', J.os, J.bare, J.base, J.hok, rv', q'⟩
      | next =>
        obtain ⟨_, H', J, q'⟩ := end_
        exact ⟨.non, H', J.os, J.bare, J.base, J.hok, rfl, q'⟩
      | brk => obtain ⟨_, _, _, no⟩ := end_; exact no.elim
      | cont => obtain ⟨_, _, _, no⟩ := end_; exact no.elim
    · exact wpAny_mono bad (fun _ _ no => False.elim no) fun _ _ no => False.elim no
end
section
variable {X : Cx} {k : Nat} {f : Addr} {fd : FuncData} {ps : List Str} {sp : Sp} {x : Str} {p pos : Pos} {e : Expr} {es : List Expr} {t : TA}
theorem pe_callG (F : FnG X.prog X.w X.K X.mg X.base k f fd ps sp) (hg : X.A.guards = some []) (hr : Room k X.A) (gl : Gl X x) (hm : X.mg x = some (.ref f)) (hk : PySem.W.keepIn X.K (.ref f) = true) (hb : Binds X.K fd ps [])
    (ha : PA X (e :: es) t) (hdb : (x == ("__debug__" : Str)) = false := by decide) (he : starEach (e :: es) X.env = (false, eval e X.env) :: starEach es X.env := by rfl) (hpl : (backTo pos (starEach es X.env)).any (·.1) = false := by rfl) :
    PE X (.Call (.Name x p) (e :: es) [] pos) (tCall sp [] E0 t) := by
  refine ⟨fun pins s σ H Q I h => wpAny_Call_Name_kw (ld_glob I gl hm ?_ hdb)⟩
  refine PySem.W.callWith_K (h₀ := X.base) I.ok.mod.kin hk (thn (ha.run pos pins s σ H _ I h) fun us s1 ⟨vs, H1, I1, r, q⟩ => ⟨I1.kIn, ?_⟩) he hpl
  have q : sp (vs ++ []) H1 Q E0 := q
  rw [List.append_nil] at q
  have hl : us.length = ps.length := by rw [← r.length]; exact F.many _ _ _ _ q
  have b1 := hb s1 us I1.kIn (by rw [List.append_nil]; exact hl)
  rw [List.append_nil] at b1
  refine wpAny_call (codeAny_mono (F.go X.A X.stack s1 H1 us vs Q E0 hg hr I1.env0 b1 r q) fun r s' hq => ?_)
  cases r with
  | error e => exact False.elim hq
  | ok fl =>
    cases fl with
    | ret u => exact I1.after hq
    | next => exact False.elim hq
    | brk => exact False.elim hq
    | cont => exact False.elim hq
end
end Fs
/-! Members that are drawn. -/
namespace Fs
open PySem L2 TL
abbrev sMem : Stmt := top 36 --def _law_members
abbrev nMem : List Str := ["_law_pot_here", "_law_many", "_law_leaves_here", "_law_deep", "_law_room", "_law_found", "_law_held", "_law_turn", "_law_j"]
theorem scMem : FnScope nMem ["_law_pot_here", "_law_many", "_law_leaves_here", "_law_deep", "_law_room"] (defScope sMem) := ⟨rfl, rfl, rfl, by decide +kernel, rfl, by decide +kernel, by decide +kernel⟩
/-- [f 0, f 1, ..] -/
def upto (f : Nat → Nat) (n : Nat) : List V := ((List.range n).map fun i => (f i : Int)).map V.int
theorem upto_len (f : Nat → Nat) (n : Nat) : (upto f n).length = n := by unfold upto; rw [List.length_map, List.length_map, List.length_range]
theorem upto_at {f : Nat → Nat} {n a : Nat} (h : a < n) : atI (upto f n) (a : Int) = some (V.int (f a : Int)) :=
  atI_nat (by unfold upto; rw [List.getElem?_map, List.getElem?_map, List.getElem?_range h]; rfl)
theorem upto_put (f : Nat → Nat) (n v : Nat) : upto f n ++ [V.int (v : Int)] = upto (put f n v) (n + 1) := by
  unfold upto
  rw [← range_put f n v, List.map_append]
  rfl
def spMem : Sp := fun vs H Q _ => ∃ (p L D : Addr) (n k room : Nat) (Lf Df : Nat → Nat), vs = [.ref p, .int (k : Int), .ref L, .ref D, .int (room : Int)] ∧ 1 ≤ k ∧ k ≤ 500 ∧ 1 ≤ room ∧ room ≤ 100 ∧ PotAt H p n ∧ n < 2 ^ 30 ∧ L ≠ p ∧ D ≠ p ∧ H L = some (.lst (upto Lf k)) ∧ H D = some (.lst (upto Df k)) ∧ Lf 0 = 1 ∧ Df 0 = 0 ∧
  ∀ (M : Addr) (mem : List Nat) (H' : Hp), H M = none → H' M = some (.lst (memV mem)) → mem ≠ [] → mem.length ≤ 6 → (∀ a ∈ mem, a < k) → (mem.map Lf).sum ≤ room → (∀ a ∈ mem, Df a < 10) → Keep [p] H H' → PotAt H' p (n + 20) → Q (.ref M) H'
abbrev bMem : List Stmt := inFor ((defBody sMem).getD 2 (.Pass ⟨0, 0, 0, 0⟩))
section
variable {P : Program} {w : World} {K : PySem.W.Frag} {mg : Str → Option Value} {base : Heap} {fD : Addr}
theorem mem_2 {f : Addr} (cdv : Value) (A0 : Around) (outer : List Env) (s : Shared) (Hs : Hp) (Es : XK) : ∃ t, PSs (cxOf CX0 P w K mg base nMem "_law_members" (defScope sMem) f cdv A0 outer s Hs Es).nox (bMem.drop 2) t ∧
    ∀ (p L D M : Addr) (k room j : Nat) (Lf Df : Nat → Nat) (mem : List Nat) (v7 : Option V) (G : Hp) (De : Ends), j < k → mem.length ≤ 100 → G L = some (.lst (upto Lf k)) → G D = some (.lst (upto Df k)) → G M = some (.lst (memV mem)) → L ≠ M → 
      (De.nx [some (.ref p), some (.int (k : Int)), some (.ref L), some (.ref D), some (.int (room : Int)), some (.ref M), some (.int ((mem.map Lf).sum : Nat)), v7, some (.int (j : Int))] G) →
      (∀ G', ((mem ++ [j]).map Lf).sum ≤ room → Df j < 10 → Keep [M] G G' → G' M = some (.lst (memV (mem ++ [j]))) → De.nx [some (.ref p), some (.int (k : Int)), some (.ref L), some (.ref D), some (.int (room : Int)), some (.ref M), some (.int (((mem ++ [j]).map Lf).sum : Nat)), v7, some (.int (j : Int))] G') →
      t De [some (.ref p), some (.int (k : Int)), some (.ref L), some (.ref D), some (.int (room : Int)), some (.ref M), some (.int ((mem.map Lf).sum : Nat)), v7, some (.int (j : Int))] G := by
  refine ⟨_, pss_one (ps_if (PW.pt (pw_and (pt_cmpR op_le (pe_op op_add (pv 6) (pe_ix ix_list (pv 2) (pv 8) (fun _ _ => rfl))) (pv 4) (nomark _)) (pw_and1 (pt_cmpR op_lt (pe_ix ix_list (pv 3) (pv 8) (fun _ _ => rfl)) pe_int (nomark _)))))
    (pss_cons (ps_expr (pe_bm PySem.F.plainAttrs_list PySem.F.slot_list_append PySem.F.type_list_append mt_append (pv 5) (pa_cons (pv 8) pa_nil)))
    (pss_one (ps_set (i := 6) scMem.nd rfl (Or.inl rfl) (pe_op op_add (pv 6) (pe_ix ix_list (pv 2) (pv 8) (fun _ _ => rfl)))))) pss_nil), ?_⟩
  intro p L D M k room j Lf Df mem v7 G De hj hm hL hD hM nLM skip take
  refine ⟨_, rfl, _, rfl, _, rfl, L, _, _, _, rfl, rfl, SqL.of hL, upto_at hj, _, _, rfl, rfl, _, rfl, _, _, rfl, rfl, _, rfl, ?_⟩
  have es : ((mem ++ [j]).map Lf).sum = (mem.map Lf).sum + Lf j := by rw [List.map_append, List.sum_append]; simp
  refine ite2 (fun h1 => ?_) (fun _ => skip)
  have h1 : ((mem.map Lf).sum : Nat) + (Lf j : Int) ≤ (room : Int) := of_decide_eq_true h1
  refine ⟨_, rfl, _, rfl, D, _, _, _, rfl, rfl, SqL.of hD, upto_at hj, _, _, rfl, rfl, _, rfl, ?_⟩
  refine ite2 (fun h2 => ?_) (fun _ => skip)
  have h2 : (Df j : Int) < 10 := of_decide_eq_true h2
  refine ⟨_, rfl, .inl ⟨rfl, _, SqL.of hM⟩, _, rfl, M, _, _, rfl, rfl, hM, Nat.lt_of_le_of_lt (by rw [List.length_map]; omega : (memV mem).length ≤ 1000) (by decide), ?_⟩
  refine ⟨_, rfl, _, rfl, _, rfl, L, _, _, _, rfl, rfl, SqL.of (by rw [upd_ne nLM]; exact hL), upto_at hj, _, _, rfl, rfl, ?_⟩
  have q := take (upd G M (.lst (memV mem ++ [.int (j : Int)]))) (by rw [es]; omega) (by omega) (Keep.own in1) (by rw [upd_same]; show _ = some (HO.lst ((mem ++ [j]).map fun k : Nat => V.int (k : Int))); rw [List.map_append]; rfl)
  rw [es] at q
  exact q
theorem Keep.over {ex : List Addr} {H H1 H2 : Hp} {p : Addr} (k : Keep ex H H1) (hp : H p = none) (k2 : Keep [p] H1 H2) : Keep ex H H2 := fun b o hb e => k2 b o (nin1 fun z => by rw [z, hp] at e; cases e) (k b o hb e)
theorem ok_mem {f : Addr} {fd fdD : FuncData} (F : Fun K "_law_members" "_law_members" sMem f fd) (FD : FnOk P w K mg base CX0 1 fD fdD ["_law_pot_here", "_law_many"] spDigit) (mD : mg "_law_digit" = some (.ref fD)) (kD : PySem.W.keepIn K (.ref fD) = true) (bD : Binds K fdD ["_law_pot_here", "_law_many"] []) (mM : mg "min" = none) (mR : mg "range" = none) :
    FnOk P w K mg base CX0 2 f fd ["_law_pot_here", "_law_many", "_law_leaves_here", "_law_deep", "_law_room"] spMem := by
  refine F.ok scMem (fun vs H Q E h => ?_) (fun cdv A outer s H vs Q E hr h => ?_)
  · obtain ⟨p, L, D, n, k, room, Lf, Df, rfl, _⟩ := h
    rfl
  · obtain ⟨p, L, D, n, k, room, Lf, Df, rfl, k1, k500, r1, r100, hp, hn, nLp, nDp, hL, hD, lf0, df0, kk⟩ := h
    obtain ⟨t2, h2, r2⟩ := mem_2 (P := P) (w := w) (K := K) (mg := mg) (base := base) (f := f) cdv A outer s H E
    refine ⟨_, pss_cons (ps_set (i := 5) scMem.nd rfl (Or.inl rfl) (pe_lst pa_nil))
      (pss_cons (ps_set (i := 6) scMem.nd rfl (Or.inl rfl) pe_int)
      (pss_cons (ps_for PassesOwn.never rfl (pi_range1 rfl mR (pa_cons (pe_op op_add pe_int (pe_call FD hr rfl mD kD bD .nil pass0 (pa_cons (pv 0) (pa_cons pe_int pa_nil)))) pa_nil)) (pg_name (i := 7) scMem.nd rfl (Or.inl rfl))
        (pss_cons (ps_set (i := 8) scMem.nd rfl (Or.inl rfl) (pe_call FD hr rfl mD kD bD .nil pass0 (pa_cons (pv 0) (pa_cons (pv 1) pa_nil))))
        (pss_cons (ps_if (pt_cmpR op_eq (pe_call FD hr rfl mD kD bD .nil pass0 (pa_cons (pv 0) (pa_cons pe_int pa_nil))) pe_int (nomark _))
          (pss_one (ps_set (i := 8) scMem.nd rfl (Or.inl rfl) (pe_op op_sub (pe_op op_sub (pv 1) pe_int) (pe_call FD hr rfl mD kD bD .nil pass0 (pa_cons (pv 0) (pa_cons (pe_callB (call_min2 rfl) (by rfl) mM (by decide +kernel) (pa_cons (pv 1) (pa_cons pe_int pa_nil))) pa_nil)))))) pss_nil)
        h2)))
      (pss_cons (ps_if (pt_cmpR (op_eqD hr.units) (pv 5) (pe_lst pa_nil) (nomark _)) (pss_one (ps_ret (pe_lst (pa_cons pe_int pa_nil)))) pss_nil)
      (pss_one (ps_ret (pv 5)))))), ?_⟩
    refine ⟨Nat.zero_le _, fun M hM => ?_⟩
    have kM : Keep [] H (upd H M (.lst [])) := Keep.new hM
    have eM : (upd H M (.lst [])) M = some (.lst (memV [])) := upd_same
    generalize (upd H M (.lst [])) = H0 at kM eM ⊢
    obtain ⟨x0, ep0⟩ := hp.some
    have nMp : M ≠ p := Ne.symm (ne_of_none ep0 hM)
    have hp0 := hp.keep kM nin0
    refine ⟨_, rfl, p, n, 6, rfl, hp0, by omega, by decide, by decide, fun d H1 d0 d1 hk1 hp1 => ?_⟩
    refine ⟨_, _, rfl, rfl, _, rfl, by omega, by omega, ?_⟩
    obtain ⟨m, hm⟩ : ∃ m : Nat, (1 + d : Int) = (m : Int) := ⟨(1 + d).toNat, by omega⟩
    have em : (1 + d : Int).toNat = m := by omega
    have m6 : m ≤ 6 := by have : d < 6 := d1; omega
    rw [em]
    have kL : ∀ {G : Hp}, Keep [p] H G → G L = some (.lst (upto Lf k)) := fun q => q.at hL (nin1 nLp)
    have kDp : ∀ {G : Hp}, Keep [p] H G → G D = some (.lst (upto Df k)) := fun q => q.at hD (nin1 nDp)
    have k01 : Keep [p] H H1 := (kM.more fun b z => absurd z nin0).trans (keep_of_dig hk1)
    refine for_range (lo := 0) (n := m) (fun i σ G => ∃ (mem : List Nat) (v7 v8 : Option V), σ = [some (.ref p), some (.int (k : Int)), some (.ref L), some (.ref D), some (.int (room : Int)), some (.ref M), some (.int ((mem.map Lf).sum : Nat)), v7, v8] ∧ G M = some (.lst (memV mem)) ∧ mem.length ≤ i ∧ (∀ a ∈ mem, a < k) ∧ (mem.map Lf).sum ≤ room ∧ (∀ a ∈ mem, Df a < 10) ∧ Keep [p] H G ∧ PotAt G p (n + 1 + 3 * i))
      ⟨[], none, none, rfl, (keep_of_dig hk1).at eM (nin1 nMp), Nat.le_refl _, (fun a h => absurd h List.not_mem_nil), Nat.zero_le _, (fun a h => absurd h List.not_mem_nil), k01, hp1⟩ ?_ ?_
    · rintro i σ G hi ⟨mem, v7, v8, rfl, eG, hml, hmk, hms, hmd, kG, pG⟩
      refine ⟨_, rfl, _, rfl, p, _, _, rfl, pG, by omega, by omega, by omega, fun j G1 j0 j1 hkj pj => ?_⟩
      have kG1 := kG.trans (keep_of_dig hkj)
      have eG1 := (keep_of_dig hkj).at eG (nin1 nMp)
      refine ⟨_, rfl, p, _, _, rfl, pj, by omega, by decide, by decide, fun c G2 c0 c1 hkc pc => ?_⟩
      have kG2 := kG1.trans (keep_of_dig hkc)
      have eG2 := (keep_of_dig hkc).at eG1 (nin1 nMp)
      refine ⟨rfl, _, rfl, ?_⟩
      have nLM : L ≠ M := fun z => by rw [← z, hL] at hM; cases hM
      have nDM : D ≠ M := fun z => by rw [← z, hD] at hM; cases hM
      have go : ∀ (jz : Int) (j : Nat) (G3 : Hp) (De : Ends), jz = (j : Int) → j < k → Keep [p] H G3 → G3 M = some (.lst (memV mem)) → PotAt G3 p (n + 1 + 3 * i + 3) → (∀ σ' H', (∃ (mem : List Nat) (v7 v8 : Option V), σ' = [some (.ref p), some (.int (k : Int)), some (.ref L), some (.ref D), some (.int (room : Int)), some (.ref M), some (.int ((mem.map Lf).sum : Nat)), v7, v8] ∧ H' M = some (.lst (memV mem)) ∧ mem.length ≤ i + 1 ∧ (∀ a ∈ mem, a < k) ∧ (mem.map Lf).sum ≤ room ∧ (∀ a ∈ mem, Df a < 10) ∧ Keep [p] H H' ∧ PotAt H' p (n + 1 + 3 * (i + 1))) → De.nx σ' H') → t2 De [some (.ref p), some (.int (k : Int)), some (.ref L), some (.ref D), some (.int (room : Int)), some (.ref M), some (.int ((mem.map Lf).sum : Nat)), some (.int (0 + (i : Int))), some (.int jz)] G3 := fun jz j G3 De hz hj k3 e3 p3 fin => by
        subst hz
        refine r2 p L D M k room j Lf Df mem _ G3 _ hj (by omega) (kL k3) (kDp k3) e3 nLM (fin _ _ ⟨mem, _, _, rfl, e3, by omega, hmk, hms, hmd, k3, p3.le (by omega)⟩) fun G' q1 q2 k' e' => fin _ _ ?_
        refine ⟨mem ++ [j], _, _, rfl, e', by rw [List.length_append]; show mem.length + 1 ≤ i + 1; omega, fun a ha => ?_, q1, fun a ha => ?_, Keep.over k3 hM k', (p3.keep k' (nin1 (Ne.symm nMp))).le (by omega)⟩
        · rcases List.mem_append.mp ha with z | z
          · exact hmk a z
          · rw [List.mem_singleton.mp z]; exact hj
        · rcases List.mem_append.mp ha with z | z
          · exact hmd a z
          · rw [List.mem_singleton.mp z]; exact q2
      obtain ⟨j, rfl⟩ : ∃ m : Nat, j = (m : Int) := ⟨j.toNat, by omega⟩
      refine ite2 (fun _ => ?_) (fun _ => ?_)
      · refine ⟨_, rfl, _, _, rfl, rfl, _, rfl, _, rfl, _, _, rfl, p, _, _, rfl, pc, by omega, ?_, ?_, fun b G3 b0 b1 hkb pb => ?_⟩
        · show 0 < (if (3 : Int) < (k : Int) then (3 : Int) else (k : Int))
          split <;> omega
        · show (if (3 : Int) < (k : Int) then (3 : Int) else (k : Int)) < _
          split <;> omega
        have b1 : b < (if (3 : Int) < (k : Int) then (3 : Int) else (k : Int)) := b1
        have bk : b < (k : Int) := by split at b1 <;> omega
        refine ⟨_, _, rfl, rfl, ?_⟩
        exact go _ (k - 1 - b.toNat) G3 _ (by omega) (by omega) (kG2.trans (keep_of_dig hkb)) ((keep_of_dig hkb).at eG2 (nin1 nMp)) (pb.le (by omega)) fun _ _ h => h
      · exact go _ j G2 _ rfl (by omega) kG2 eG2 (pc.le (by omega)) fun _ _ h => h
    · rintro σ G ⟨mem, v7, v8, rfl, eG, hml, hmk, hms, hmd, kG, pG⟩
      refine ⟨_, rfl, Nat.zero_le _, fun e2 he2 => ?_⟩
      have k1 : Keep [] G (upd G e2 (.lst [])) := Keep.new he2
      have a1 : (upd G e2 (.lst [])) e2 = some (.lst []) := upd_same
      generalize (upd G e2 (.lst [])) = G1 at k1 a1 ⊢
      have eG1 := k1.at eG nin0
      have kG1 := kG.trans (k1.more fun b z => absurd z nin0)
      have pG1 := pG.keep k1 nin0
      refine ⟨intsD mem, intsD [], dp_intsD eG1, dp_intsD (l := []) a1, ints_shaped _, ints_shaped _, _, rfl, ?_⟩
      rw [ints_nil]
      cases mem with
      | nil =>
        refine iteT ⟨(by show 1 ≤ sizeLine; decide), fun c hc => ?_⟩
        obtain ⟨_, ep⟩ := pG1.some
        exact kk c [0] _ (Keep.free kG1 hc (nin1 fun z => by rw [z, ep] at hc; cases hc)) upd_same (fun h => by cases h) (by decide) (fun a ha => by rw [List.mem_singleton.mp ha]; omega) (by simpa [lf0] using r1) (fun a ha => by rw [List.mem_singleton.mp ha, df0]; decide) (kG1.newTo hc) ((pG1.keep (ex := []) (Keep.new hc) nin0).le (by omega))
      | cons a r => exact iteF ⟨_, rfl, kk M (a :: r) _ hM eG1 (fun h => by cases h) (by omega) hmk hms hmd kG1 (pG1.le (by omega))⟩
end
end Fs
/-! Faults that are drawn. -/
namespace Fs
open PySem L2 TL
abbrev sFts : Stmt := top 37 --def _law_faults
abbrev nFts : List Str := ["_law_pot_here", "_law_pairs", "_law_texts_here", "_law_most", "_law_room", "_law_sorts", "_law_name_here", "_law_above", "_law_faults_here", "_law_leaves_here", "_law_deep", "_law_k", "_law_members_here", "_law_kind", "_law_j"]
theorem scFts : FnScope nFts ["_law_pot_here", "_law_pairs", "_law_texts_here", "_law_most", "_law_room"] (defScope sFts) := ⟨rfl, rfl, rfl, by decide +kernel, rfl, by decide +kernel, by decide +kernel⟩
abbrev bFts : List Stmt := inFor ((defBody sFts).getD 4 (.Pass ⟨0, 0, 0, 0⟩))
/-- the faults so far, their leaves, their depths -/
structure FtAt (ps : List (Str × Str)) (Lf Df Nf : Nat → Nat) (H0 H : Hp) (p E L D : Addr) (es : List Ent) (rs : List Addr) : Prop where
  ent : H E = some (.lst (rs.map V.ref))
  lvs : H L = some (.lst (upto Lf es.length))
  dps : H D = some (.lst (upto Df es.length))
  tree : Tree es Lf Df Nf
  rows : RowsAt [p, E, L, D] H rs es
  nd : rs.Nodup
  fresh : ∀ r ∈ rs, H0 r = none
  built : Built ps es
  keep : Keep [p] H0 H
  E0 : H0 E = none
  L0 : H0 L = none
  D0 : H0 D = none
  nEL : E ≠ L
  nED : E ≠ D
  nLD : L ≠ D
structure FTxt (K : PySem.W.Frag) (mg : Str → Option Value) (fDg fMe : Addr) : Prop where
  gD : mg "_law_digit" = some (.ref fDg)
  kD : PySem.W.keepIn K (.ref fDg) = true
  gM : mg "_law_members" = some (.ref fMe)
  kM : PySem.W.keepIn K (.ref fMe) = true
  sum : mg "sum" = none
  max : mg "max" = none
  range : mg "range" = none
  len : mg "len" = none
/-- a fault of these members may come -/
structure MemOk (Lf Df : Nat → Nat) (room n : Nat) (mem : List Nat) : Prop where
  six : mem.length ≤ 6
  inn : ∀ a ∈ mem, a < n
  few : (mem.map Lf).sum ≤ room
  flat : ∀ a ∈ mem, Df a < 10
theorem max_of {l : List Int} {m : Int} (h : m ∈ l) (hm : ∀ y ∈ l, y ≤ m) {m' : Int} (h' : m' ∈ l) (hm' : ∀ y ∈ l, y ≤ m') : m = m' := by
  have := hm m' h'
  have := hm' m h
  omega
theorem txs_at {tx : List Str} (h : TxsOk tx) {d : Int} (d0 : 0 ≤ d) (d1 : d < 5) : ∃ t, IsTx t ∧ t ∈ tx ∧ atI (tx.map V.str) d = some (.str t) := by
  obtain ⟨k, rfl⟩ : ∃ k : Nat, d = (k : Int) := ⟨d.toNat, by omega⟩
  have hl : k < tx.length := by rw [h.1]; omega
  exact ⟨tx[k], h.2 _ (List.getElem_mem hl), List.getElem_mem hl, atI_nat (by rw [List.getElem?_map, List.getElem?_eq_getElem hl]; rfl)⟩
section
variable {P : Program} {w : World} {K : PySem.W.Frag} {mg : Str → Option Value} {base : Heap} {fDg fMe : Addr}
theorem fts_3 {dD : FuncData} {f : Addr} (T : FTxt K mg fDg fMe) (FD : FnOk P w K mg base CX0 1 fDg dD ["_law_pot_here", "_law_many"] spDigit) (bD : Binds K dD ["_law_pot_here", "_law_many"] [])
    (cdv : Value) (A0 : Around) (outer : List Env) (s : Shared) (Hs : Hp) (Es : XK) (hr : Room 2 (A0.deeper (PyProof.Rows.envOfC "_law_faults" (defScope sFts) s.heap.objs.size f cdv))) :
    ∃ t, PSs (cxOf CX0 P w K mg base nFts "_law_faults" (defScope sFts) f cdv A0 outer s Hs Es).nox (bFts.drop 3) t ∧
      ∀ (ps : List (Str × Str)) (Lf Df Nf : Nat → Nat) (H0 G H : Hp) (p X E L D M : Addr) (n0 n room : Nat) (es : List Ent) (rs : List Addr) (tx : List Str) (mem : List Nat) (z : Str) (De : Ends) (v1 v3 v4 v5 v6 v7 v11 v14 : Option V),
        PotAt H0 p n0 → FtAt ps Lf Df Nf H0 G p E L D es rs → TxsOk tx → H X = some (.lst (tx.map V.str)) → X ≠ p → n < 2 ^ 30 → es.length ≤ 400 → room ≤ 100 → MemOk Lf Df room es.length mem → KindOk ps mem z → (∃ xs, G p = some (.lst xs)) → G M = none → H M = some (.lst (memV mem)) → PotAt H p n → Keep [p] G H →
        (∀ (H' : Hp) (e : Ent) (r : Addr) (a d c : Nat), e.mem = mem → a ≤ Nat.max 1 room → FtAt ps (put Lf es.length a) (put Df es.length d) (put Nf es.length c) H0 H' p E L D (es ++ [e]) (rs ++ [r]) → PotAt H' p (n + 1) → De.nx [some (.ref p), v1, some (.ref X), v3, v4, v5, v6, v7, some (.ref E), some (.ref L), some (.ref D), v11, some (.ref M), some (.str z), v14] H') →
        t De [some (.ref p), v1, some (.ref X), v3, v4, v5, v6, v7, some (.ref E), some (.ref L), some (.ref D), v11, some (.ref M), some (.str z), v14] H := by
  have hr1 : Room 1 _ := hr.mono (by decide)
  refine ⟨_, pss_cons (ps_expr (pe_bm PySem.F.plainAttrs_list PySem.F.slot_list_append PySem.F.type_list_append mt_append (pv 8) (pa_cons (pe_lst (pa_cons (pv 13) (pa_cons (pe_ix ix_list (pv 2) (pe_call FD hr1 rfl T.gD T.kD bD .nil pass0 (pa_cons (pv 0) (pa_cons pe_int pa_nil))) (fun _ _ => rfl)) (pa_cons (pv 12) (pa_cons (pe_lst pa_nil) (pa_cons pe_non (pa_cons pe_non pa_nil))))))) pa_nil)))
    (pss_cons (ps_expr (pe_bm PySem.F.plainAttrs_list PySem.F.slot_list_append PySem.F.type_list_append mt_append (pv 9) (pa_cons (pe_callB (call_max2 rfl) (by rfl) T.max (by decide +kernel) (pa_cons pe_int (pa_cons (pe_callB (cr_sum rfl) (by rfl) T.sum (by decide +kernel) (pa_cons (pe_lc (own := [("_law_j", 14)]) (g := gName 14) (tt := tYes) (te := tOp (rIxL K) (tVar 9) (tVar 14)) rfl scFts.nd (pi_list (pv 12))
        (blkOk_by (N := nFts) (sc := defScope sFts) (by decide +kernel)) (fun _ _ _ _ _ => pg_name (i := 14) scFts.nd rfl (Or.inl rfl)) (fun _ _ _ _ _ => pts_nil) (fun _ _ _ _ _ => by exact (pe_ix ix_list (pv 9) (pv 14) (fun _ _ => rfl)))) pa_nil)) pa_nil))) pa_nil)))
    (pss_one (ps_expr (pe_bm PySem.F.plainAttrs_list PySem.F.slot_list_append PySem.F.type_list_append mt_append (pv 10) (pa_cons (pe_callBK (cr_maxD0 rfl) (by rfl) T.max (by decide +kernel) (pa_cons (pe_lc (own := [("_law_j", 14)]) (g := gName 14) (tt := tYes) (te := tOp (rI0 fun i j => .int (i + j)) (tC (.int 1)) (tOp (rIxL K) (tVar 10) (tVar 14))) rfl scFts.nd (pi_list (pv 12))
        (blkOk_by (N := nFts) (sc := defScope sFts) (by decide +kernel)) (fun _ _ _ _ _ => pg_name (i := 14) scFts.nd rfl (Or.inl rfl)) (fun _ _ _ _ _ => pts_nil) (fun _ _ _ _ _ => by exact (pe_op op_add pe_int (pe_ix ix_list (pv 10) (pv 14) (fun _ _ => rfl))))) pa_nil) (pk_cons pe_int pk_nil)) pa_nil))))), ?_⟩
  rintro ps Lf Df Nf H0 G H p X E L D M n0 n room es rs tx mem z De v1 v3 v4 v5 v6 v7 v11 v14 hp00 S htx hX nXp hn hlen h100 mo hz ⟨gx, gp⟩ hM0 hM hp k0 kk
  obtain ⟨x0, ep0⟩ := hp00.some
  have free0 : ∀ b, G b = none → H0 b = none := fun b hb => Keep.free S.keep hb (nin1 fun z => by rw [z, gp] at hb; cases hb)
  have nb : ∀ b, G b = none → b ∉ [p, E, L, D] := fun b hb z => by
    rcases (show b = p ∨ b = E ∨ b = L ∨ b = D by simpa using z) with z | z | z | z
    · rw [z, gp] at hb; cases hb
    · rw [z, S.ent] at hb; cases hb
    · rw [z, S.lvs] at hb; cases hb
    · rw [z, S.dps] at hb; cases hb
  have nEp : E ≠ p := fun z => by rw [← z, S.E0] at ep0; cases ep0
  have nLp : L ≠ p := fun z => by rw [← z, S.L0] at ep0; cases ep0
  have nDp : D ≠ p := fun z => by rw [← z, S.D0] at ep0; cases ep0
  -- the row
  refine ⟨_, rfl, .inl ⟨rfl, _, SqL.of (k0.at S.ent (nin1 nEp))⟩, _, rfl, _, rfl, _, rfl, p, n, _, rfl, hp, by omega, by decide, by decide, fun dt H5 t0 t1 hk5 hp5 => ?_⟩
  have k5 := keep_of_dig hk5
  have k05 : Keep [p] G H5 := k0.trans k5
  have nMp : M ≠ p := fun z => by rw [z, gp] at hM0; cases hM0
  have hM5 : H5 M = some (.lst (memV mem)) := k5.at hM (nin1 nMp)
  obtain ⟨x5, ep5⟩ := hp5.some
  obtain ⟨te, hte, _, ate⟩ := txs_at htx t0 (Int.lt_trans t1 (by decide))
  refine ⟨X, _, _, .str te, rfl, rfl, SqL.of (k5.at hX (nin1 nXp)), ate, ?_⟩
  refine ⟨_, rfl, Nat.zero_le _, fun N hN => ?_⟩
  refine ⟨(by show 6 ≤ sizeLine; decide), fun r hr' => ?_⟩
  have hN0 : G N = none := Keep.free k05 hN (nin1 fun z => by rw [z, ep5] at hN; cases hN)
  have hr5 : H5 r = none := Keep.free (Keep.new hN (ex := [])) hr' nin0
  have hr0 : G r = none := Keep.free k05 hr5 (nin1 fun z => by rw [z, ep5] at hr5; cases hr5)
  have kG7 : Keep [p] G (upd (upd H5 N (.lst [])) r (.lst [.str z, .str te, .ref M, .ref N, .non, .non])) := (k05.newTo hN).newTo hr'
  have p7 : PotAt (upd (upd H5 N (.lst [])) r (.lst [.str z, .str te, .ref M, .ref N, .non, .non])) p (n + 1) := hp5.keep ((Keep.new hN (ex := [])).newTo hr') nin0
  have eM7 : (upd (upd H5 N (.lst [])) r (.lst [.str z, .str te, .ref M, .ref N, .non, .non])) M = some (.lst (memV mem)) := ((Keep.new hN (ex := [])).newTo hr').at hM5 nin0
  have eN7 : (upd (upd H5 N (.lst [])) r (.lst [.str z, .str te, .ref M, .ref N, .non, .non])) N = some (.lst []) := (Keep.new hr' (ex := [])).at upd_same nin0
  have er7 : (upd (upd H5 N (.lst [])) r (.lst [.str z, .str te, .ref M, .ref N, .non, .non])) r = some (.lst [.str z, .str te, .ref M, .ref N, .non, .non]) := upd_same
  generalize (upd (upd H5 N (.lst [])) r (.lst [.str z, .str te, .ref M, .ref N, .non, .non])) = H7 at kG7 p7 eM7 eN7 er7 ⊢
  have ent7 := kG7.at S.ent (nin1 nEp)
  have lvs7 := kG7.at S.lvs (nin1 nLp)
  have dps7 := kG7.at S.dps (nin1 nDp)
  have lr := S.rows.len
  refine ⟨E, _, _, rfl, rfl, ent7, Nat.lt_of_le_of_lt (by rw [List.length_map, lr]; omega : (rs.map V.ref).length ≤ 1000) (by decide), ?_⟩
  have sub : ∀ b, b ∈ [E, L, D] → b ∈ [p, E, L, D] := fun b hb => List.mem_cons_of_mem _ hb
  have sub1 : ∀ b, b ∈ [p] → b ∈ [p, E, L, D] := fun b hb => by rw [List.mem_singleton.mp hb]; exact List.mem_cons_self
  have ns : ∀ b, G b = none → b ∉ [E, L, D] := fun b hb z => nb b hb (sub b z)
  have kE8 : Keep [E, L, D] H7 (upd H7 E (.lst (rs.map V.ref ++ [.ref r]))) := Keep.own (by simp)
  have ent8 : (upd H7 E (.lst (rs.map V.ref ++ [.ref r]))) E = some (.lst ((rs ++ [r]).map V.ref)) := by rw [upd_same, List.map_append]; rfl
  have lvs8 : (upd H7 E (.lst (rs.map V.ref ++ [.ref r]))) L = some (.lst (upto Lf es.length)) := by rw [upd_ne S.nEL.symm]; exact lvs7
  have dps8 : (upd H7 E (.lst (rs.map V.ref ++ [.ref r]))) D = some (.lst (upto Df es.length)) := by rw [upd_ne S.nED.symm]; exact dps7
  generalize (upd H7 E (.lst (rs.map V.ref ++ [.ref r]))) = H8 at kE8 ent8 lvs8 dps8 ⊢
  have eM8 := kE8.at eM7 (ns M hM0)
  have m6 := mo.six
  -- its leaves
  refine ⟨_, rfl, .inl ⟨rfl, _, SqL.of lvs8⟩, _, rfl, M, rfl, ⟨_, SqL.of eM8⟩, fun D1 hD1 => ?_⟩
  refine ints_runG (K := K) (i := 14) (fun a => (Lf a : Int)) eM8 hD1 (by omega) (fun _ => rfl) (fun a ha H' k Q' hQ' => ?_) (fun H9 e9 k9 => ?_)
  · exact ⟨_, rfl, _, rfl, L, _, _, _, rfl, rfl, SqL.of (k.at lvs8 nin0), upto_at (mo.inn a ha), hQ'⟩
  refine ⟨D1, _, rfl, SqL.of e9, _, _, rfl, ?_⟩
  have lvs9 := k9.at lvs8 nin0
  refine ⟨L, _, _, rfl, rfl, lvs9, Nat.lt_of_le_of_lt (by rw [upto_len]; omega : (upto Lf es.length).length ≤ 1000) (by decide), ?_⟩
  have ha : (if (mem.map fun a => (Lf a : Int)).sum > 1 then (mem.map fun a => (Lf a : Int)).sum else 1) = ((if mem = [] then 1 else (mem.map Lf).sum : Nat) : Int) := by
    rw [sum_cast]
    cases mem with
    | nil => simp
    | cons m q =>
      have h1 := (S.tree.pos m m (Nat.le_refl _) (mo.inn m List.mem_cons_self)).1
      have h2 : 1 ≤ ((m :: q).map Lf).sum := by
        rw [List.map_cons, List.sum_cons]
        exact Nat.le_trans h1 (Nat.le_add_right _ _)
      rw [if_neg (show ¬ (m :: q : List Nat) = [] from fun z => by cases z)]
      generalize ((m :: q).map Lf).sum = x at h2 ⊢
      split <;> omega
  rw [ha]
  have kL10 : Keep [E, L, D] H9 (upd H9 L (.lst (upto Lf es.length ++ [.int ((if mem = [] then 1 else (mem.map Lf).sum : Nat) : Int)]))) := Keep.own (by simp)
  have lvs10 : (upd H9 L (.lst (upto Lf es.length ++ [.int ((if mem = [] then 1 else (mem.map Lf).sum : Nat) : Int)]))) L = some (.lst (upto (put Lf es.length (if mem = [] then 1 else (mem.map Lf).sum)) (es.length + 1))) := by rw [upd_same, upto_put]
  have ent10 : (upd H9 L (.lst (upto Lf es.length ++ [.int ((if mem = [] then 1 else (mem.map Lf).sum : Nat) : Int)]))) E = some (.lst ((rs ++ [r]).map V.ref)) := by rw [upd_ne S.nEL]; exact k9.at ent8 nin0
  have dps10 : (upd H9 L (.lst (upto Lf es.length ++ [.int ((if mem = [] then 1 else (mem.map Lf).sum : Nat) : Int)]))) D = some (.lst (upto Df es.length)) := by rw [upd_ne S.nLD.symm]; exact k9.at dps8 nin0
  generalize (upd H9 L (.lst (upto Lf es.length ++ [.int ((if mem = [] then 1 else (mem.map Lf).sum : Nat) : Int)]))) = H10 at kL10 lvs10 ent10 dps10 ⊢
  have k710 : Keep [E, L, D] H7 H10 := (kE8.trans (k9.more fun b z => absurd z nin0)).trans kL10
  have eM10 := k710.at eM7 (ns M hM0)
  -- its depth
  refine ⟨_, rfl, .inl ⟨rfl, _, SqL.of dps10⟩, _, rfl, M, rfl, ⟨_, SqL.of eM10⟩, fun D2 hD2 => ?_⟩
  refine ints_runG (K := K) (i := 14) (fun a => 1 + (Df a : Int)) eM10 hD2 (by omega) (fun _ => rfl) (fun a ha H' k Q' hQ' => ?_) (fun H11 e11 k11 => ?_)
  · exact ⟨_, rfl, _, rfl, D, _, _, _, rfl, rfl, SqL.of (k.at dps10 nin0), upto_at (mo.inn a ha), _, _, rfl, rfl, hQ'⟩
  have dps11 := k11.at dps10 nin0
  have k711 : Keep [E, L, D] H7 H11 := k710.trans (k11.more fun b z => absurd z nin0)
  have fin : ∀ (dd : Nat), dd ≤ 15 → (mem = [] → dd = 0) → (∀ m ∈ mem, Df m + 1 ≤ dd) → (mem ≠ [] → ∃ m ∈ mem, dd = Df m + 1) → De.nx [some (.ref p), v1, some (.ref X), v3, v4, v5, v6, v7, some (.ref E), some (.ref L), some (.ref D), v11, some (.ref M), some (.str z), v14] (upd H11 D (.lst (upto Df es.length ++ [.int (dd : Int)]))) := fun dd q1 q2 q3 q4 => by
    have kD12 : Keep [E, L, D] H11 (upd H11 D (.lst (upto Df es.length ++ [.int (dd : Int)]))) := Keep.own (by simp)
    have ke := k711.trans kD12
    have ll : (es ++ [(⟨z, te, mem, [], none, none⟩ : Ent)]).length = es.length + 1 := by rw [List.length_append]; rfl
    refine kk _ ⟨z, te, mem, [], none, none⟩ r (if mem = [] then 1 else (mem.map Lf).sum) dd _ rfl ?_ ⟨by rw [upd_ne S.nED]; exact k11.at ent10 nin0, by rw [upd_ne S.nLD, ll]; exact k11.at lvs10 nin0, by rw [upd_same, ll, upto_put], S.tree.snoc (e := (⟨z, te, mem, [], none, none⟩ : Ent)) mo.inn rfl ?_ q1 q2 q3 q4,
      RowsAt.snoc (e := (⟨z, te, mem, [], none, none⟩ : Ent)) ⟨M, N, nb r hr0, nb M hM0, nb N hN0, ke.at er7 (ns r hr0), ke.at eM7 (ns M hM0), ke.at eN7 (ns N hN0)⟩ (S.rows.keep ((kG7.more sub1).trans (ke.more sub))), ?_, ?_, S.built.snoc ⟨hte, by show mem.length ≤ 101; omega, mo.inn, rfl, rfl, rfl, hz⟩, ?_, S.E0, S.L0, S.D0, S.nEL, S.nED, S.nLD⟩ (p7.keep ke (by simp [nEp.symm, nLp.symm, nDp.symm]))
    · split
      · exact Nat.le_max_left _ _
      · exact Nat.le_trans mo.few (Nat.le_max_right _ _)
    · show (if mem = [] then 1 else (mem.map Lf).sum) ≤ 101
      have := mo.few
      split <;> omega
    · refine List.nodup_append.mpr ⟨S.nd, by simp, fun a ha b hb z => ?_⟩
      obtain ⟨o, e⟩ := S.rows.is a ha
      rw [z, List.mem_singleton.mp hb, hr0] at e
      cases e
    · intro b hb
      rcases List.mem_append.mp hb with z | z
      · exact S.fresh b z
      · rw [List.mem_singleton.mp z]; exact free0 r hr0
    · refine fun b o hb e => ?_
      have e7 := (S.keep.trans kG7) b o hb e
      refine ke b o (fun z => ?_) e7
      rcases (show b = E ∨ b = L ∨ b = D by simpa using z) with z | z | z
      · rw [z, S.E0] at e; cases e
      · rw [z, S.L0] at e; cases e
      · rw [z, S.D0] at e; cases e
  have hsz : (upto Df es.length).length < sizeLine := Nat.lt_of_le_of_lt (by rw [upto_len]; omega : (upto Df es.length).length ≤ 1000) (by decide)
  refine ⟨D2, _, _, rfl, rfl, SqL.of e11, fun hnil => ?_, fun m hm1 hm2 => ?_⟩
  · have hm : mem = [] := List.map_eq_nil_iff.mp hnil
    exact ⟨D, _, _, rfl, rfl, dps11, hsz, fin 0 (by decide) (fun _ => rfl) (fun m h => by rw [hm] at h; exact absurd h List.not_mem_nil) fun h => absurd hm h⟩
  · obtain ⟨a, ha', rfl⟩ := List.mem_map.mp hm1
    have e : (1 + (Df a : Int)) = ((Df a + 1 : Nat) : Int) := by omega
    rw [e] at hm2 ⊢
    have fl := mo.flat a ha'
    exact ⟨D, _, _, rfl, rfl, dps11, hsz, fin (Df a + 1) (by omega) (fun h => by rw [h] at ha'; exact absurd ha' List.not_mem_nil) (fun m hm => by
      have := hm2 (1 + (Df m : Int)) (List.mem_map.mpr ⟨m, hm, rfl⟩)
      omega) fun _ => ⟨a, ha', rfl⟩⟩
def spFts : Sp := fun vs H Q _ => ∃ (p l X : Addr) (n mo room : Nat) (ps : List (Str × Str)) (tx : List Str), vs = [.ref p, .ref l, .ref X, .int (mo : Int), .int (room : Int)] ∧ 1 ≤ mo ∧ mo ≤ 30 ∧ 1 ≤ room ∧ room ≤ 100 ∧ PotAt H p n ∧ n < 2 ^ 29 ∧ PairsAt H l ps ∧ ps.length ≤ 100 ∧ l ≠ p ∧ TxsOk tx ∧ H X = some (.lst (tx.map V.str)) ∧ X ≠ p ∧
  ∀ (E : Addr) (rs : List Addr) (es : List Ent) (Lf Df Nf : Nat → Nat) (H' : Hp), Tree es Lf Df Nf → H E = none → (∀ r ∈ rs, H r = none) → H' E = some (.lst (rs.map V.ref)) → RowsAt [p, E] H' rs es → rs.Nodup → Built ps es → 1 ≤ es.length → es.length ≤ mo → (∀ i, i < es.length → Lf i ≤ room) → Keep [p] H H' → PotAt H' p (n + 1000) → Q (.ref E) H'
theorem ok_fts {dM dD fd : FuncData} {f : Addr} (F : Fun K "_law_faults" "_law_faults" sFts f fd) (T : FTxt K mg fDg fMe) (FM : FnOk P w K mg base CX0 2 fMe dM ["_law_pot_here", "_law_many", "_law_leaves_here", "_law_deep", "_law_room"] spMem) (bM : Binds K dM ["_law_pot_here", "_law_many", "_law_leaves_here", "_law_deep", "_law_room"] []) (FD : FnOk P w K mg base CX0 1 fDg dD ["_law_pot_here", "_law_many"] spDigit) (bD : Binds K dD ["_law_pot_here", "_law_many"] []) :
    FnOk P w K mg base CX0 3 f fd ["_law_pot_here", "_law_pairs", "_law_texts_here", "_law_most", "_law_room"] spFts := by
  refine F.ok scFts (fun vs H Q E h => ?_) (fun cdv A0 outer s H vs Q Es hr h => ?_)
  · obtain ⟨p, l, X, n, mo, room, ps, tx, rfl, _⟩ := h
    rfl
  · obtain ⟨p, l, X, n, mo, room, ps, tx, rfl, m1, m30, r1, r100, hp, hn, hl, hps, nlp, htx, hX, nXp, kk⟩ := h
    obtain ⟨t3, h3, r3⟩ := fts_3 (P := P) (w := w) (base := base) T FD bD cdv A0 outer s H Es hr
    have hr1 : Room 1 _ := hr.mono (by decide)
    refine ⟨_, pss_cons (ps_set (i := 5) scFts.nd rfl (Or.inl rfl) (pe_op op_cat (pe_lst (pa_cons pe_str pa_nil)) (pe_lc (own := [("_law_name_here", 6), ("_law_above", 7)]) (g := gTup K 2 (gCons (gName 6) (gCons (gName 7) gNil))) (tt := tYes) (te := tVar 6) rfl scFts.nd (pi_list (pv 1))
          (blkOk_by (N := nFts) (sc := defScope sFts) (by decide +kernel)) (fun _ _ _ _ _ => by exact (pg_tup rfl (pgs_cons (pg_name (i := 6) scFts.nd rfl (Or.inl rfl)) (pgs_cons (pg_name (i := 7) scFts.nd rfl (Or.inl rfl)) pgs_nil)))) (fun _ _ _ _ _ => pts_nil) (fun _ _ _ _ _ => pv 6))))
      (pss_cons (ps_set (i := 8) scFts.nd rfl (Or.inl rfl) (pe_lst pa_nil))
      (pss_cons (ps_set (i := 9) scFts.nd rfl (Or.inr rfl) (pe_lst pa_nil))
      (pss_cons (ps_set (i := 10) scFts.nd rfl (Or.inr rfl) (pe_lst pa_nil))
      (pss_cons (ps_for PassesOwn.never rfl (pi_range1 rfl T.range (pa_cons (pe_op op_add pe_int (pe_call FD hr1 rfl T.gD T.kD bD .nil pass0 (pa_cons (pv 0) (pa_cons (pv 3) pa_nil)))) pa_nil)) (pg_name (i := 11) scFts.nd rfl (Or.inl rfl))
        (pss_cons (ps_set (i := 12) scFts.nd rfl (Or.inl rfl) (pe_lst pa_nil))
        (pss_cons (ps_set (i := 13) scFts.nd rfl (Or.inl rfl) (pe_ix ix_list (pv 5) (pe_call FD hr1 rfl T.gD T.kD bD .nil pass0 (pa_cons (pv 0) (pa_cons (pe_callB call_len_seq (by rfl) T.len PySem.boot_len (pa_cons (pv 5) pa_nil)) pa_nil))) (fun _ _ => rfl)))
        (pss_cons (ps_if (PW.pt (pw_and (pt_cmpR op_gt (pv 11) pe_int (nomark _)) (pw_and1 (pt_cmpR op_gt (pe_call FD hr1 rfl T.gD T.kD bD .nil pass0 (pa_cons (pv 0) (pa_cons pe_int pa_nil))) pe_int (nomark _)))))
          (pss_cons (ps_set (i := 12) scFts.nd rfl (Or.inl rfl) (pe_call FM hr rfl T.gM T.kM bM .nil pass0 (pa_cons (pv 0) (pa_cons (pv 11) (pa_cons (pv 9) (pa_cons (pv 10) (pa_cons (pv 4) pa_nil)))))))
          (pss_one (ps_set (i := 13) scFts.nd rfl (Or.inl rfl) pe_str))) pss_nil) h3))))
      (pss_one (ps_ret (pv 8))))))), ?_⟩
    obtain ⟨x0, ep0⟩ := hp.some
    -- sorts
    refine ⟨(by show 1 ≤ sizeLine; decide), fun a ha => ?_⟩
    have h1 : PairsAt (upd H a (.lst [.str sF])) l ps := hl.keep (ex := []) (Keep.new ha) nin0 (fun _ z => absurd z nin0)
    obtain ⟨xs, el⟩ := h1.some
    refine ⟨_, rfl, l, rfl, ⟨_, SqL.of el⟩, fun D' hD' => ?_⟩
    refine names_run (K := K) (i := 6) (j := 7) h1 hD' (by omega) (fun _ _ => rfl) (fun _ _ => rfl) fun H1 e1 k1 => ?_
    have ea : H1 a = some (.lst [.str sF]) := k1.at upd_same nin0
    refine ⟨a, D', _, _, rfl, rfl, ea, e1, ?_, fun S hS => ?_⟩
    · show ([V.str sF] : List V).length + _ ≤ sizeLine
      rw [List.length_map, List.length_map]
      exact Nat.le_trans (by show 1 + ps.length ≤ 1000; omega) (by decide)
    have kS : Keep [] H (upd H1 S (.lst ([V.str sF] ++ (ps.map Prod.fst).map V.str))) := ((Keep.new ha).trans k1).newTo hS
    have eS : (upd H1 S (.lst ([V.str sF] ++ (ps.map Prod.fst).map V.str))) S = some (.lst ((sF :: ps.map Prod.fst).map V.str)) := upd_same
    have hS0 : H S = none := Keep.free ((Keep.new ha (ex := [])).trans k1) hS nin0
    generalize (upd H1 S (.lst ([V.str sF] ++ (ps.map Prod.fst).map V.str))) = H2 at kS eS ⊢
    have nSp : S ≠ p := fun z => by rw [← z, hS0] at ep0; cases ep0
    refine ⟨Nat.zero_le _, fun E hE => ?_⟩
    refine ⟨Nat.zero_le _, fun L hL => ?_⟩
    refine ⟨Nat.zero_le _, fun D hD => ?_⟩
    have k3 : Keep [] H2 (upd (upd (upd H2 E (.lst [])) L (.lst [])) D (.lst [])) := ((Keep.new hE).newTo hL).newTo hD
    have eE : (upd (upd (upd H2 E (.lst [])) L (.lst [])) D (.lst [])) E = some (.lst []) := ((Keep.new hL (ex := [])).newTo hD).at upd_same nin0
    have eL : (upd (upd (upd H2 E (.lst [])) L (.lst [])) D (.lst [])) L = some (.lst []) := (Keep.new hD (ex := [])).at upd_same nin0
    have eD : (upd (upd (upd H2 E (.lst [])) L (.lst [])) D (.lst [])) D = some (.lst []) := upd_same
    have nEL : E ≠ L := ne_of_none (show upd H2 E (.lst []) E = some (.lst []) from upd_same) hL
    have nED : E ≠ D := ne_of_none ((Keep.new hL (ex := [])).at (show upd H2 E (.lst []) E = some (.lst []) from upd_same) nin0) hD
    have nLD : L ≠ D := ne_of_none (show upd (upd H2 E (.lst [])) L (.lst []) L = some (.lst []) from upd_same) hD
    have hL0 : H2 L = none := Keep.free (Keep.new hE (ex := [])) hL nin0
    have hD0 : H2 D = none := Keep.free ((Keep.new hE (ex := [])).newTo hL) hD nin0
    have pS := hp.keep kS nin0
    have epS := kS.at ep0 nin0
    have nSE : S ≠ E := ne_of_none eS hE
    have nSL : S ≠ L := ne_of_none ((Keep.new hE (ex := [])).at eS nin0) hL
    have nSD : S ≠ D := ne_of_none (((Keep.new hE (ex := [])).newTo hL).at eS nin0) hD
    generalize (upd (upd (upd H2 E (.lst [])) L (.lst [])) D (.lst [])) = H3 at k3 eE eL eD ⊢
    have kH3 := kS.trans k3
    refine ⟨_, rfl, _, rfl, p, n, mo, rfl, hp.keep kH3 nin0, by omega, by omega, by omega, fun d H4 d0 d1 hk4 hp4 => ?_⟩
    have k4 := keep_of_dig hk4
    have nEp : E ≠ p := fun z => by rw [← z, hE] at epS; cases epS
    have nLp : L ≠ p := fun z => by rw [← z, hL0] at epS; cases epS
    have nDp : D ≠ p := fun z => by rw [← z, hD0] at epS; cases epS
    refine ⟨_, _, rfl, rfl, _, rfl, by omega, by omega, ?_⟩
    obtain ⟨m, hm⟩ : ∃ m : Nat, (1 + d : Int) = (m : Int) := ⟨(1 + d).toNat, by omega⟩
    have em : (1 + d : Int).toNat = m := by omega
    rw [em]
    have S0 : FtAt ps (fun _ => 0) (fun _ => 0) (fun _ => 0) H2 H4 p E L D [] [] := ⟨k4.at eE (nin1 nEp), k4.at eL (nin1 nLp), k4.at eD (nin1 nDp), .nil, True.intro, List.nodup_nil, (fun r h => absurd h List.not_mem_nil), (fun i e h => by simp at h), (k3.more fun b z => absurd z nin0).trans k4, hE, hL0, hD0, nEL, nED, nLD⟩
    refine for_range (lo := 0) (n := m) (fun i σ G => ∃ (v6 v7 v11 v12 v13 v14 : Option V) (es : List Ent) (rs : List Addr) (Lf Df Nf : Nat → Nat), σ = [some (.ref p), some (.ref l), some (.ref X), some (.int (mo : Int)), some (.int (room : Int)), some (.ref S), v6, v7, some (.ref E), some (.ref L), some (.ref D), v11, v12, v13, v14] ∧ FtAt ps Lf Df Nf H2 G p E L D es rs ∧ es.length = i ∧ (∀ i, i < es.length → Lf i ≤ room) ∧ G S = some (.lst ((sF :: ps.map Prod.fst).map V.str)) ∧ PotAt G p (n + 1 + 25 * i))
      ⟨none, none, none, none, none, none, [], [], _, _, _, rfl, S0, rfl, (fun i h => absurd h (Nat.not_lt_zero _)), k4.at (k3.at eS nin0) (nin1 nSp), hp4⟩ ?_ ?_
    · rintro i σ G hi ⟨v6, v7, v11, v12, v13, v14, es, rs, Lf, Df, Nf, rfl, F', hl', hlf, eSG, pot⟩
      obtain ⟨gx, gp⟩ := pot.some
      refine ⟨Nat.zero_le _, fun N hN => ?_⟩
      have kN : Keep [] G (upd G N (.lst [])) := Keep.new hN
      have eN : (upd G N (.lst [])) N = some (.lst (memV [])) := upd_same
      generalize (upd G N (.lst [])) = G1 at kN eN ⊢
      have pot1 := pot.keep kN nin0
      have nNp : N ≠ p := Ne.symm (ne_of_none gp hN)
      -- the kind
      refine ⟨_, rfl, _, rfl, _, rfl, S, _, rfl, .inl (SqL.of (kN.at eSG nin0)), p, _, _, rfl, pot1, by omega, ?_, ?_, fun c G2 c0 c1 hk2 pot2 => ?_⟩
      · rw [List.length_map, List.length_cons]; omega
      · rw [List.length_map, List.length_cons, List.length_map]; omega
      rw [List.length_map] at c1
      obtain ⟨z, hz, hz2, hz3⟩ := digit_in (l := sF :: ps.map Prod.fst) c0 c1
      have k2 := keep_of_dig hk2
      have eS2 := k2.at (kN.at eSG nin0) (nin1 nSp)
      refine ⟨S, _, c, .str z, rfl, rfl, SqL.of eS2, ?_, ?_⟩
      · rw [← hz3]
        exact atI_nat (by rw [List.getElem?_map, hz2]; rfl)
      have kG2 : Keep [p] G G2 := (kN.more fun b z => absurd z nin0).trans k2
      -- on to the row
      have hX2 : ∀ {G' : Hp}, Keep [p] G G' → G' X = some (.lst (tx.map V.str)) := fun k => (F'.keep.trans k).at (kS.at hX nin0) (nin1 nXp)
      have go : ∀ (M : Addr) (mem : List Nat) (zk : Str) (G3 : Hp) (De : Ends), MemOk Lf Df room es.length mem → KindOk ps mem zk → G M = none → G3 M = some (.lst (memV mem)) → Keep [p] G G3 → PotAt G3 p (n + 1 + 25 * i + 22) → (∀ σ H', (∃ (v6 v7 v11 v12 v13 v14 : Option V) (es : List Ent) (rs : List Addr) (Lf Df Nf : Nat → Nat), σ = [some (.ref p), some (.ref l), some (.ref X), some (.int (mo : Int)), some (.int (room : Int)), some (.ref S), v6, v7, some (.ref E), some (.ref L), some (.ref D), v11, v12, v13, v14] ∧ FtAt ps Lf Df Nf H2 H' p E L D es rs ∧ es.length = i + 1 ∧ (∀ i, i < es.length → Lf i ≤ room) ∧ H' S = some (.lst ((sF :: ps.map Prod.fst).map V.str)) ∧ PotAt H' p (n + 1 + 25 * (i + 1))) → De.nx σ H') →
          t3 De [some (.ref p), some (.ref l), some (.ref X), some (.int (mo : Int)), some (.int (room : Int)), some (.ref S), v6, v7, some (.ref E), some (.ref L), some (.ref D), some (.int (0 + (i : Int))), some (.ref M), some (.str zk), v14] G3 := fun M mem zk G3 De mk hk hM0 eM kM pM fin => by
        refine r3 ps Lf Df Nf H2 G G3 p X E L D M n _ room es rs tx mem zk De _ _ _ _ _ _ _ _ pS F' htx (hX2 kM) nXp (by omega) (by omega) r100 mk hk ⟨gx, gp⟩ hM0 eM pM kM fun H' e r a d c hem ha S' pot' => fin _ _ ?_
        refine ⟨_, _, _, _, _, _, _, _, _, _, _, rfl, S', by rw [List.length_append, hl']; rfl, fun j hj => ?_, ?_, pot'.le (by omega)⟩
        · rw [List.length_append] at hj
          have hj : j < es.length + 1 := hj
          by_cases q : j = es.length
          · rw [q, put_same]
            exact Nat.le_trans ha (Nat.max_le.mpr ⟨r1, Nat.le_refl _⟩)
          · rw [put_old (by omega)]
            exact hlf j (by omega)
        · exact S'.keep.at eS (nin1 nSp)
      have ei : (0 : Int) + (i : Int) = (i : Int) := Int.zero_add _
      have flatK : ∀ zk, zk ∈ sF :: ps.map Prod.fst → KindOk ps [] zk := fun zk h => ⟨fun _ => h, fun h => absurd rfl h⟩
      have noM : MemOk Lf Df room es.length [] := ⟨Nat.zero_le _, (fun a h => absurd h List.not_mem_nil), Nat.zero_le _, (fun a h => absurd h List.not_mem_nil)⟩
      refine ⟨_, rfl, _, _, rfl, rfl, _, rfl, ?_⟩
      refine ite2 (fun hp0 => ?_) (fun _ => go N [] z G2 _ noM (flatK z hz) hN (k2.at eN (nin1 nNp)) kG2 (pot2.le (by omega)) fun _ _ h => h)
      have hi0 : (0 : Int) < 0 + (i : Int) := of_decide_eq_true hp0
      refine ⟨_, rfl, p, _, _, rfl, pot2, by omega, by decide, by decide, fun b G3 b0 b1 hk3 pot3 => ?_⟩
      have k3' := keep_of_dig hk3
      have kG3 := kG2.trans k3'
      refine ⟨_, _, rfl, rfl, _, rfl, ?_⟩
      refine ite2 (fun _ => ?_) (fun _ => go N [] z G3 _ noM (flatK z hz) hN (k3'.at (k2.at eN (nin1 nNp)) (nin1 nNp)) kG3 (pot3.le (by omega)) fun _ _ h => h)
      have t0 : ∃ e0, es[0]? = some e0 := ⟨_, List.getElem?_eq_getElem (by omega)⟩
      obtain ⟨e0, he0⟩ := t0
      have m0 : e0.mem = [] := by
        cases q : e0.mem with
        | nil => rfl
        | cons x r =>
          have := F'.tree.back 0 e0 he0 x (by rw [q]; exact List.mem_cons_self)
          omega
      obtain ⟨l0, _, df0⟩ := F'.tree.leaf 0 e0 he0 m0
      refine ⟨_, rfl, _, rfl, _, rfl, _, rfl, _, rfl, p, L, D, _, i, room, Lf, Df, by rw [ei]; rfl, by omega, by omega, r1, r100, pot3, by omega, nLp, nDp, by rw [← hl']; exact kG3.at F'.lvs (nin1 nLp), by rw [← hl']; exact kG3.at F'.dps (nin1 nDp), l0, df0, fun M mem G4 hM eM hne h6 hin hsum hfl k4 pot4 => ?_⟩
      have obtain_p := pot3.some
      refine go M mem sS G4 _ ⟨h6, by rw [hl']; exact hin, hsum, hfl⟩ ⟨fun h => absurd h hne, fun _ => rfl⟩ (Keep.free kG3 hM (nin1 fun z => by obtain ⟨_, e⟩ := obtain_p; rw [z, e] at hM; cases hM)) eM (kG3.trans k4) (pot4.le (by omega)) fun _ _ h => h
    · rintro σ G ⟨v6, v7, v11, v12, v13, v14, es, rs, Lf, Df, Nf, rfl, F', hl', hlf, eSG, pot⟩
      exact ⟨_, rfl, kk E rs es Lf Df Nf G F'.tree (Keep.free kS hE nin0) (fun r hr => Keep.free kS (F'.fresh r hr) nin0) F'.ent (F'.rows.less fun b hb => by simp at hb ⊢; rcases hb with z | z <;> simp [z]) F'.nd F'.built (by omega) (by omega) hlf ((kS.more fun b z => absurd z nin0).trans F'.keep) (pot.le (by omega))⟩
end
end Fs
/-! A tower, a row, some. -/
namespace Fs
open PySem L2 TL
abbrev sTow : Stmt := top 38 --def _law_tower
abbrev sRowL : Stmt := top 39 --def _law_row
abbrev sSome : Stmt := top 40 --def _law_some
abbrev nTow : List Str := ["_law_pot_here", "_law_pairs", "_law_texts_here", "_law_many", "_law_faults_here", "_law_k", "_law_members_here"]
abbrev nRowL : List Str := ["_law_pot_here", "_law_pairs", "_law_texts_here", "_law_many", "_law_sorts", "_law_name_here", "_law_above", "_law_faults_here", "_law_k"]
abbrev nSome : List Str := ["_law_pot_here", "_law_pairs", "_law_texts_here", "_law_most", "_law_room", "_law_way"]
theorem scTow : FnScope nTow ["_law_pot_here", "_law_pairs", "_law_texts_here", "_law_many"] (defScope sTow) := ⟨rfl, rfl, rfl, by decide +kernel, rfl, by decide +kernel, by decide +kernel⟩
theorem scRowL : FnScope nRowL ["_law_pot_here", "_law_pairs", "_law_texts_here", "_law_many"] (defScope sRowL) := ⟨rfl, rfl, rfl, by decide +kernel, rfl, by decide +kernel, by decide +kernel⟩
theorem scSome : FnScope nSome ["_law_pot_here", "_law_pairs", "_law_texts_here", "_law_most", "_law_room"] (defScope sSome) := ⟨rfl, rfl, rfl, by decide +kernel, rfl, by decide +kernel, by decide +kernel⟩
/-- the faults so far -/
structure FaAt (ps : List (Str × Str)) (Lf Df Nf : Nat → Nat) (H0 H : Hp) (p E : Addr) (es : List Ent) (rs : List Addr) : Prop where
  ent : H E = some (.lst (rs.map V.ref))
  tree : Tree es Lf Df Nf
  rows : RowsAt [p, E] H rs es
  nd : rs.Nodup
  fresh : ∀ r ∈ rs, H0 r = none
  built : Built ps es
  keep : Keep [p] H0 H
  E0 : H0 E = none
theorem Tree.low {es : List Ent} {Lf Df Nf : Nat → Nat} (T : Tree es Lf Df Nf) : ∀ n i, i ≤ n → i < es.length → Df i ≤ i := by
  intro n
  induction n with
  | zero =>
    intro i hi hl
    have he := List.getElem?_eq_getElem hl
    generalize es[i] = e at he
    by_cases q : e.mem = []
    · rw [(T.leaf i e he q).2.2]; exact Nat.zero_le _
    · obtain ⟨_, _, _, m, hm, _⟩ := T.nest i e he q
      have := T.back i e he m hm
      omega
  | succ n ih =>
    intro i hi hl
    have he := List.getElem?_eq_getElem hl
    generalize es[i] = e at he
    by_cases q : e.mem = []
    · rw [(T.leaf i e he q).2.2]; exact Nat.zero_le _
    · obtain ⟨_, _, _, m, hm, hd⟩ := T.nest i e he q
      have := T.back i e he m hm
      have := ih m (by omega) (by omega)
      omega
theorem FaAt.keep0 {ps : List (Str × Str)} {Lf Df Nf : Nat → Nat} {H0 H H' : Hp} {p E : Addr} {es : List Ent} {rs : List Addr} (S : FaAt ps Lf Df Nf H0 H p E es rs) (k : Keep [p] H H') (nEp : E ≠ p) : FaAt ps Lf Df Nf H0 H' p E es rs :=
  ⟨k.at S.ent (nin1 nEp), S.tree, S.rows.keep (k.more fun b hb => by rw [List.mem_singleton.mp hb]; exact List.mem_cons_self), S.nd, S.fresh, S.built, S.keep.trans k, S.E0⟩
/-- one more -/
theorem FaAt.app {ps : List (Str × Str)} {Lf Df Nf : Nat → Nat} {H0 H H' : Hp} {p E M N r : Addr} {es : List Ent} {rs : List Addr} {z te : Str} {mem : List Nat} {a d : Nat} (S : FaAt ps Lf Df Nf H0 H p E es rs) (hp : ∃ xs, H p = some (.lst xs)) (k : Keep [p] H H') (hM : H M = none) (hN : H N = none) (hr : H r = none)
    (eM : H' M = some (.lst (memV mem))) (eN : H' N = some (.lst [])) (er : H' r = some (.lst [.str z, .str te, .ref M, .ref N, .non, .non])) (hte : IsTx te) (hl : mem.length ≤ 101) (hz : KindOk ps mem z)
    (hb : ∀ m ∈ mem, m < es.length) (ha : a = (if mem = [] then 1 else (mem.map Lf).sum)) (h101 : a ≤ 101) (hd : d ≤ 15) (hd0 : mem = [] → d = 0) (hd1 : ∀ m ∈ mem, Df m + 1 ≤ d) (hd2 : mem ≠ [] → ∃ m ∈ mem, d = Df m + 1) :
    FaAt ps (put Lf es.length a) (put Df es.length d) (put Nf es.length (if mem = [] then 1 else 1 + (mem.map Nf).sum)) H0 (upd H' E (.lst (rs.map V.ref ++ [.ref r]))) p E (es ++ [⟨z, te, mem, [], none, none⟩]) (rs ++ [r]) := by
  obtain ⟨gx, gp⟩ := hp
  have free0 : ∀ b, H b = none → H0 b = none := fun b hb => Keep.free S.keep hb (nin1 fun z => by rw [z, gp] at hb; cases hb)
  have nb : ∀ b, H b = none → b ∉ [p, E] := fun b hb z => by
    rcases (show b = p ∨ b = E by simpa using z) with z | z
    · rw [z, gp] at hb; cases hb
    · rw [z, S.ent] at hb; cases hb
  have kE : Keep [p, E] H' (upd H' E (.lst (rs.map V.ref ++ [.ref r]))) := Keep.own (by simp)
  have k2 : Keep [p, E] H H' := k.more fun b hb => by rw [List.mem_singleton.mp hb]; exact List.mem_cons_self
  refine ⟨by rw [upd_same, List.map_append]; rfl, S.tree.snoc (e := (⟨z, te, mem, [], none, none⟩ : Ent)) hb ha h101 hd hd0 hd1 hd2, RowsAt.snoc (e := (⟨z, te, mem, [], none, none⟩ : Ent)) ⟨M, N, nb r hr, nb M hM, nb N hN, kE.at er (nb r hr), kE.at eM (nb M hM), kE.at eN (nb N hN)⟩ (S.rows.keep (k2.trans kE)), ?_, ?_, S.built.snoc ⟨hte, hl, hb, rfl, rfl, rfl, hz⟩, (S.keep.trans k).freshTo S.E0, S.E0⟩
  · refine List.nodup_append.mpr ⟨S.nd, by simp, fun a ha b hb z => ?_⟩
    obtain ⟨o, e⟩ := S.rows.is a ha
    rw [z, List.mem_singleton.mp hb, hr] at e
    cases e
  · intro b hb
    rcases List.mem_append.mp hb with z | z
    · exact S.fresh b z
    · rw [List.mem_singleton.mp z]; exact free0 r hr
/-- faults as some draws them -/
def spSomeG (vs : List V) (H : Hp) (Q : VK) (hv : Addr → Addr → Addr → Prop) (most lv dd nb nc : Nat) : Prop := ∃ (p l X : Addr) (n : Nat) (ps : List (Str × Str)) (tx : List Str), hv p l X ∧ PotAt H p n ∧ n < 2 ^ nb ∧ PairsAt H l ps ∧ ps.length ≤ 100 ∧ l ≠ p ∧ TxsOk tx ∧ H X = some (.lst (tx.map V.str)) ∧ X ≠ p ∧
  ∀ (E : Addr) (rs : List Addr) (es : List Ent) (Lf Df Nf : Nat → Nat) (H' : Hp), FaAt ps Lf Df Nf H H' p E es rs → 1 ≤ es.length → es.length ≤ most → (∀ i, i < es.length → Lf i ≤ lv ∧ Df i ≤ dd) → PotAt H' p (n + nc) → Q (.ref E) H'
section
variable {P : Program} {w : World} {K : PySem.W.Frag} {mg : Str → Option Value} {base : Heap} {fDg fFt fTo fRo : Addr}
abbrev bTow : List Stmt := inFor ((defBody sTow).getD 1 (.Pass ⟨0, 0, 0, 0⟩))
theorem tow_2 {dD : FuncData} {f : Addr} (FD : FnOk P w K mg base CX0 1 fDg dD ["_law_pot_here", "_law_many"] spDigit) (gD : mg "_law_digit" = some (.ref fDg)) (kD : PySem.W.keepIn K (.ref fDg) = true) (bD : Binds K dD ["_law_pot_here", "_law_many"] [])
    (cdv : Value) (A0 : Around) (outer : List Env) (s : Shared) (Hs : Hp) (Es : XK) (hr1 : Room 1 (A0.deeper (PyProof.Rows.envOfC "_law_tower" (defScope sTow) s.heap.objs.size f cdv))) :
    ∃ t, PSs (cxOf CX0 P w K mg base nTow "_law_tower" (defScope sTow) f cdv A0 outer s Hs Es).nox (bTow.drop 2) t ∧
      ∀ (ps : List (Str × Str)) (Lf Df Nf : Nat → Nat) (H0 Gs G : Hp) (p X E M : Addr) (n a d : Nat) (es : List Ent) (rs : List Addr) (tx : List Str) (mem : List Nat) (De : Ends) (v1 v3 v5 : Option V),
        FaAt ps Lf Df Nf H0 Gs p E es rs → TxsOk tx → G X = some (.lst (tx.map V.str)) → X ≠ p → E ≠ p → n < 2 ^ 30 → es.length ≤ 400 → mem ≠ [] → mem.length ≤ 2 → (∀ m ∈ mem, m < es.length) → a = (mem.map Lf).sum → a ≤ 101 → d ≤ 15 → (∀ m ∈ mem, Df m + 1 ≤ d) → (∃ m ∈ mem, d = Df m + 1) → (∃ xs, Gs p = some (.lst xs)) → Gs M = none → G M = some (.lst (memV mem)) → PotAt G p n → Keep [p] Gs G →
        (∀ (H' : Hp) (te : Str) (r : Addr) (c : Nat), FaAt ps (put Lf es.length a) (put Df es.length d) (put Nf es.length c) H0 H' p E (es ++ [⟨sS, te, mem, [], none, none⟩]) (rs ++ [r]) → PotAt H' p (n + 1) → De.nx [some (.ref p), v1, some (.ref X), v3, some (.ref E), v5, some (.ref M)] H') →
        t De [some (.ref p), v1, some (.ref X), v3, some (.ref E), v5, some (.ref M)] G := by
  refine ⟨_, pss_one (ps_expr (pe_bm PySem.F.plainAttrs_list PySem.F.slot_list_append PySem.F.type_list_append mt_append (pv 4) (pa_cons (pe_lst (pa_cons pe_str (pa_cons (pe_ix ix_list (pv 2) (pe_call FD hr1 rfl gD kD bD .nil pass0 (pa_cons (pv 0) (pa_cons pe_int pa_nil))) (fun _ _ => rfl)) (pa_cons (pv 6) (pa_cons (pe_lst pa_nil) (pa_cons pe_non (pa_cons pe_non pa_nil))))))) pa_nil))), ?_⟩
  rintro ps Lf Df Nf H0 Gs G p X E M n a d es rs tx mem De v1 v3 v5 S htx hX nXp nEp hn hlen hne h2 hin ha h101 hd hd1 hd2 ⟨gx, gp⟩ hM0 hM hp k0 kk
  have nMp : M ≠ p := fun z => by rw [z, gp] at hM0; cases hM0
  refine ⟨_, rfl, .inl ⟨rfl, _, SqL.of (k0.at S.ent (nin1 nEp))⟩, _, rfl, _, rfl, p, n, _, rfl, hp, by omega, by decide, by decide, fun dt H5 t0 t1 hk5 hp5 => ?_⟩
  have k5 := keep_of_dig hk5
  have k05 : Keep [p] Gs H5 := k0.trans k5
  have hM5 := k5.at hM (nin1 nMp)
  obtain ⟨x5, ep5⟩ := hp5.some
  obtain ⟨te, hte, _, ate⟩ := txs_at htx t0 (Int.lt_trans t1 (by decide))
  refine ⟨X, _, _, .str te, rfl, rfl, SqL.of (k5.at hX (nin1 nXp)), ate, ?_⟩
  refine ⟨_, rfl, Nat.zero_le _, fun N hN => ?_⟩
  refine ⟨(by show 6 ≤ sizeLine; decide), fun r hr' => ?_⟩
  have hN0 : Gs N = none := Keep.free k05 hN (nin1 fun z => by rw [z, ep5] at hN; cases hN)
  have hr5 : H5 r = none := Keep.free (Keep.new hN (ex := [])) hr' nin0
  have hr0 : Gs r = none := Keep.free k05 hr5 (nin1 fun z => by rw [z, ep5] at hr5; cases hr5)
  have k7 : Keep [] H5 (upd (upd H5 N (.lst [])) r (.lst [.str sS, .str te, .ref M, .ref N, .non, .non])) := (Keep.new hN).newTo hr'
  have eN7 : (upd (upd H5 N (.lst [])) r (.lst [.str sS, .str te, .ref M, .ref N, .non, .non])) N = some (.lst []) := (Keep.new hr' (ex := [])).at upd_same nin0
  have er7 : (upd (upd H5 N (.lst [])) r (.lst [.str sS, .str te, .ref M, .ref N, .non, .non])) r = some (.lst [.str sS, .str te, .ref M, .ref N, .non, .non]) := upd_same
  generalize (upd (upd H5 N (.lst [])) r (.lst [.str sS, .str te, .ref M, .ref N, .non, .non])) = H7 at k7 eN7 er7 ⊢
  have k07 := k05.trans (k7.more fun b z => absurd z nin0)
  have lr := S.rows.len
  refine ⟨E, _, _, rfl, rfl, k07.at S.ent (nin1 nEp), Nat.lt_of_le_of_lt (by rw [List.length_map, lr]; omega : (rs.map V.ref).length ≤ 1000) (by decide), ?_⟩
  exact kk _ te r _ (S.app ⟨_, gp⟩ k07 hM0 hN0 hr0 (k7.at hM5 nin0) eN7 er7 hte (by omega) ⟨fun h => absurd h hne, fun _ => rfl⟩ hin (by rw [if_neg hne]; exact ha) h101 hd (fun h => absurd h hne) hd1 fun _ => hd2) ((hp5.keep k7 nin0).keep (ex := [E]) (Keep.own in1) (nin1 nEp.symm))
def spTow : Sp := fun vs H Q _ => ∃ mo : Nat, mo ≤ 11 ∧ spSomeG vs H Q (fun p l X => vs = [.ref p, .ref l, .ref X, .int (mo : Int)]) 15 17 14 28 2000
theorem ok_tow {dD dF fd : FuncData} {f : Addr} (F : Fun K "_law_tower" "_law_tower" sTow f fd) (FD : FnOk P w K mg base CX0 1 fDg dD ["_law_pot_here", "_law_many"] spDigit) (gD : mg "_law_digit" = some (.ref fDg)) (kD : PySem.W.keepIn K (.ref fDg) = true) (bD : Binds K dD ["_law_pot_here", "_law_many"] [])
    (FF : FnOk P w K mg base CX0 3 fFt dF ["_law_pot_here", "_law_pairs", "_law_texts_here", "_law_most", "_law_room"] spFts) (gF : mg "_law_faults" = some (.ref fFt)) (kF : PySem.W.keepIn K (.ref fFt) = true) (bF : Binds K dF ["_law_pot_here", "_law_pairs", "_law_texts_here", "_law_most", "_law_room"] []) (mL : mg "len" = none) (mR : mg "range" = none) :
    FnOk P w K mg base CX0 4 f fd ["_law_pot_here", "_law_pairs", "_law_texts_here", "_law_many"] spTow := by
  refine F.ok scTow (fun vs H Q E h => ?_) (fun cdv A0 outer s H vs Q Es hr h => ?_)
  · obtain ⟨mo, _, p, l, X, n, ps, tx, rfl, _⟩ := h
    rfl
  · obtain ⟨mo, hmo, p, l, X, n, ps, tx, rfl, hp, hn, hl, hps, nlp, htx, hX, nXp, kk⟩ := h
    have hr1 : Room 1 _ := hr.mono (by decide)
    obtain ⟨t2, h2, r2⟩ := tow_2 (P := P) (w := w) (base := base) FD gD kD bD cdv A0 outer s H Es hr1
    refine ⟨_, pss_cons (ps_set (i := 4) scTow.nd rfl (Or.inl rfl) (pe_call FF hr rfl gF kF bF .nil pass0 (pa_cons (pv 0) (pa_cons (pv 1) (pa_cons (pv 2) (pa_cons pe_int (pa_cons pe_int pa_nil)))))))
      (pss_cons (ps_for PassesOwn.never rfl (pi_range1 rfl mR (pa_cons (pv 3) pa_nil)) (pg_name (i := 5) scTow.nd rfl (Or.inl rfl))
        (pss_cons (ps_set (i := 6) scTow.nd rfl (Or.inl rfl) (pe_lst (pa_cons (pe_op op_sub (pe_callB call_len_seq (by rfl) mL PySem.boot_len (pa_cons (pv 4) pa_nil)) pe_int) pa_nil)))
        (pss_cons (ps_if (pt_cmpR op_eq (pe_call FD hr1 rfl gD kD bD .nil pass0 (pa_cons (pv 0) (pa_cons pe_int pa_nil))) pe_int (nomark _))
          (pss_one (ps_expr (pe_bm PySem.F.plainAttrs_list PySem.F.slot_list_insert PySem.F.type_list_insert mt_insert (pv 6) (pa_cons (pe_call FD hr1 rfl gD kD bD .nil pass0 (pa_cons (pv 0) (pa_cons pe_int pa_nil))) (pa_cons pe_int pa_nil))))) pss_nil)
        h2)))
      (pss_one (ps_ret (pv 4)))), ?_⟩
    refine ⟨_, rfl, _, rfl, _, rfl, p, l, X, n, 3, 6, ps, tx, rfl, by decide, by decide, by decide, by decide, hp, by omega, hl, hps, nlp, htx, hX, nXp, fun E rs es Lf Df Nf H1 tree hE hrs eE rows nd B h1 h3 hlf k1 pot1 => ?_⟩
    obtain ⟨x0, ep0⟩ := hp.some
    have nEp : E ≠ p := fun z => by rw [z, ep0] at hE; cases hE
    refine ⟨_, rfl, _, rfl, by omega, by omega, ?_⟩
    rw [Int.toNat_natCast]
    refine for_range (lo := 0) (n := mo) (fun i σ G => ∃ (v5 v6 : Option V) (es : List Ent) (rs : List Addr) (Lf Df Nf : Nat → Nat), σ = [some (.ref p), some (.ref l), some (.ref X), some (.int (mo : Int)), some (.ref E), v5, v6] ∧ FaAt ps Lf Df Nf H G p E es rs ∧ 1 ≤ es.length ∧ es.length ≤ 3 + i ∧ (∀ j, j < es.length → Lf j ≤ 6 + i) ∧ PotAt G p (n + 1000 + 3 * i))
      ⟨none, none, es, rs, Lf, Df, Nf, rfl, ⟨eE, tree, rows, nd, hrs, B, k1, hE⟩, h1, h3, hlf, pot1⟩ ?_ ?_
    · rintro i σ G hi ⟨v5, v6, es, rs, Lf, Df, Nf, rfl, S, l1, l3, hlf, pot⟩
      have lr := S.rows.len
      obtain ⟨gx, gp⟩ := pot.some
      refine ⟨_, rfl, E, _, rfl, .inl (SqL.of S.ent), _, _, rfl, rfl, (by show 1 ≤ sizeLine; decide), fun M hM => ?_⟩
      have eM : (upd G M (.lst [.int (((rs.map V.ref).length : Int) - 1)])) M = some (.lst (memV [es.length - 1])) := by
        rw [upd_same, List.length_map, lr, show ((es.length : Int) - 1) = ((es.length - 1 : Nat) : Int) by omega]; rfl
      have kM : Keep [] G (upd G M (.lst [.int (((rs.map V.ref).length : Int) - 1)])) := Keep.new hM
      generalize (upd G M (.lst [.int (((rs.map V.ref).length : Int) - 1)])) = G1 at eM kM ⊢
      have nMp : M ≠ p := Ne.symm (ne_of_none gp hM)
      have pot1 := pot.keep kM nin0
      refine ⟨_, rfl, p, _, _, rfl, pot1, by omega, by decide, by decide, fun c G2 c0 c1 hk2 pot2 => ?_⟩
      have k2 := keep_of_dig hk2
      have kG2 : Keep [p] G G2 := (kM.more fun b z => absurd z nin0).trans k2
      have low := S.tree.low es.length (es.length - 1) (by omega) (by omega)
      have e0 : ∃ e, es[0]? = some e := ⟨_, List.getElem?_eq_getElem (by omega)⟩
      obtain ⟨e, he⟩ := e0
      have m0 : e.mem = [] := by
        cases q : e.mem with
        | nil => rfl
        | cons x r =>
          have := S.tree.back 0 e he x (by rw [q]; exact List.mem_cons_self)
          omega
      obtain ⟨lf0, _, df0⟩ := S.tree.leaf 0 e he m0
      have lfl := hlf (es.length - 1) (by omega)
      have go : ∀ (mem : List Nat) (G3 : Hp) (De : Ends), mem ≠ [] → mem.length ≤ 2 → (∀ m ∈ mem, m < es.length) → (mem.map Lf).sum ≤ 6 + (i + 1) → (∀ m ∈ mem, Df m ≤ Df (es.length - 1)) → es.length - 1 ∈ mem → G3 M = some (.lst (memV mem)) → Keep [p] G G3 → PotAt G3 p (n + 1000 + 3 * i + 2) →
          (∀ σ H', (∃ (v5 v6 : Option V) (es : List Ent) (rs : List Addr) (Lf Df Nf : Nat → Nat), σ = [some (.ref p), some (.ref l), some (.ref X), some (.int (mo : Int)), some (.ref E), v5, v6] ∧ FaAt ps Lf Df Nf H H' p E es rs ∧ 1 ≤ es.length ∧ es.length ≤ 3 + (i + 1) ∧ (∀ j, j < es.length → Lf j ≤ 6 + (i + 1)) ∧ PotAt H' p (n + 1000 + 3 * (i + 1))) → De.nx σ H') →
          t2 De [some (.ref p), some (.ref l), some (.ref X), some (.int (mo : Int)), some (.ref E), some (.int (0 + (i : Int))), some (.ref M)] G3 := fun mem G3 De hne h2 hin hs hd hl eM3 k3 p3 fin => by
        refine r2 ps Lf Df Nf H G G3 p X E M _ _ (Df (es.length - 1) + 1) es rs tx mem De _ _ _ S htx ((S.keep.trans k3).at hX (nin1 nXp)) nXp nEp (by omega) (by omega) hne h2 hin rfl (by omega) (by omega) (fun m hm => Nat.succ_le_succ (hd m hm)) ⟨_, hl, rfl⟩ ⟨_, gp⟩ hM eM3 p3 k3 fun H' te r c S' pot' => fin _ _ ?_
        refine ⟨_, _, _, _, _, _, _, rfl, S', by rw [List.length_append]; show 1 ≤ es.length + 1; omega, by rw [List.length_append]; show es.length + 1 ≤ 3 + (i + 1); omega, fun j hj => ?_, pot'.le (by omega)⟩
        rw [List.length_append] at hj
        have hj : j < es.length + 1 := hj
        by_cases q : j = es.length
        · rw [q, put_same]; exact hs
        · rw [put_old (by omega)]
          have := hlf j (by omega)
          omega
      have one : ∀ (G3 : Hp) (De : Ends), G3 M = some (.lst (memV [es.length - 1])) → Keep [p] G G3 → PotAt G3 p (n + 1000 + 3 * i + 2) → (∀ σ H', (∃ (v5 v6 : Option V) (es : List Ent) (rs : List Addr) (Lf Df Nf : Nat → Nat), σ = [some (.ref p), some (.ref l), some (.ref X), some (.int (mo : Int)), some (.ref E), v5, v6] ∧ FaAt ps Lf Df Nf H H' p E es rs ∧ 1 ≤ es.length ∧ es.length ≤ 3 + (i + 1) ∧ (∀ j, j < es.length → Lf j ≤ 6 + (i + 1)) ∧ PotAt H' p (n + 1000 + 3 * (i + 1))) → De.nx σ H') → t2 De [some (.ref p), some (.ref l), some (.ref X), some (.int (mo : Int)), some (.ref E), some (.int (0 + (i : Int))), some (.ref M)] G3 := fun G3 De e k p' fin =>
        go [es.length - 1] G3 De (fun h => by cases h) (by simp) (fun m hm => by rw [List.mem_singleton.mp hm]; omega) (by simp; omega) (fun m hm => by rw [List.mem_singleton.mp hm]; exact Nat.le_refl _) List.mem_cons_self e k p' fin
      refine ⟨rfl, _, rfl, ?_⟩
      refine ite2 (fun _ => ?_) (fun _ => one G2 _ (k2.at eM (nin1 nMp)) kG2 (pot2.le (by omega)) fun _ _ h => h)
      refine ⟨_, rfl, .inl ⟨rfl, _, SqL.of (k2.at eM (nin1 nMp))⟩, _, rfl, p, _, _, rfl, pot2, by omega, by decide, by decide, fun b G3 b0 b1 hk3 pot3 => ?_⟩
      have k3 := keep_of_dig hk3
      have eM3 := k3.at (k2.at eM (nin1 nMp)) (nin1 nMp)
      have b2 : b < 2 := b1
      refine ⟨M, _, b, .int 0, rfl, rfl, eM3, (by show 1 < sizeLine; decide), b0, by omega, ?_⟩
      have both : ∀ mem : List Nat, (mem = [0, es.length - 1] ∨ mem = [es.length - 1, 0]) → mem ≠ [] ∧ mem.length ≤ 2 ∧ (∀ m ∈ mem, m < es.length) ∧ (mem.map Lf).sum ≤ 6 + (i + 1) ∧ (∀ m ∈ mem, Df m ≤ Df (es.length - 1)) ∧ es.length - 1 ∈ mem := fun mem h => by
        rcases h with h | h <;> subst h
        · refine ⟨(fun h => by cases h), by simp, fun m hm => ?_, by simp; omega, fun m hm => ?_, by simp⟩
          · rcases List.mem_cons.mp hm with z | z
            · omega
            · rw [List.mem_singleton.mp z]; omega
          · rcases List.mem_cons.mp hm with z | z
            · rw [z, df0]; exact Nat.zero_le _
            · rw [List.mem_singleton.mp z]; exact Nat.le_refl _
        · refine ⟨(fun h => by cases h), by simp, fun m hm => ?_, by simp; omega, fun m hm => ?_, by simp⟩
          · rcases List.mem_cons.mp hm with z | z
            · omega
            · rw [List.mem_singleton.mp z]; omega
          · rcases List.mem_cons.mp hm with z | z
            · rw [z]; exact Nat.le_refl _
            · rw [List.mem_singleton.mp z, df0]; exact Nat.zero_le _
      have kI : Keep [p] G (upd G3 M (.lst ((memV [es.length - 1]).take b.toNat ++ [.int 0] ++ (memV [es.length - 1]).drop b.toNat))) := (kG2.trans k3).freshTo hM
      have pI : PotAt (upd G3 M (.lst ((memV [es.length - 1]).take b.toNat ++ [.int 0] ++ (memV [es.length - 1]).drop b.toNat))) p _ := pot3.keep (ex := [M]) (Keep.own in1) (nin1 nMp.symm)
      rcases (show b = 0 ∨ b = 1 by omega) with z | z
      · obtain ⟨q1, q2, q3, q4, q5, q6⟩ := both [0, es.length - 1] (.inl rfl)
        exact go [0, es.length - 1] _ _ q1 q2 q3 q4 q5 q6 (by rw [upd_same, z]; rfl) kI (pI.le (by omega)) fun _ _ h => h
      · obtain ⟨q1, q2, q3, q4, q5, q6⟩ := both [es.length - 1, 0] (.inr rfl)
        exact go [es.length - 1, 0] _ _ q1 q2 q3 q4 q5 q6 (by rw [upd_same, z]; rfl) kI (pI.le (by omega)) fun _ _ h => h
    · rintro σ G ⟨v5, v6, es, rs, Lf, Df, Nf, rfl, S, l1, l3, hlf, pot⟩
      exact ⟨_, rfl, kk E rs es Lf Df Nf G S l1 (by omega) (fun j hj => ⟨by have := hlf j hj; omega, by have := S.tree.low j j (Nat.le_refl _) hj; omega⟩) (pot.le (by omega))⟩
end
end Fs
/-! A row; some. -/
namespace Fs
open PySem L2 TL
theorem rg_mem {m : Nat} {z : Int} (h : z = (m : Int)) : rgV 0 z = memV (List.range m) := by
  unfold rgV
  rw [h, show ((m : Int) - 0).toNat = m by omega]
  exact List.map_congr_left fun i _ => by rw [Int.zero_add]
section
variable {P : Program} {w : World} {K : PySem.W.Frag} {mg : Str → Option Value} {base : Heap} {fDg fFt fTo fRo : Addr}
def spRowL : Sp := fun vs H Q _ => ∃ mo : Nat, mo ≤ 99 ∧ spSomeG vs H Q (fun p l X => vs = [.ref p, .ref l, .ref X, .int (mo : Int)]) (mo + 2) (mo + 1) 1 28 2000
theorem ok_rowL {dD fd : FuncData} {f : Addr} (F : Fun K "_law_row" "_law_row" sRowL f fd) (FD : FnOk P w K mg base CX0 1 fDg dD ["_law_pot_here", "_law_many"] spDigit) (gD : mg "_law_digit" = some (.ref fDg)) (kD : PySem.W.keepIn K (.ref fDg) = true) (bD : Binds K dD ["_law_pot_here", "_law_many"] [])
    (mL : mg "len" = none) (mR : mg "range" = none) (mLi : mg "list" = none) :
    FnOk P w K mg base CX0 2 f fd ["_law_pot_here", "_law_pairs", "_law_texts_here", "_law_many"] spRowL := by
  refine F.ok scRowL (fun vs H Q E h => ?_) (fun cdv A0 outer s H vs Q Es hr h => ?_)
  · obtain ⟨mo, _, p, l, X, n, ps, tx, rfl, _⟩ := h
    rfl
  · obtain ⟨mo, hmo, p, l, X, n, ps, tx, rfl, hp, hn, hl, hps, nlp, htx, hX, nXp, kk⟩ := h
    have hr1 : Room 1 _ := hr.mono (by decide)
    refine ⟨_, pss_cons (ps_set (i := 4) scRowL.nd rfl (Or.inl rfl) (pe_op op_cat (pe_lst (pa_cons pe_str pa_nil)) (pe_lc (own := [("_law_name_here", 5), ("_law_above", 6)]) (g := gTup K 2 (gCons (gName 5) (gCons (gName 6) gNil))) (tt := tYes) (te := tVar 5) rfl scRowL.nd (pi_list (pv 1))
          (blkOk_by (N := nRowL) (sc := defScope sRowL) (by decide +kernel)) (fun _ _ _ _ _ => by exact (pg_tup rfl (pgs_cons (pg_name (i := 5) scRowL.nd rfl (Or.inl rfl)) (pgs_cons (pg_name (i := 6) scRowL.nd rfl (Or.inl rfl)) pgs_nil)))) (fun _ _ _ _ _ => pts_nil) (fun _ _ _ _ _ => pv 5))))
      (pss_cons (ps_set (i := 7) scRowL.nd rfl (Or.inl rfl) (pe_lst pa_nil))
      (pss_cons (ps_for PassesOwn.never rfl (pi_range1 rfl mR (pa_cons (pe_op op_add pe_int (pv 3)) pa_nil)) (pg_name (i := 8) scRowL.nd rfl (Or.inl rfl))
        (pss_one (ps_expr (pe_bm PySem.F.plainAttrs_list PySem.F.slot_list_append PySem.F.type_list_append mt_append (pv 7) (pa_cons (pe_lst (pa_cons (pe_ix ix_list (pv 4) (pe_call FD hr1 rfl gD kD bD .nil pass0 (pa_cons (pv 0) (pa_cons (pe_callB call_len_seq (by rfl) mL PySem.boot_len (pa_cons (pv 4) pa_nil)) pa_nil))) (fun _ _ => rfl)) (pa_cons (pe_ix ix_list (pv 2) (pe_call FD hr1 rfl gD kD bD .nil pass0 (pa_cons (pv 0) (pa_cons pe_int pa_nil))) (fun _ _ => rfl)) (pa_cons (pe_lst pa_nil) (pa_cons (pe_lst pa_nil) (pa_cons pe_non (pa_cons pe_non pa_nil))))))) pa_nil)))))
      (pss_cons (ps_expr (pe_bm PySem.F.plainAttrs_list PySem.F.slot_list_append PySem.F.type_list_append mt_append (pv 7) (pa_cons (pe_lst (pa_cons pe_str (pa_cons (pe_ix ix_list (pv 2) (pe_call FD hr1 rfl gD kD bD .nil pass0 (pa_cons (pv 0) (pa_cons pe_int pa_nil))) (fun _ _ => rfl)) (pa_cons (pe_listRg rfl (by rfl) mLi (prg_1 (by rfl) mR (pe_op op_add pe_int (pv 3)))) (pa_cons (pe_lst pa_nil) (pa_cons pe_non (pa_cons pe_non pa_nil))))))) pa_nil)))
      (pss_one (ps_ret (pv 7)))))), ?_⟩
    obtain ⟨x0, ep0⟩ := hp.some
    -- sorts
    refine ⟨(by show 1 ≤ sizeLine; decide), fun a ha => ?_⟩
    have h1 : PairsAt (upd H a (.lst [.str sF])) l ps := hl.keep (ex := []) (Keep.new ha) nin0 (fun _ z => absurd z nin0)
    obtain ⟨xs, el⟩ := h1.some
    refine ⟨_, rfl, l, rfl, ⟨_, SqL.of el⟩, fun D' hD' => ?_⟩
    refine names_run (K := K) (i := 5) (j := 6) h1 hD' (by omega) (fun _ _ => rfl) (fun _ _ => rfl) fun H1 e1 k1 => ?_
    have ea : H1 a = some (.lst [.str sF]) := k1.at upd_same nin0
    refine ⟨a, D', _, _, rfl, rfl, ea, e1, ?_, fun S hS => ?_⟩
    · show ([V.str sF] : List V).length + _ ≤ sizeLine
      rw [List.length_map, List.length_map]
      exact Nat.le_trans (by show 1 + ps.length ≤ 1000; omega) (by decide)
    have kS : Keep [] H (upd H1 S (.lst ([V.str sF] ++ (ps.map Prod.fst).map V.str))) := ((Keep.new ha).trans k1).newTo hS
    have eS : (upd H1 S (.lst ([V.str sF] ++ (ps.map Prod.fst).map V.str))) S = some (.lst ((sF :: ps.map Prod.fst).map V.str)) := upd_same
    have hS0 : H S = none := Keep.free ((Keep.new ha (ex := [])).trans k1) hS nin0
    generalize (upd H1 S (.lst ([V.str sF] ++ (ps.map Prod.fst).map V.str))) = H2 at kS eS ⊢
    have nSp : S ≠ p := fun z => by rw [← z, hS0] at ep0; cases ep0
    refine ⟨Nat.zero_le _, fun E hE => ?_⟩
    have hE0 : H E = none := Keep.free kS hE nin0
    have nEp : E ≠ p := fun z => by rw [← z, hE0] at ep0; cases ep0
    have kE : Keep [] H2 (upd H2 E (.lst [])) := Keep.new hE
    have eE : (upd H2 E (.lst [])) E = some (.lst (([] : List Addr).map V.ref)) := upd_same
    generalize (upd H2 E (.lst [])) = H3 at kE eE ⊢
    have pot3 := hp.keep (kS.trans kE) nin0
    have F0 : FaAt ps (fun _ => 0) (fun _ => 0) (fun _ => 0) H2 H3 p E [] [] := ⟨eE, .nil, True.intro, List.nodup_nil, (fun r h => absurd h List.not_mem_nil), (fun i e h => by simp at h), kE.more fun b z => absurd z nin0, hE⟩
    refine ⟨_, rfl, _, _, rfl, rfl, _, rfl, by omega, by omega, ?_⟩
    have em : ((1 : Int) + (mo : Int)).toNat = mo + 1 := by omega
    rw [em]
    refine for_range (lo := 0) (n := mo + 1) (fun i σ G => ∃ (v5 v6 v8 : Option V) (es : List Ent) (rs : List Addr) (Lf Df Nf : Nat → Nat), σ = [some (.ref p), some (.ref l), some (.ref X), some (.int (mo : Int)), some (.ref S), v5, v6, some (.ref E), v8] ∧ FaAt ps Lf Df Nf H2 G p E es rs ∧ es.length = i ∧ (∀ j, j < i → Lf j = 1 ∧ Df j = 0) ∧ PotAt G p (n + 2 * i))
      ⟨_, _, none, [], [], _, _, _, rfl, F0, rfl, (fun j h => absurd h (Nat.not_lt_zero _)), pot3⟩ ?_ ?_
    · rintro i σ G hi ⟨v5, v6, v8, es, rs, Lf, Df, Nf, rfl, S', hl', hlf, pot⟩
      have lr := S'.rows.len
      obtain ⟨gx, gp⟩ := pot.some
      have eSG := S'.keep.at eS (nin1 nSp)
      refine ⟨_, rfl, .inl ⟨rfl, _, SqL.of S'.ent⟩, _, rfl, _, rfl, _, rfl, S, _, rfl, .inl (SqL.of eSG), p, _, _, rfl, pot, by omega, ?_, ?_, fun c G2 c0 c1 hk2 pot2 => ?_⟩
      · rw [List.length_map, List.length_cons]; omega
      · rw [List.length_map, List.length_cons, List.length_map]; omega
      rw [List.length_map] at c1
      obtain ⟨z, hz, hz2, hz3⟩ := digit_in (l := sF :: ps.map Prod.fst) c0 c1
      have k2 := keep_of_dig hk2
      refine ⟨S, _, c, .str z, rfl, rfl, SqL.of (k2.at eSG (nin1 nSp)), ?_, ?_⟩
      · rw [← hz3]
        exact atI_nat (by rw [List.getElem?_map, hz2]; rfl)
      refine ⟨_, rfl, _, rfl, p, _, _, rfl, pot2, by omega, by decide, by decide, fun dt G3 t0 t1 hk3 pot3 => ?_⟩
      have k3 := keep_of_dig hk3
      have k03 := k2.trans k3
      obtain ⟨x3, ep3⟩ := pot3.some
      obtain ⟨te, hte, _, ate⟩ := txs_at htx t0 (Int.lt_trans t1 (by decide))
      refine ⟨X, _, _, .str te, rfl, rfl, SqL.of ((S'.keep.trans k03).at (kS.at hX nin0) (nin1 nXp)), ate, ?_⟩
      refine ⟨Nat.zero_le _, fun M hM => ?_⟩
      refine ⟨Nat.zero_le _, fun N hN => ?_⟩
      refine ⟨(by show 6 ≤ sizeLine; decide), fun r hr' => ?_⟩
      have fr : ∀ {b : Addr}, G3 b = none → G b = none := fun hb => Keep.free k03 hb (nin1 fun z => by rw [z, ep3] at hb; cases hb)
      have hN3 : G3 N = none := Keep.free (Keep.new hM (ex := [])) hN nin0
      have hr3 : G3 r = none := Keep.free ((Keep.new hM (ex := [])).newTo hN) hr' nin0
      have k7 : Keep [] G3 (upd (upd (upd G3 M (.lst [])) N (.lst [])) r (.lst [.str z, .str te, .ref M, .ref N, .non, .non])) := ((Keep.new hM).newTo hN).newTo hr'
      have eM7 : (upd (upd (upd G3 M (.lst [])) N (.lst [])) r (.lst [.str z, .str te, .ref M, .ref N, .non, .non])) M = some (.lst (memV [])) := ((Keep.new hN (ex := [])).newTo hr').at upd_same nin0
      have eN7 : (upd (upd (upd G3 M (.lst [])) N (.lst [])) r (.lst [.str z, .str te, .ref M, .ref N, .non, .non])) N = some (.lst []) := (Keep.new hr' (ex := [])).at upd_same nin0
      have er7 : (upd (upd (upd G3 M (.lst [])) N (.lst [])) r (.lst [.str z, .str te, .ref M, .ref N, .non, .non])) r = some (.lst [.str z, .str te, .ref M, .ref N, .non, .non]) := upd_same
      generalize (upd (upd (upd G3 M (.lst [])) N (.lst [])) r (.lst [.str z, .str te, .ref M, .ref N, .non, .non])) = G7 at k7 eM7 eN7 er7 ⊢
      have k07 := k03.trans (k7.more fun b z => absurd z nin0)
      refine ⟨E, _, _, rfl, rfl, k07.at S'.ent (nin1 nEp), Nat.lt_of_le_of_lt (by rw [List.length_map, lr]; omega : (rs.map V.ref).length ≤ 1000) (by decide), ?_⟩
      have A := S'.app (a := 1) (d := 0) ⟨_, gp⟩ k07 (fr hM) (fr hN3) (fr hr3) eM7 eN7 er7 hte (Nat.zero_le _) ⟨fun _ => hz, fun h => absurd rfl h⟩ (fun m h => absurd h List.not_mem_nil) rfl (by decide) (by decide) (fun _ => rfl) (fun m h => absurd h List.not_mem_nil) (fun h => absurd rfl h)
      refine ⟨_, _, _, _, _, _, _, _, rfl, A, by rw [List.length_append, hl']; rfl, fun j hj => ?_, ((pot3.keep k7 nin0).keep (ex := [E]) (Keep.own in1) (nin1 nEp.symm)).le (by omega)⟩
      by_cases q : j = i
      · rw [q, ← hl', put_same, put_same]; exact ⟨rfl, rfl⟩
      · rw [put_old (by omega), put_old (by omega)]; exact hlf j (by omega)
    · rintro σ G ⟨v5, v6, v8, es, rs, Lf, Df, Nf, rfl, S', hl', hlf, pot⟩
      have lr := S'.rows.len
      obtain ⟨gx, gp⟩ := pot.some
      refine ⟨_, rfl, .inl ⟨rfl, _, SqL.of S'.ent⟩, _, rfl, _, rfl, p, _, _, rfl, pot, by omega, by decide, by decide, fun dt G3 t0 t1 hk3 pot3 => ?_⟩
      have k03 := keep_of_dig hk3
      obtain ⟨x3, ep3⟩ := pot3.some
      obtain ⟨te, hte, _, ate⟩ := txs_at htx t0 (Int.lt_trans t1 (by decide))
      refine ⟨X, _, _, .str te, rfl, rfl, SqL.of ((S'.keep.trans k03).at (kS.at hX nin0) (nin1 nXp)), ate, ?_⟩
      refine ⟨_, rfl, _, _, rfl, rfl, _, rfl, RgOk.of_le (by decide) (by omega) (by decide) (by omega), fun M hM => ?_⟩
      refine ⟨Nat.zero_le _, fun N hN => ?_⟩
      refine ⟨(by show 6 ≤ sizeLine; decide), fun r hr' => ?_⟩
      have e0 : rgV 0 (1 + (mo : Int)) = memV (List.range (mo + 1)) := rg_mem (by omega)
      have fr : ∀ {b : Addr}, G3 b = none → G b = none := fun hb => Keep.free k03 hb (nin1 fun z => by rw [z, ep3] at hb; cases hb)
      have hN3 : G3 N = none := Keep.free (Keep.new hM (ex := [])) hN nin0
      have hr3 : G3 r = none := Keep.free ((Keep.new hM (ex := [])).newTo hN) hr' nin0
      have k7 : Keep [] G3 (upd (upd (upd G3 M (.lst (rgV 0 (1 + (mo : Int))))) N (.lst [])) r (.lst [.str sS, .str te, .ref M, .ref N, .non, .non])) := ((Keep.new hM).newTo hN).newTo hr'
      have eM7 : (upd (upd (upd G3 M (.lst (rgV 0 (1 + (mo : Int))))) N (.lst [])) r (.lst [.str sS, .str te, .ref M, .ref N, .non, .non])) M = some (.lst (memV (List.range (mo + 1)))) := ((Keep.new hN (ex := [])).newTo hr').at (by rw [upd_same, e0]) nin0
      have eN7 : (upd (upd (upd G3 M (.lst (rgV 0 (1 + (mo : Int))))) N (.lst [])) r (.lst [.str sS, .str te, .ref M, .ref N, .non, .non])) N = some (.lst []) := (Keep.new hr' (ex := [])).at upd_same nin0
      have er7 : (upd (upd (upd G3 M (.lst (rgV 0 (1 + (mo : Int))))) N (.lst [])) r (.lst [.str sS, .str te, .ref M, .ref N, .non, .non])) r = some (.lst [.str sS, .str te, .ref M, .ref N, .non, .non]) := upd_same
      generalize (upd (upd (upd G3 M (.lst (rgV 0 (1 + (mo : Int))))) N (.lst [])) r (.lst [.str sS, .str te, .ref M, .ref N, .non, .non])) = G7 at k7 eM7 eN7 er7 ⊢
      have k07 := k03.trans (k7.more fun b z => absurd z nin0)
      refine ⟨E, _, _, rfl, rfl, k07.at S'.ent (nin1 nEp), Nat.lt_of_le_of_lt (by rw [List.length_map, lr]; omega : (rs.map V.ref).length ≤ 1000) (by decide), ?_⟩
      have hne : List.range (mo + 1) ≠ [] := fun h => by have := congrArg List.length h; rw [List.length_range] at this; cases this
      have hsum : ((List.range (mo + 1)).map Lf).sum = mo + 1 := by
        have e : (List.range (mo + 1)).map Lf = List.replicate (mo + 1) 1 := by
          rw [List.eq_replicate_iff]
          refine ⟨by rw [List.length_map, List.length_range], fun b hb => ?_⟩
          obtain ⟨j, hj, rfl⟩ := List.mem_map.mp hb
          exact (hlf j (List.mem_range.mp hj)).1
        rw [e, List.sum_replicate_nat]
        omega
      have A := S'.app (a := mo + 1) (d := 1) ⟨_, gp⟩ k07 (fr hM) (fr hN3) (fr hr3) eM7 eN7 er7 hte (by rw [List.length_range]; omega) ⟨fun h => absurd h hne, fun _ => rfl⟩ (fun m hm => by have := List.mem_range.mp hm; omega) (by rw [if_neg hne, hsum]) (by omega) (by decide) (fun h => absurd h hne) (fun m hm => by rw [(hlf m (List.mem_range.mp hm)).2]; exact Nat.le_refl _) (fun _ => ⟨0, List.mem_range.mpr (by omega), by rw [(hlf 0 (by omega)).2]⟩)
      refine ⟨_, rfl, kk E _ _ _ _ _ _ ⟨A.ent, A.tree, A.rows, A.nd, fun r hr => Keep.free kS (A.fresh r hr) nin0, A.built, (kS.more fun b z => absurd z nin0).trans A.keep, hE0⟩ ?_ ?_ ?_ (((pot3.keep k7 nin0).keep (ex := [E]) (Keep.own in1) (nin1 nEp.symm)).le (by omega))⟩
      · rw [List.length_append]; show 1 ≤ es.length + 1; omega
      · rw [List.length_append]; show es.length + 1 ≤ mo + 2; omega
      · intro j hj
        rw [List.length_append] at hj
        have hj : j < es.length + 1 := hj
        by_cases q : j = es.length
        · rw [q, put_same, put_same]; exact ⟨Nat.le_refl _, Nat.le_refl _⟩
        · rw [put_old (by omega), put_old (by omega), (hlf j (by omega)).1, (hlf j (by omega)).2]; omega
def spSome : Sp := fun vs H Q _ => ∃ (mo room : Nat), 1 ≤ mo ∧ mo ≤ 30 ∧ 1 ≤ room ∧ room ≤ 100 ∧ spSomeG vs H Q (fun p l X => vs = [.ref p, .ref l, .ref X, .int (mo : Int), .int (room : Int)]) (max 15 (max mo (room + 1))) (max 17 room) (max 14 mo) 27 2100
structure STxt (K : PySem.W.Frag) (mg : Str → Option Value) (fDg fTo fRo fFt : Addr) : Prop where
  gD : mg "_law_digit" = some (.ref fDg)
  kD : PySem.W.keepIn K (.ref fDg) = true
  gT : mg "_law_tower" = some (.ref fTo)
  kT : PySem.W.keepIn K (.ref fTo) = true
  gR : mg "_law_row" = some (.ref fRo)
  kR : PySem.W.keepIn K (.ref fRo) = true
  gF : mg "_law_faults" = some (.ref fFt)
  kF : PySem.W.keepIn K (.ref fFt) = true
theorem ok_some {dD dT dR dF fd : FuncData} {f : Addr} (F : Fun K "_law_some" "_law_some" sSome f fd) (T : STxt K mg fDg fTo fRo fFt) (FD : FnOk P w K mg base CX0 1 fDg dD ["_law_pot_here", "_law_many"] spDigit) (bD : Binds K dD ["_law_pot_here", "_law_many"] [])
    (FT : FnOk P w K mg base CX0 4 fTo dT ["_law_pot_here", "_law_pairs", "_law_texts_here", "_law_many"] spTow) (bT : Binds K dT ["_law_pot_here", "_law_pairs", "_law_texts_here", "_law_many"] []) (FR : FnOk P w K mg base CX0 2 fRo dR ["_law_pot_here", "_law_pairs", "_law_texts_here", "_law_many"] spRowL) (bR : Binds K dR ["_law_pot_here", "_law_pairs", "_law_texts_here", "_law_many"] [])
    (FF : FnOk P w K mg base CX0 3 fFt dF ["_law_pot_here", "_law_pairs", "_law_texts_here", "_law_most", "_law_room"] spFts) (bF : Binds K dF ["_law_pot_here", "_law_pairs", "_law_texts_here", "_law_most", "_law_room"] []) :
    FnOk P w K mg base CX0 5 f fd ["_law_pot_here", "_law_pairs", "_law_texts_here", "_law_most", "_law_room"] spSome := by
  refine F.ok scSome (fun vs H Q E h => ?_) (fun cdv A0 outer s H vs Q Es hr h => ?_)
  · obtain ⟨mo, room, _, _, _, _, p, l, X, n, ps, tx, rfl, _⟩ := h
    rfl
  · obtain ⟨mo, room, m1, m30, r1, r100, p, l, X, n, ps, tx, rfl, hp, hn, hl, hps, nlp, htx, hX, nXp, kk⟩ := h
    have hr1 : Room 1 _ := hr.mono (by decide)
    have hr2 : Room 2 _ := hr.mono (by decide)
    have hr3 : Room 3 _ := hr.mono (by decide)
    refine ⟨_, pss_cons (ps_set (i := 5) scSome.nd rfl (Or.inl rfl) (pe_call FD hr1 rfl T.gD T.kD bD .nil pass0 (pa_cons (pv 0) (pa_cons pe_int pa_nil))))
      (pss_cons (ps_if (pt_cmpR op_eq (pv 5) pe_int (nomark _)) (pss_one (ps_ret (pe_call FT hr rfl T.gT T.kT bT .nil pass0 (pa_cons (pv 0) (pa_cons (pv 1) (pa_cons (pv 2) (pa_cons (pe_call FD hr1 rfl T.gD T.kD bD .nil pass0 (pa_cons (pv 0) (pa_cons pe_int pa_nil))) pa_nil))))))) pss_nil)
      (pss_cons (ps_if (pt_cmpR op_eq (pv 5) pe_int (nomark _)) (pss_one (ps_ret (pe_call FR hr2 rfl T.gR T.kR bR .nil pass0 (pa_cons (pv 0) (pa_cons (pv 1) (pa_cons (pv 2) (pa_cons (pe_call FD hr1 rfl T.gD T.kD bD .nil pass0 (pa_cons (pv 0) (pa_cons (pv 4) pa_nil))) pa_nil))))))) pss_nil)
      (pss_one (ps_ret (pe_call FF hr3 rfl T.gF T.kF bF .nil pass0 (pa_cons (pv 0) (pa_cons (pv 1) (pa_cons (pv 2) (pa_cons (pv 3) (pa_cons (pv 4) pa_nil)))))))))), ?_⟩
    obtain ⟨x0, ep0⟩ := hp.some
    refine ⟨_, rfl, p, n, _, rfl, hp, by omega, by decide, by decide, fun c H1 c0 c1 hk1 hp1 => ?_⟩
    have k1 := keep_of_dig hk1
    refine ⟨_, rfl, rfl, _, rfl, ?_⟩
    refine ite2 (fun _ => ?_) (fun _ => ?_)
    · refine ⟨_, rfl, _, rfl, _, rfl, _, rfl, p, _, _, rfl, hp1, by omega, by decide, by decide, fun d H2 d0 d1 hk2 hp2 => ?_⟩
      have k2 := keep_of_dig hk2
      have k02 := k1.trans k2
      obtain ⟨d, rfl⟩ : ∃ m : Nat, d = (m : Int) := ⟨d.toNat, by omega⟩
      have d11 : (d : Int) < 11 := Int.lt_of_lt_of_le d1 (by decide)
      refine ⟨d, by omega, p, l, X, _, ps, tx, rfl, hp2, by omega, hl.keep k02 (nin1 nlp) (lst_ex ep0), hps, nlp, htx, k02.at hX (nin1 nXp), nXp, fun E rs es Lf Df Nf H' S l1 lm lv pot => ?_⟩
      have fr : ∀ {b : Addr}, H2 b = none → H b = none := fun hb => Keep.free k02 hb (nin1 fun z => by obtain ⟨_, e⟩ := hp2.some; rw [z, e] at hb; cases hb)
      exact kk E rs es Lf Df Nf H' ⟨S.ent, S.tree, S.rows, S.nd, fun r hr => fr (S.fresh r hr), S.built, k02.trans S.keep, fr S.E0⟩ l1 (by omega) (fun j hj => by have := lv j hj; omega) (pot.le (by omega))
    · refine ⟨_, rfl, rfl, _, rfl, ?_⟩
      refine ite2 (fun _ => ?_) (fun _ => ?_)
      · refine ⟨_, rfl, _, rfl, _, rfl, _, rfl, _, rfl, p, _, _, rfl, hp1, by omega, by omega, by omega, fun d H2 d0 d1 hk2 hp2 => ?_⟩
        have k2 := keep_of_dig hk2
        have k02 := k1.trans k2
        obtain ⟨d, rfl⟩ : ∃ m : Nat, d = (m : Int) := ⟨d.toNat, by omega⟩
        refine ⟨d, by omega, p, l, X, _, ps, tx, rfl, hp2, by omega, hl.keep k02 (nin1 nlp) (lst_ex ep0), hps, nlp, htx, k02.at hX (nin1 nXp), nXp, fun E rs es Lf Df Nf H' S l1 lm lv pot => ?_⟩
        have fr : ∀ {b : Addr}, H2 b = none → H b = none := fun hb => Keep.free k02 hb (nin1 fun z => by obtain ⟨_, e⟩ := hp2.some; rw [z, e] at hb; cases hb)
        exact kk E rs es Lf Df Nf H' ⟨S.ent, S.tree, S.rows, S.nd, fun r hr => fr (S.fresh r hr), S.built, k02.trans S.keep, fr S.E0⟩ l1 (by omega) (fun j hj => by have := lv j hj; omega) (pot.le (by omega))
      · refine ⟨_, rfl, _, rfl, _, rfl, _, rfl, _, rfl, p, l, X, _, mo, room, ps, tx, rfl, m1, m30, r1, r100, hp1, by omega, hl.keep k1 (nin1 nlp) (lst_ex ep0), hps, nlp, htx, k1.at hX (nin1 nXp), nXp, fun E rs es Lf Df Nf H' tree hE hrs eE rows nd B l1 lm lv k' pot => ?_⟩
        have fr : ∀ {b : Addr}, H1 b = none → H b = none := fun hb => Keep.free k1 hb (nin1 fun z => by obtain ⟨_, e⟩ := hp1.some; rw [z, e] at hb; cases hb)
        exact kk E rs es Lf Df Nf H' ⟨eE, tree, rows, nd, fun r hr => fr (hrs r hr), B, k1.trans k', fr hE⟩ l1 (by omega) (fun j hj => ⟨by have := lv j hj; omega, by have := tree.low j j (Nat.le_refl _) hj; omega⟩) (pot.le (by omega))
end
end Fs
/-! One fault is written anew: in the ledger, in the law's rows. -/
namespace Fs
open PySem L2 TL
theorem set_id {α : Type} : ∀ {l : List α} {i : Nat} {a : α}, l[i]? = some a → l.set i a = l
  | [], _, _, h => by simp at h
  | b :: l, 0, a, h => by
    have e : b = a := by simpa using h
    rw [e]; rfl
  | b :: l, i + 1, a, h => by
    rw [List.set_cons_succ, set_id (by simpa using h)]
theorem map_put {β : Type} {es : List Ent} {x : Nat} {e e' : Ent} (f : Ent → β) (he : es[x]? = some e) (h : f e' = f e) : (es.set x e').map f = es.map f := by
  rw [List.map_set, h]
  exact set_id (by rw [List.getElem?_map, he]; rfl)
theorem MemsAt.congr {H : Hp} : ∀ {as : List Addr} {es es' : List Ent}, es.map Ent.mem = es'.map Ent.mem → MemsAt H as es → MemsAt H as es'
  | [], [], [], _, h => h
  | a :: as, e :: es, f :: fs, q, h => by
    have q1 : e.mem = f.mem := by have := congrArg List.head? q; simpa using this
    have q2 : es.map Ent.mem = fs.map Ent.mem := by have := congrArg List.tail q; simpa using this
    exact ⟨by rw [← q1]; exact h.1, MemsAt.congr q2 h.2⟩
  | _, [], _ :: _, q, _ => by simp at q
  | _, _ :: _, [], q, _ => by simp at q
  | [], _ :: _, _ :: _, _, h => h.elim
  | _ :: _, [], [], _, h => h.elim
theorem NotesAt.congr {H : Hp} : ∀ {as : List Addr} {es es' : List Ent}, es.map Ent.notes = es'.map Ent.notes → NotesAt H as es → NotesAt H as es'
  | [], [], [], _, h => h
  | a :: as, e :: es, f :: fs, q, h => by
    have q1 : e.notes = f.notes := by have := congrArg List.head? q; simpa using this
    have q2 : es.map Ent.notes = fs.map Ent.notes := by have := congrArg List.tail q; simpa using this
    exact ⟨by rw [← q1]; exact h.1, NotesAt.congr q2 h.2⟩
  | _, [], _ :: _, q, _ => by simp at q
  | _, _ :: _, [], q, _ => by simp at q
  | [], _ :: _, _ :: _, _, h => h.elim
  | _ :: _, [], [], _, h => h.elim
theorem LedAt.nes {C : Addr} {H : Hp} {p : Addr} {A : LA} {ms ns : List Addr} {es : List Ent} (h : LedAt C H p A ms ns es) : A.l1 ≠ A.l5 ∧ A.l2 ≠ A.l5 ∧ A.l3 ≠ A.l5 ∧ A.l4 ≠ A.l5 ∧ A.l1 ≠ A.l6 ∧ A.l2 ≠ A.l6 ∧ A.l3 ≠ A.l6 ∧ A.l4 ≠ A.l6 ∧ A.l5 ≠ A.l6 ∧ A.l5 ∉ ns ∧ A.l6 ∉ ns := by
  have h := h.nd
  simp only [LA.ls, List.cons_append, List.nil_append, List.nodup_cons, List.mem_cons, not_or] at h
  obtain ⟨⟨a2, a3, a4, a5, a6, a7⟩, ⟨b3, b4, b5, b6, b7⟩, ⟨c4, c5, c6, c7⟩, ⟨d5, d6, d7⟩, ⟨e6, e7⟩, f7, g⟩ := h
  exact ⟨a5, b5, c5, d5, a6, b6, c6, d6, e6, e7, f7⟩
def byE (e : Ent) (o : Option Nat) : Ent := { e with cause := o }
theorem LedAt.by' {C : Addr} {H : Hp} {p : Addr} {A : LA} {ms ns : List Addr} {es : List Ent} (h : LedAt C H p A ms ns es) {x : Nat} {e : Ent} (o : Option Nat) (he : es[x]? = some e) : LedAt C (upd H A.l5 (.lst ((es.map fun e => optV e.cause).set x (optV o)))) p A ms ns (es.set x (byE e o)) := by
  obtain ⟨n1, n2, n3, n4, _, _, _, _, n5, n7, _⟩ := h.nes
  have k : Keep [A.l5] H (upd H A.l5 (.lst ((es.map fun e => optV e.cause).set x (optV o)))) := Keep.own in1
  refine ⟨k.at h.ins (nin1 (ne_of h.ins h.h5 (fun z => by cases z))), ?_, ?_, k.at h.h3 (nin1 n3), k.at h.h4 (nin1 n4), ?_, ?_, ?_, ?_, h.nd⟩
  · rw [map_put (e := e) (e' := byE e o) (fun e => V.str e.kind) he rfl]; exact k.at h.h1 (nin1 n1)
  · rw [map_put (e := e) (e' := byE e o) (fun e => V.str e.text) he rfl]; exact k.at h.h2 (nin1 n2)
  · rw [upd_same, List.map_set]; rfl
  · rw [map_put (e := e) (e' := byE e o) (fun e => optV e.atw) he rfl]; exact k.at h.h6 (nin1 (Ne.symm n5))
  · exact MemsAt.congr (map_put (e := e) (e' := byE e o) Ent.mem he rfl).symm (h.mems.map fun a xs q => k.at q (nin1 (ne_of q h.h5 (fun z => by cases z))))
  · exact NotesAt.congr (map_put (e := e) (e' := byE e o) Ent.notes he rfl).symm (h.notes.map fun a ha xs q => k.at q (nin1 fun z => n7 (by rw [← z]; exact ha)))
def rowL (k t : Str) (m n : Addr) (c a : V) : List V := [.str k, .str t, .ref m, .ref n, c, a]
theorem row_ints {k t : Str} {m n : Addr} {c a : V} {l : List Nat} (h : memV l = rowL k t m n c a) : False := by
  cases l with
  | nil => cases h
  | cons x r => cases h
theorem row_strs {k t : Str} {m n : Addr} {c a : V} {l : List Str} (h : l.map V.str = rowL k t m n c a) : False := by
  match l, h with
  | [], h => cases h
  | [_], h => cases h
  | [_, _], h => cases h
  | _ :: _ :: _ :: _, h => cases h
theorem RowAt.other {bad : List Addr} {H : Hp} {r a : Addr} {e : Ent} {k t : Str} {m n : Addr} {c w : V} {o : HO} (h : RowAt bad H a e) (hr : H r = some (.lst (rowL k t m n c w))) (na : a ≠ r) : RowAt bad (upd H r o) a e := by
  obtain ⟨m', n', h1, h2, h3, h4, h5, h6⟩ := h
  refine ⟨m', n', h1, h2, h3, by rw [upd_ne na]; exact h4, ?_, ?_⟩
  · rw [upd_ne fun z => ?_]
    · exact h5
    · rw [z, hr] at h5
      exact row_ints (by injection h5 with q; injection q with q; exact q.symm)
  · rw [upd_ne fun z => ?_]
    · exact h6
    · rw [z, hr] at h6
      exact row_strs (by injection h6 with q; injection q with q; exact q.symm)
theorem RowsAt.other {bad : List Addr} {H : Hp} {r : Addr} {k t : Str} {m n : Addr} {c w : V} {o : HO} (hr : H r = some (.lst (rowL k t m n c w))) : ∀ {as : List Addr} {es : List Ent}, RowsAt bad H as es → r ∉ as → RowsAt bad (upd H r o) as es
  | [], [], _, _ => True.intro
  | _ :: as, _ :: es, h, n => ⟨h.1.other hr (fun z => n (by rw [z]; exact List.mem_cons_self)), RowsAt.other hr h.2 fun z => n (List.mem_cons_of_mem _ z)⟩
  | [], _ :: _, h, _ => h.elim
  | _ :: _, [], h, _ => h.elim
theorem RowsAt.at {bad : List Addr} {H : Hp} : ∀ {as : List Addr} {es : List Ent} {x : Nat} {e : Ent}, RowsAt bad H as es → es[x]? = some e → ∃ r, as[x]? = some r ∧ RowAt bad H r e
  | _, [], _, _, _, q => by simp at q
  | [], _ :: _, _, _, h, _ => h.elim
  | b :: as, f :: es, 0, e, h, q => by
    have e' : f = e := by simpa using q
    subst e'
    exact ⟨b, rfl, h.1⟩
  | b :: as, f :: es, x + 1, e, h, q => RowsAt.at (x := x) h.2 (by simpa using q)
theorem RowsAt.put {bad : List Addr} {H : Hp} {r : Addr} {e e' : Ent} {m n : Addr} (q1 : e'.kind = e.kind) (q2 : e'.text = e.text) (q3 : e'.mem = e.mem) (q4 : e'.notes = e.notes) (hm : m ∉ bad) (hn : n ∉ bad) (hr : H r = some (.lst (rowL e.kind e.text m n (optV e.cause) (optV e.atw)))) (h5 : H m = some (.lst (memV e.mem))) (h6 : H n = some (.lst (e.notes.map V.str))) : ∀ {as : List Addr} {es : List Ent} {x : Nat}, RowsAt bad H as es → as.Nodup → as[x]? = some r → es[x]? = some e → RowsAt bad (upd H r (.lst (rowL e.kind e.text m n (optV e'.cause) (optV e'.atw)))) as (es.set x e')
  | _, [], _, _, _, _, q => by simp at q
  | [], _ :: _, _, h, _, _, _ => h.elim
  | b :: as, f :: es, 0, h, nd, qa, qe => by
    have e1 : b = r := by simpa using qa
    subst e1
    obtain ⟨m', n', g1, _, _, _, _, _⟩ := h.1
    refine ⟨⟨m, n, g1, hm, hn, ?_, ?_, ?_⟩, RowsAt.other hr h.2 (List.nodup_cons.mp nd).1⟩
    · rw [upd_same, q1, q2]; rfl
    · rw [upd_ne fun z => ?_, q3]
      · exact h5
      · rw [z, hr] at h5
        exact row_ints (by injection h5 with q; injection q with q; exact q.symm)
    · rw [upd_ne fun z => ?_, q4]
      · exact h6
      · rw [z, hr] at h6
        exact row_strs (by injection h6 with q; injection q with q; exact q.symm)
  | b :: as, f :: es, x + 1, h, nd, qa, qe => by
    have ha : r ∈ as := List.mem_of_getElem? (by simpa using qa)
    refine ⟨h.1.other hr fun z => (List.nodup_cons.mp nd).1 (by rw [z]; exact ha), ?_⟩
    exact RowsAt.put q1 q2 q3 q4 hm hn hr h5 h6 h.2 (List.nodup_cons.mp nd).2 (by simpa using qa) (by simpa using qe)
/-- a row of the law's is none of the ledger's lists of notes -/
theorem NotesAt.norow {H : Hp} {r : Addr} {k t : Str} {m n : Addr} {c w : V} (hr : H r = some (.lst (rowL k t m n c w))) : ∀ {as : List Addr} {es : List Ent}, NotesAt H as es → r ∉ as
  | [], [], _ => fun z => absurd z List.not_mem_nil
  | a :: as, e :: es, h => fun z => by
    rcases List.mem_cons.mp z with z | z
    · have h1 := h.1
      rw [← z, hr] at h1
      exact row_strs (by injection h1 with q; injection q with q; exact q.symm)
    · exact NotesAt.norow hr h.2 z
  | [], _ :: _, h => h.elim
  | _ :: _, [], h => h.elim
end Fs
/-! The law's ledger. -/
namespace Fs
open PySem L2 TL
abbrev sLedg : Stmt := top 41
abbrev nLedg : List Str := ["_law_pairs", "_law_faults_here", "_law_ledger_here", "_law_kind", "_law_text_here", "_law_members_here", "_law_notes", "_law_cause", "_law_at_work"]
theorem scLedg : FnScope nLedg ["_law_pairs", "_law_faults_here"] (defScope sLedg) := ⟨rfl, rfl, rfl, by decide +kernel, rfl, by decide +kernel, by decide +kernel⟩
/-- what is changed came behind H, but for the table at Pt -/
theorem Keep.late {H H1 H2 : Hp} {Pt : Addr} {ex : List Addr} (k : Keep [Pt] H H1) (k2 : Keep ex H1 H2) (hx : ∀ b ∈ ex, b = Pt ∨ H b = none) : Keep [Pt] H H2 := fun b o hb e => k2 b o (fun z => by
  rcases hx b z with q | q
  · exact hb (by rw [q]; exact in1)
  · rw [q] at e; cases e) (k b o hb e)
theorem RowsAt.noTab {bad : List Addr} {H : Hp} {Pt : Addr} {tb : Array Value} (hT : H Pt = some (.tbl tb)) : ∀ {as : List Addr} {es : List Ent}, RowsAt bad H as es → RowsAt (Pt :: bad) H as es
  | [], [], _ => True.intro
  | _ :: as, _ :: es, h => by
    obtain ⟨m, n, h1, h2, h3, h4, h5, h6⟩ := h.1
    have no : ∀ {a : Addr} {xs : List V}, a ∉ bad → H a = some (.lst xs) → a ∉ Pt :: bad := fun ha e z => by
      rcases List.mem_cons.mp z with z | z
      · rw [z, hT] at e; cases e
      · exact ha z
    exact ⟨⟨m, n, no h1 h4, no h2 h5, no h3 h6, h4, h5, h6⟩, RowsAt.noTab hT h.2⟩
  | [], _ :: _, h => h.elim
  | _ :: _, [], h => h.elim
structure GLx (K : PySem.W.Frag) (mg : Str → Option Value) (C CK fI fIK fPl fSh : Addr) : Prop where
  cl : Cls K C
  gC : mg "Ledger" = some (.ref C)
  gK : mg "Kinds" = some (.ref CK)
  mkC : Mk K C fI
  mkK : Mk K CK fIK
  mP : Meth K C "plain" fPl
  mS : Meth K C "sheaf" fSh
  list : mg "list" = none
theorem flp (A : LA) : (fldsL A).lookup ("plain" : Str) = none := rfl
theorem fls (A : LA) : (fldsL A).lookup ("sheaf" : Str) = none := rfl
def spLedg (C CK Pt : Addr) : Sp := fun vs H Q _ => ∃ (l E : Addr) (rs : List Addr) (es : List Ent) (ps : List (Str × Str)), vs = [.ref l, .ref E] ∧ PairsAt H l ps ∧ Wf ps ∧ ps.length ≤ 30 ∧ H E = some (.lst (rs.map V.ref)) ∧ RowsAt [] H rs es ∧ Built ps es ∧ es.length ≤ 400 ∧ GxR.TabG H Pt ∧
  ∀ (q : Addr) (A : LA) (ms ns : List Addr) (H' : Hp), Keep [Pt] H H' → (∀ b ∈ A.ls, H b = none) → LedAt C H' q A ms ns es → (∀ b ∈ ns, H b = none) → GxR.TabG H' Pt → KindsAt CK H' A.kd ps → Q (.ref q) H'
section
variable {P : Program} {w : World} {K : PySem.W.Frag} {mg : Str → Option Value} {base : Heap} {C CK fI fIK fPl fSh Pt : Addr}
theorem ok_ledg {dI dIK dPl dSh fd : FuncData} {f : Addr} (F : Fun K "_law_ledger" "_law_ledger" sLedg f fd) (T : GLx K mg C CK fI fIK fPl fSh) (FI : FnOk P w K mg base CX0 1 fI dI ["self", "kinds"] (spLInit C)) (bI : Binds K dI ["self", "kinds"] [])
    (FIK : FnOk P w K mg base CX0 4 fIK dIK ["self", "pairs"] (spKInit CK Pt)) (bIK : Binds K dIK ["self", "pairs"] []) (FP : FnOk P w K mg base CX0 3 fPl dPl ["self", "kind", "text"] (spPlain C CK)) (bP : Binds K dPl ["self", "kind", "text"] []) (FS : FnOk P w K mg base CX0 4 fSh dSh ["self", "text", "members"] (spSheaf K C)) (bS : Binds K dSh ["self", "text", "members"] []) :
    FnOk P w K mg base CX0 6 f fd ["_law_pairs", "_law_faults_here"] (spLedg C CK Pt) := by
  refine F.ok scLedg (fun vs H Q E h => ?_) (fun cdv A0 outer s H vs Q Es hr h => ?_)
  · obtain ⟨l, E, rs, es, ps, rfl, _⟩ := h
    rfl
  · obtain ⟨l, E, rs, es, ps, rfl, hP, hw, hps, hE, hR, hB, h100, hTG, kk⟩ := h
    obtain ⟨tb0, hT, hTo⟩ := hTG
    have hr2 : Room 2 _ := hr.mono (by decide)
    have hr3 : Room 3 _ := hr.mono (by decide)
    have hr4 : Room 4 _ := hr.mono (by decide)
    refine ⟨_, pss_cons (ps_set (i := 2) scLedg.nd rfl (Or.inl rfl) (pe_make T.mkC FI hr2 rfl T.gC bI .nil pass0 (pa_cons (pe_make T.mkK FIK hr rfl T.gK bIK .nil pass0 (pa_cons (pe_callTy call_list_of (by rfl) T.list (by decide +kernel) (pa_cons (pv 0) pa_nil)) pa_nil)) pa_nil)))
      (pss_cons (ps_for PassesOwn.never rfl (pi_list (pv 1)) (pg_unl rfl (pgs_cons (pg_name (i := 3) scLedg.nd rfl (Or.inl rfl)) (pgs_cons (pg_name (i := 4) scLedg.nd rfl (Or.inl rfl)) (pgs_cons (pg_name (i := 5) scLedg.nd rfl (Or.inl rfl)) (pgs_cons (pg_name (i := 6) scLedg.nd rfl (Or.inl rfl)) (pgs_cons (pg_name (i := 7) scLedg.nd rfl (Or.inl rfl)) (pgs_cons (pg_name (i := 8) scLedg.nd rfl (Or.inl rfl)) pgs_nil)))))))
        (pss_one (ps_if (pt_cmpR (op_eqD hr.units) (pv 5) (pe_lst pa_nil) (nomark _))
          (pss_one (ps_expr (pe_meth (pv 2) T.cl T.mP FP hr3 bP .nil pass0 (pa_cons (pv 3) (pa_cons (pv 4) pa_nil)))))
          (pss_one (ps_expr (pe_meth (pv 2) T.cl T.mS FS hr4 bS .nil pass0 (pa_cons (pv 4) (pa_cons (pe_callTy call_list_of (by rfl) T.list (by decide +kernel) (pa_cons (pv 5) pa_nil)) pa_nil))))))))
      (pss_one (ps_ret (pv 2)))), ?_⟩
    -- list(pairs)
    obtain ⟨as, el, tl⟩ := id hP
    refine ⟨_, rfl, l, _, rfl, .inl (SqL.of el), fun l2 hl2 => ?_⟩
    have k3 : Keep [] H (upd H l2 (.lst (as.map V.ref))) := Keep.new hl2
    have P3 : PairsAt (upd H l2 (.lst (as.map V.ref))) l2 ps := ⟨as, upd_same, tl.map fun a xs q => k3.at q nin0⟩
    generalize (upd H l2 (.lst (as.map V.ref))) = H3 at k3 P3 ⊢
    -- Kinds(..)
    intro kd kx nkd nkx nkk
    have k4 : Keep [] H3 (upd (upd H3 kx (.own kd)) kd (.ins CK kx [])) := fun b o _ e => by
      rw [upd_ne (ne_of_none e nkd), upd_ne (ne_of_none e nkx)]
      exact e
    have e4 : (upd (upd H3 kx (.own kd)) kd (.ins CK kx [])) kd = some (.ins CK kx []) := upd_same
    generalize (upd (upd H3 kx (.own kd)) kd (.ins CK kx [])) = H4 at k4 e4 ⊢
    have hT4 : H4 Pt = some (.tbl tb0) := k4.at (k3.at hT nin0) nin0
    have P4 : PairsAt H4 l2 ps := P3.keep k4 nin0 (fun b z => absurd z nin0)
    refine ⟨kd, l2, kx, ps, rfl, e4, P4, hw, hps, ⟨tb0, hT4, hTo⟩, fun H5 k5 K5 T5 => ⟨rfl, ?_⟩⟩
    have kk4 : Keep [Pt] H H4 := (k3.more fun b z => absurd z nin0).trans (k4.more fun b z => absurd z nin0)
    have hnkd : H kd = none := Keep.free k3 nkd nin0
    have kk5 : Keep [Pt] H H5 := kk4.late k5 fun b hb => by
      rcases List.mem_cons.mp hb with z | z
      · exact .inr (by rw [z]; exact hnkd)
      · exact .inl (List.mem_singleton.mp z)
    obtain ⟨tb5, eT5, oT5⟩ := T5
    -- Ledger(..)
    intro q qx nq nqx nqq
    have k6 : Keep [] H5 (upd (upd H5 qx (.own q)) q (.ins C qx [])) := fun b o _ e => by
      rw [upd_ne (ne_of_none e nq), upd_ne (ne_of_none e nqx)]
      exact e
    have e6 : (upd (upd H5 qx (.own q)) q (.ins C qx [])) q = some (.ins C qx []) := upd_same
    generalize (upd (upd H5 qx (.own q)) q (.ins C qx [])) = H6 at k6 e6 ⊢
    refine ⟨q, kd, qx, rfl, e6, fun H7 A hA k7 led7 hnA => ⟨rfl, ?_⟩⟩
    have kk6 : Keep [Pt] H H6 := kk5.trans (k6.more fun b z => absurd z nin0)
    have hqT : q ≠ Pt := fun z => by rw [z, eT5] at nq; cases nq
    have hnq : H q = none := Keep.free kk5 nq (nin1 hqT)
    have kk7 : Keep [Pt] H H7 := kk6.late k7 fun b hb => .inr (by rw [List.mem_singleton.mp hb]; exact hnq)
    have eT6 : H6 Pt = some (.tbl tb5) := k6.at eT5 nin0
    have eT7 : H7 Pt = some (.tbl tb5) := k7.at eT6 (nin1 hqT.symm)
    have K7 : KindsAt CK H7 A.kd ps := by
      rw [hA]
      obtain ⟨dx, d, g1, g2⟩ := K5
      have n1 : kd ≠ q := ne_of_none g1 nq
      have n2 : d ≠ q := ne_of_none g2 nq
      exact ⟨dx, d, k7.at (k6.at g1 nin0) (nin1 n1), k7.at (k6.at g2 nin0) (nin1 n2)⟩
    have hA0 : ∀ b ∈ A.ls, H b = none := fun b hb => by
      refine Keep.free kk6 (hnA b hb) (nin1 fun z => ?_)
      have q1 := hnA b hb
      rw [z, eT6] at q1; cases q1
    have nEP : E ≠ Pt := fun z => by rw [z, hT] at hE; cases hE
    have hRT : RowsAt [Pt] H rs es := hR.noTab hT
    have lr := hR.len
    -- the walk
    refine ⟨_, rfl, E, rfl, ⟨_, SqL.of (kk7.at hE (nin1 nEP))⟩, ?_⟩
    refine for_list (xs := rs.map V.ref) (fun i σ G => ∃ (ms ns : List Addr) (v3 v4 v5 v6 v7 v8 : Option V), σ = [some (.ref l), some (.ref E), some (.ref q), v3, v4, v5, v6, v7, v8] ∧ LedAt C G q A ms ns (es.take i) ∧ KindsAt CK G A.kd ps ∧ Keep [Pt] H G ∧ G Pt = some (.tbl tb5) ∧ ∀ b ∈ ns, H b = none)
      ⟨[], [], none, none, none, none, none, none, rfl, led7, K7, kk7, eT7, fun b h => absurd h List.not_mem_nil⟩ (fun i σ G hi hI => ?_) (fun i x σ G hx hI => ?_) (fun σ G hI => ?_)
    · obtain ⟨ms, ns, v3, v4, v5, v6, v7, v8, _, _, _, kG, _, _⟩ := hI
      exact SqL.of (kG.at hE (nin1 nEP))
    · obtain ⟨ms, ns, v3, v4, v5, v6, v7, v8, rfl, led, kin, kG, eT, fr⟩ := hI
      have frs : ∀ {G' : Hp} {x : Addr}, Keep [Pt] H G' → G' Pt = some (.tbl tb5) → G' x = none → ∀ b ∈ ns ++ [x], H b = none := fun k t h b hb => by
        rcases List.mem_append.mp hb with z | z
        · exact fr b z
        · rw [List.mem_singleton.mp z]; exact Keep.free k h (nin1 fun z => by rw [z, t] at h; cases h)
      have hi : i < es.length := by
        have := (List.getElem?_eq_some_iff.mp hx).1
        rw [List.length_map] at this
        omega
      have he := List.getElem?_eq_getElem hi
      generalize es[i] = e at he
      obtain ⟨r, hq, m, n, _, _, _, g4, g5, g6⟩ := (hRT.keep kG).at he
      have ex : x = V.ref r := by
        rw [List.getElem?_map, hq] at hx
        exact (Option.some.inj hx).symm
      subst ex
      obtain ⟨f1, f2, f3, f4, f5, f6, f7⟩ := hB i e he
      have ht : (es.take i).length = i := by rw [List.length_take]; omega
      have htk : es.take (i + 1) = es.take i ++ [e] := by rw [List.take_add_one, he]; rfl
      have subA : ∀ {G' G'' : Hp}, Keep [Pt] H G' → Keep A.ls G' G'' → Keep [Pt] H G'' := fun a b => a.late b fun c hc => .inr (hA0 c hc)
      refine ⟨r, _, rfl, SqL.of g4, rfl, ?_⟩
      refine ⟨_, _, rfl, _, _, rfl, _, _, rfl, _, _, rfl, _, _, rfl, _, _, rfl, rfl, ?_⟩
      refine ⟨_, rfl, Nat.zero_le _, fun e2 he2 => ?_⟩
      have k1 : Keep [] G (upd G e2 (.lst [])) := Keep.new he2
      have a1 : (upd G e2 (.lst [])) e2 = some (.lst []) := upd_same
      generalize (upd G e2 (.lst [])) = G1 at k1 a1 ⊢
      have g51 := k1.at g5 nin0
      have led1 := led.keep k1 (fun b z => absurd z nin0) (fun b z => absurd z nin0)
      have kin1 := kin.keep k1 (fun b z => absurd z nin0)
      have kG1 := kG.trans (k1.more fun b z => absurd z nin0)
      have eT1 := k1.at eT nin0
      refine ⟨intsD e.mem, intsD [], dp_intsD g51, dp_intsD (l := []) a1, ints_shaped _, ints_shaped _, _, rfl, ?_⟩
      rw [ints_nil]
      have kinK : ∀ {G' G'' : Hp}, LedAt C G' q A ms ns (es.take i) → KindsAt CK G' A.kd ps → Keep A.ls G' G'' → KindsAt CK G'' A.kd ps := fun ld h k => h.keep k fun b hb => by
        obtain ⟨xs, e⟩ := ld.isl b hb
        exact ⟨_, e, (fun _ _ _ z => by cases z), fun _ z => by cases z⟩
      have noT : ∀ {G' : Hp}, LedAt C G' q A ms ns (es.take i) → G' Pt = some (.tbl tb5) → Pt ∉ A.ls := fun ld h z => by
        obtain ⟨xs, e⟩ := ld.isl Pt z
        rw [h] at e; cases e
      obtain ⟨ki, te, me, no, ca, aw⟩ := e
      simp only at f1 f2 f3 f4 f5 f6 f7
      subst f4 f5 f6
      cases me with
      | nil =>
        refine iteT ?_
        have ek := f7.1 rfl
        refine ⟨_, rfl, q, A.dx, _, rfl, led1.ins, flp A, _, rfl, _, rfl, q, A, ms, ns, es.take i, ki, te, ps, rfl, led1, kin1, ek, hw.not_sheaf ki ek, by omega, fun G2 t' n' k2 led2 hn2 => ?_⟩
        refine ⟨ms ++ [t'], ns ++ [n'], _, _, _, _, _, _, rfl, ?_, kinK led1 kin1 k2, subA kG1 k2, k2.at eT1 (noT led1 eT1), frs kG1 eT1 hn2⟩
        rw [htk]; exact led2
      | cons y ys =>
        refine iteF ?_
        have ek : ki = sS := f7.2 fun z => by cases z
        subst ek
        refine ⟨_, rfl, q, A.dx, _, rfl, led1.ins, fls A, _, rfl, _, rfl, m, _, rfl, .inl (SqL.of g51), fun m2 hm2 => ?_⟩
        have k2 : Keep [] G1 (upd G1 m2 (.lst (memV (y :: ys)))) := Keep.new hm2
        have em2 : (upd G1 m2 (.lst (memV (y :: ys)))) m2 = some (.lst (memV (y :: ys))) := upd_same
        have nmA : m2 ∉ A.ls := fun z => by
          obtain ⟨xs, e⟩ := led1.isl m2 z
          rw [e] at hm2; cases hm2
        have led2 := led1.keep k2 (fun b z => absurd z nin0) (fun b z => absurd z nin0)
        have kin2 := kin1.keep k2 (fun b z => absurd z nin0)
        have kG2 := kG1.trans (k2.more fun b z => absurd z nin0)
        have eT2 := k2.at eT1 nin0
        refine ⟨q, m2, A, ms, ns, es.take i, te, y :: ys, rfl, led2, SqL.of em2, nmA, (fun z => by cases z), fun k hk => ?_, by omega, fun G3 t' n' k3' led3 hn3 => ?_⟩
        · rw [ht]; exact f3 k hk
        refine ⟨ms ++ [t'], ns ++ [n'], _, _, _, _, _, _, rfl, ?_, kinK led2 kin2 k3', subA kG2 k3', k3'.at eT2 (noT led2 eT2), frs kG2 eT2 hn3⟩
        rw [htk]; exact led3
    · obtain ⟨ms, ns, v3, v4, v5, v6, v7, v8, rfl, led, kin, kG, eT, fr⟩ := hI
      rw [List.length_map, lr, List.take_length] at led
      exact ⟨_, rfl, kk q A ms ns G kG hA0 led fr ⟨_, eT, oT5⟩ kin⟩
end
end Fs
/-! The ledger's deeds: a cause, a note, a sheaf like another one. -/
namespace Fs
open PySem L2 TL
abbrev sLike : Stmt := inClass cLed 3
abbrev sNote : Stmt := inClass cLed 11
abbrev sBlame : Stmt := inClass cLed 12
abbrev sChkN : Stmt := inClass cLed 21
theorem scLike : FnScope ["self", "k", "members", "new"] ["self", "k", "members"] (defScope sLike) := ⟨rfl, rfl, rfl, by decide +kernel, rfl, by decide +kernel, by decide +kernel⟩
theorem scNote : FnScope ["self", "k", "text"] ["self", "k", "text"] (defScope sNote) := ⟨rfl, rfl, rfl, by decide +kernel, rfl, by decide +kernel, by decide +kernel⟩
theorem scBlame : FnScope ["self", "k", "j"] ["self", "k", "j"] (defScope sBlame) := ⟨rfl, rfl, rfl, by decide +kernel, rfl, by decide +kernel, by decide +kernel⟩
theorem scChkN : FnScope ["self", "j"] ["self", "j"] (defScope sChkN) := ⟨rfl, rfl, rfl, by decide +kernel, rfl, by decide +kernel, by decide +kernel⟩
def offE (e : Ent) (o : Option Nat) : Ent := { e with atw := o }
def noteE (e : Ent) (l : List Str) : Ent := { e with notes := l }
theorem iteNN {c A B : Prop} [Decidable c] (hc : ¬ c) (h : A) : if (!decide c) = true then A else B := by
  rw [decide_eq_false hc]
  exact iteT h
theorem ixN_nat {n k : Nat} (h : k < n) : ixN n (k : Int) = some k := by
  unfold ixN
  rw [if_pos (by omega), if_pos (by omega), Int.toNat_natCast]
theorem scal_opt (o : Option Nat) (k : Int) : scal (optV o) (.int k) = true := by cases o <;> rfl
theorem opt_ne {o : Option Nat} {k : Nat} (h : o ≠ some k) : ¬ optV o = V.int (k : Int) := fun z => by
  cases o with
  | none => cases z
  | some j =>
    have : (j : Int) = (k : Int) := V.int.inj z
    exact h (by rw [show j = k by omega])
theorem flnoN (A : LA) : (fldsL A).lookup ("_check_fault_or_none" : Str) = none := rfl
/-- what is at work for x -/
theorem LedAt.off {C : Addr} {H : Hp} {p : Addr} {A : LA} {ms ns : List Addr} {es : List Ent} (h : LedAt C H p A ms ns es) {x : Nat} {e : Ent} (o : Option Nat) (he : es[x]? = some e) : LedAt C (upd H A.l6 (.lst ((es.map fun e => optV e.atw).set x (optV o)))) p A ms ns (es.set x (offE e o)) := by
  obtain ⟨_, _, _, _, n1, n2, n3, n4, n5, _, n7⟩ := h.nes
  have k : Keep [A.l6] H (upd H A.l6 (.lst ((es.map fun e => optV e.atw).set x (optV o)))) := Keep.own in1
  refine ⟨k.at h.ins (nin1 (ne_of h.ins h.h6 (fun z => by cases z))), ?_, ?_, k.at h.h3 (nin1 n3), k.at h.h4 (nin1 n4), ?_, ?_, ?_, ?_, h.nd⟩
  · rw [map_put (e := e) (e' := offE e o) (fun e => V.str e.kind) he rfl]; exact k.at h.h1 (nin1 n1)
  · rw [map_put (e := e) (e' := offE e o) (fun e => V.str e.text) he rfl]; exact k.at h.h2 (nin1 n2)
  · rw [map_put (e := e) (e' := offE e o) (fun e => optV e.cause) he rfl]; exact k.at h.h5 (nin1 n5)
  · rw [upd_same, List.map_set]; rfl
  · exact MemsAt.congr (map_put (e := e) (e' := offE e o) Ent.mem he rfl).symm (h.mems.map fun a xs q => k.at q (nin1 (ne_of q h.h6 (fun z => by cases z))))
  · exact NotesAt.congr (map_put (e := e) (e' := offE e o) Ent.notes he rfl).symm (h.notes.map fun a ha xs q => k.at q (nin1 fun z => n7 (by rw [← z]; exact ha)))

theorem set_last {α : Type} (l : List α) (a b : α) : (l ++ [a]).set l.length b = l ++ [b] := by
  rw [List.set_append_right _ _ (Nat.le_refl _), Nat.sub_self]
  rfl
/-- one list of notes is written anew -/
theorem NotesAt.put {H : Hp} {n : Addr} {l : List Str} {e : Ent} : ∀ {as : List Addr} {es : List Ent} {x : Nat}, NotesAt H as es → as.Nodup → as[x]? = some n → es[x]? = some e → NotesAt (upd H n (.lst (l.map V.str))) as (es.set x (noteE e l))
  | _, [], _, _, _, _, q => by simp at q
  | [], _ :: _, _, h, _, _, _ => h.elim
  | b :: as, f :: es, 0, h, nd, qa, qe => by
    have e1 : b = n := by simpa using qa
    subst e1
    exact ⟨upd_same, h.2.map fun a ha xs q => by rw [upd_ne fun z => (List.nodup_cons.mp nd).1 (by rw [← z]; exact ha)]; exact q⟩
  | b :: as, f :: es, x + 1, h, nd, qa, qe => by
    have ha : n ∈ as := List.mem_of_getElem? (by simpa using qa)
    exact ⟨by rw [upd_ne fun z => (List.nodup_cons.mp nd).1 (by rw [z]; exact ha)]; exact h.1, NotesAt.put h.2 (List.nodup_cons.mp nd).2 (by simpa using qa) (by simpa using qe)⟩
theorem LedAt.note {C : Addr} {H : Hp} {p : Addr} {A : LA} {ms ns : List Addr} {es : List Ent} (h : LedAt C H p A ms ns es) {x : Nat} {e : Ent} {n : Addr} (l : List Str) (he : es[x]? = some e) (hn : ns[x]? = some n) : LedAt C (upd H n (.lst (l.map V.str))) p A ms ns (es.set x (noteE e l)) := by
  have hnm : n ∈ ns := List.mem_of_getElem? hn
  obtain ⟨d1, d2, d3⟩ := List.nodup_append.mp h.nd
  have no : ∀ a ∈ A.ls, a ≠ n := fun a ha => d3 a ha n hnm
  have k : Keep [n] H (upd H n (.lst (l.map V.str))) := Keep.own in1
  obtain ⟨i1, i2, i3, i4, i5, i6⟩ := l_in A
  obtain ⟨m, hm, hmc⟩ := h.notes.at he
  have hen : H n = some (.lst (e.notes.map V.str)) := by
    rw [hm] at hn
    rw [← Option.some.inj hn]; exact hmc
  refine ⟨k.at h.ins (nin1 (ne_of h.ins hen (fun z => by cases z))), ?_, ?_, k.at h.h3 (nin1 (no _ i3)), k.at h.h4 (nin1 (no _ i4)), ?_, ?_, ?_, NotesAt.put h.notes d2 hn he, h.nd⟩
  · rw [map_put (e := e) (e' := noteE e l) (fun e => V.str e.kind) he rfl]; exact k.at h.h1 (nin1 (no _ i1))
  · rw [map_put (e := e) (e' := noteE e l) (fun e => V.str e.text) he rfl]; exact k.at h.h2 (nin1 (no _ i2))
  · rw [map_put (e := e) (e' := noteE e l) (fun e => optV e.cause) he rfl]; exact k.at h.h5 (nin1 (no _ i5))
  · rw [map_put (e := e) (e' := noteE e l) (fun e => optV e.atw) he rfl]; exact k.at h.h6 (nin1 (no _ i6))
  · exact MemsAt.congr (map_put (e := e) (e' := noteE e l) Ent.mem he rfl).symm (h.mems.map fun a xs q => k.at q (nin1 (ne_of q hen (fun z => by cases z))))
theorem NotesAt.last {H : Hp} {n n2 : Addr} {e : Ent} {l : List Str} (hl : H n2 = some (.lst (l.map V.str))) : ∀ {as : List Addr} {es : List Ent}, NotesAt H (as ++ [n]) (es ++ [e]) → NotesAt H (as ++ [n2]) (es ++ [noteE e l])
  | [], [], _ => ⟨hl, True.intro⟩
  | _ :: as, _ :: es, h => ⟨h.1, NotesAt.last hl h.2⟩
  | [], _ :: es, h => by
    have := h.2
    cases es <;> exact this.elim
  | _ :: as, [], h => by
    have := h.2
    cases as <;> exact this.elim
/-- the last one's notes are another list -/
theorem LedAt.last {C : Addr} {H : Hp} {p : Addr} {A : LA} {ms ns : List Addr} {es : List Ent} {e : Ent} {n n2 : Addr} {l : List Str} (h : LedAt C H p A ms (ns ++ [n]) (es ++ [e])) (hl : H n2 = some (.lst (l.map V.str))) (hn : n2 ∉ A.ls ++ (ns ++ [n])) : LedAt C (upd H A.l4 (.lst ((ns ++ [n2]).map V.ref))) p A ms (ns ++ [n2]) (es ++ [noteE e l]) := by
  obtain ⟨d1, d2, d3⟩ := List.nodup_append.mp h.nd
  have k : Keep [A.l4] H (upd H A.l4 (.lst ((ns ++ [n2]).map V.ref))) := Keep.own in1
  obtain ⟨i1, i2, i3, i4, i5, i6⟩ := l_in A
  obtain ⟨n12, n13, n14, n15, n16, n23, n24, n25, n26, n34, n35, n36, n45, n46, n56⟩ := ls_ne h.nd
  simp only [List.mem_append, not_or] at hn
  have o4 : ∀ a ∈ ns ++ [n2], a ≠ A.l4 := fun a ha z => by
    rcases List.mem_append.mp ha with q | q
    · exact d3 A.l4 i4 a (List.mem_append_left _ q) z.symm
    · exact hn.1 (by rw [← List.mem_singleton.mp q, z]; exact i4)
  have mp : ∀ {β : Type} (f : Ent → β), f (noteE e l) = f e → (es ++ [noteE e l]).map f = (es ++ [e]).map f := fun f q => by rw [List.map_append, List.map_append, List.map_singleton, List.map_singleton, q]
  refine ⟨k.at h.ins (nin1 (ne_of h.ins h.h4 (fun z => by cases z))), ?_, ?_, k.at h.h3 (nin1 n34), upd_same, ?_, ?_, ?_, ?_, ?_⟩
  · rw [mp (fun e => V.str e.kind) rfl]; exact k.at h.h1 (nin1 n14)
  · rw [mp (fun e => V.str e.text) rfl]; exact k.at h.h2 (nin1 n24)
  · rw [mp (fun e => optV e.cause) rfl]; exact k.at h.h5 (nin1 n45.symm)
  · rw [mp (fun e => optV e.atw) rfl]; exact k.at h.h6 (nin1 n46.symm)
  · exact MemsAt.congr (mp Ent.mem rfl).symm (h.mems.map fun a xs q => k.at q (nin1 (ne_of q h.h4 (fun z => by cases z))))
  · exact (NotesAt.last hl h.notes).map fun a ha xs q => k.at q (nin1 (o4 a ha))
  · refine List.nodup_append.mpr ⟨d1, ?_, fun a ha b hb z => ?_⟩
    · refine List.nodup_append.mpr ⟨(List.nodup_append.mp d2).1, by simp, fun a ha b hb z => hn.2.1 ?_⟩
      rw [← List.mem_singleton.mp hb, ← z]; exact ha
    · rcases List.mem_append.mp hb with q | q
      · exact d3 a ha b (List.mem_append_left _ q) z
      · exact hn.1 (by rw [← List.mem_singleton.mp q, ← z]; exact ha)
def spChkN (C : Addr) : Sp := fun vs H Q _ => ∃ (p : Addr) (A : LA) (ms ns : List Addr) (es : List Ent) (o : Option Nat), vs = [.ref p, optV o] ∧ LedAt C H p A ms ns es ∧ (∀ j, o = some j → j < es.length) ∧ Q .non H
def spBlame (C : Addr) : Sp := fun vs H Q _ => ∃ (p : Addr) (A : LA) (ms ns : List Addr) (es : List Ent) (k : Nat) (e : Ent) (o : Option Nat), vs = [.ref p, .int (k : Int), optV o] ∧ LedAt C H p A ms ns es ∧ es[k]? = some e ∧ (∀ j, o = some j → j < es.length) ∧
  ∀ H' : Hp, Keep [A.l5] H H' → LedAt C H' p A ms ns (es.set k (byE e o)) → Q .non H'

def spNote (C : Addr) : Sp := fun vs H Q _ => ∃ (p : Addr) (A : LA) (ms ns : List Addr) (es : List Ent) (k : Nat) (e : Ent) (n : Addr) (t : Str), vs = [.ref p, .int (k : Int), .str t] ∧ LedAt C H p A ms ns es ∧ es[k]? = some e ∧ ns[k]? = some n ∧ e.notes.length ≤ 1000 ∧
  ∀ H' : Hp, Keep [n] H H' → LedAt C H' p A ms ns (es.set k (noteE e (e.notes ++ [t]))) → Q .non H'
section
variable {P : Program} {w : World} {K : PySem.W.Frag} {mg : Str → Option Value} {base : Heap} {C fA fCF fCT fCM : Addr}
theorem ok_chkN {f : Addr} {fd fdF : FuncData} (F : Fun K "_check_fault_or_none" "Ledger._check_fault_or_none" sChkN f fd) (T : LTxt K mg C fA fCF fCT fCM) (FF : FnOk P w K mg base CX0 2 fCF fdF ["self", "k"] (spChkF C)) (bF : Binds K fdF ["self", "k"] []) : FnOk P w K mg base CX0 3 f fd ["self", "j"] (spChkN C) := by
  refine F.ok scChkN (fun vs H Q E h => ?_) (fun cdv A outer s H vs Q E hr h => ?_)
  · obtain ⟨p, L, ms, ns, es, o, rfl, _⟩ := h
    rfl
  · obtain ⟨p, L, ms, ns, es, o, rfl, hL, ho, kk⟩ := h
    refine ⟨_, pss_one (ps_if (pt_cmpR op_notN (pv 1) pe_non (nomark _)) (pss_one (ps_expr (pe_meth (pv 0) T.cl T.mF FF hr bF .nil pass0 (pa_cons (pv 1) pa_nil)))) pss_nil), ?_⟩
    refine ⟨_, rfl, rfl, _, rfl, ?_⟩
    cases o with
    | none => exact iteNS rfl kk
    | some j =>
      refine iteNN (fun z => by cases z) ?_
      exact ⟨_, rfl, p, L.dx, _, rfl, hL.ins, flno L, _, rfl, p, L, ms, ns, es, j, rfl, hL, ho j rfl, kk⟩
theorem ok_blame {f fN : Addr} {fd fdF fdN : FuncData} (F : Fun K "blame" "Ledger.blame" sBlame f fd) (T : LTxt K mg C fA fCF fCT fCM) (FF : FnOk P w K mg base CX0 2 fCF fdF ["self", "k"] (spChkF C)) (bF : Binds K fdF ["self", "k"] [])
    (mN : Meth K C "_check_fault_or_none" fN) (FN : FnOk P w K mg base CX0 3 fN fdN ["self", "j"] (spChkN C)) (bN : Binds K fdN ["self", "j"] []) : FnOk P w K mg base CX0 4 f fd ["self", "k", "j"] (spBlame C) := by
  refine F.ok scBlame (fun vs H Q E h => ?_) (fun cdv A outer s H vs Q E hr h => ?_)
  · obtain ⟨p, L, ms, ns, es, k, e, o, rfl, _⟩ := h
    rfl
  · obtain ⟨p, L, ms, ns, es, k, e, o, rfl, hL, he, ho, kk⟩ := h
    have hk := (List.getElem?_eq_some_iff.mp he).1
    have hr2 : Room 2 _ := hr.mono (by decide)
    refine ⟨_, pss_cons (ps_expr (pe_meth (pv 0) T.cl T.mF FF hr2 bF .nil pass0 (pa_cons (pv 1) pa_nil)))
      (pss_cons (ps_expr (pe_meth (pv 0) T.cl mN FN hr bN .nil pass0 (pa_cons (pv 2) pa_nil)))
      (pss_one (ps_asg (pv 2) (pg_sub (pe_fld (pv 0) rfl) (pv 1) set_list)))), ?_⟩
    refine ⟨_, rfl, p, L.dx, _, rfl, hL.ins, flno L, _, rfl, p, L, ms, ns, es, k, rfl, hL, hk, ?_⟩
    refine ⟨_, rfl, p, L.dx, _, rfl, hL.ins, flnoN L, _, rfl, p, L, ms, ns, es, o, rfl, hL, ho, ?_⟩
    refine ⟨_, rfl, _, rfl, p, C, L.dx, _, _, rfl, hL.ins, T.cl, T.n5, fl5 L, _, rfl, L.l5, _, _, k, rfl, rfl, hL.h5, ixN_nat (by rw [List.length_map]; exact hk), ?_⟩
    exact kk _ (Keep.own in1) (hL.by' o he)

theorem ok_note {f : Addr} {fd fdF fdT : FuncData} (F : Fun K "note" "Ledger.note" sNote f fd) (T : LTxt K mg C fA fCF fCT fCM) (FF : FnOk P w K mg base CX0 2 fCF fdF ["self", "k"] (spChkF C)) (bF : Binds K fdF ["self", "k"] []) (FT : FnOk P w K mg base CX0 2 fCT fdT ["self", "text"] (spChkT C)) (bT : Binds K fdT ["self", "text"] []) : FnOk P w K mg base CX0 3 f fd ["self", "k", "text"] (spNote C) := by
  refine F.ok scNote (fun vs H Q E h => ?_) (fun cdv A outer s H vs Q E hr h => ?_)
  · obtain ⟨p, L, ms, ns, es, k, e, n, t, rfl, _⟩ := h
    rfl
  · obtain ⟨p, L, ms, ns, es, k, e, n, t, rfl, hL, he, hn, hlen, kk⟩ := h
    have hk := (List.getElem?_eq_some_iff.mp he).1
    refine ⟨_, pss_cons (ps_expr (pe_meth (pv 0) T.cl T.mF FF hr bF .nil pass0 (pa_cons (pv 1) pa_nil)))
      (pss_cons (ps_expr (pe_meth (pv 0) T.cl T.mT FT hr bT .nil pass0 (pa_cons (pv 2) pa_nil)))
      (pss_one (ps_expr (pe_bm PySem.F.plainAttrs_list PySem.F.slot_list_append PySem.F.type_list_append mt_append (pe_ix ix_list (pe_fld (pv 0) rfl) (pv 1) (fun _ _ => rfl)) (pa_cons (pv 2) pa_nil))))), ?_⟩
    refine ⟨_, rfl, p, L.dx, _, rfl, hL.ins, flno L, _, rfl, p, L, ms, ns, es, k, rfl, hL, hk, ?_⟩
    refine ⟨_, rfl, p, L.dx, _, rfl, hL.ins, flnoT L, _, rfl, p, t, rfl, ?_⟩
    obtain ⟨m, hm, hmc⟩ := hL.notes.at he
    have em : m = n := by rw [hm] at hn; exact Option.some.inj hn
    subst em
    refine ⟨_, rfl, p, C, L.dx, _, _, rfl, hL.ins, T.cl, T.n4, fl4 L, _, rfl, L.l4, _, _, V.ref m, rfl, rfl, SqL.of hL.h4, atI_nat (by rw [List.getElem?_map, hm]; rfl), .inl ⟨rfl, _, SqL.of hmc⟩, _, rfl, m, _, _, rfl, rfl, hmc, Nat.lt_of_le_of_lt (by rw [List.length_map]; exact hlen : (e.notes.map V.str).length ≤ 1000) (by decide), ?_⟩
    have := hL.note (e.notes ++ [t]) he hm
    rw [List.map_append] at this
    exact kk _ (Keep.own in1) this
end
end Fs
/-! A row of those at work, cut ahead of k. -/
namespace Fs
open PySem
/-- the row from o on, cut where k stands -/
inductive Cut (k : Nat) (es : List Ent) : Option Nat → List Ent → Prop where
  | nil : Cut k es none es
  | hit {h : Nat} {e : Ent} : es[h]? = some e → e.atw = some k → Cut k es (some h) (es.set h (offE e none))
  | step {h : Nat} {e : Ent} {es' : List Ent} : es[h]? = some e → e.atw ≠ some k → Cut k es e.atw es' → Cut k es (some h) es'
/-- the row ends, and leads to faults that are there -/
structure Row (es : List Ent) : Prop where
  fell : ∃ r : Nat → Nat, ∀ (x : Nat) (e : Ent) (y : Nat), es[x]? = some e → e.atw = some y → r y < r x
  there : ∀ (x : Nat) (e : Ent) (y : Nat), es[x]? = some e → e.atw = some y → y < es.length
theorem Cut.one {k : Nat} {es : List Ent} : ∀ {o : Option Nat} {a b : List Ent}, Cut k es o a → Cut k es o b → a = b := by
  intro o a b h
  induction h generalizing b with
  | nil => intro g; cases g; rfl
  | hit h1 h2 =>
    intro g
    cases g with
    | hit g1 g2 => rw [h1] at g1; cases g1; rfl
    | step g1 g2 g3 => rw [h1] at g1; cases g1; exact absurd h2 g2
  | step h1 h2 h3 ih =>
    intro g
    cases g with
    | hit g1 g2 => rw [h1] at g1; cases g1; exact absurd g2 h2
    | step g1 g2 g3 => rw [h1] at g1; cases g1; exact ih g3
theorem Cut.some' {k : Nat} {es : List Ent} (R : Row es) : ∀ o : Option Nat, (∀ h, o = some h → h < es.length) → ∃ es', Cut k es o es' := by
  obtain ⟨r, hr⟩ := R.fell
  have main : ∀ n h, r h ≤ n → h < es.length → ∃ es', Cut k es (some h) es' := by
    intro n
    induction n with
    | zero =>
      intro h hn hl
      have he := List.getElem?_eq_getElem hl
      generalize es[h] = e at he
      cases q : e.atw with
      | none => exact ⟨es, .step he (by rw [q]; exact fun z => by cases z) (by rw [q]; exact .nil)⟩
      | some y =>
        have := hr h e y he q
        omega
    | succ n ih =>
      intro h hn hl
      have he := List.getElem?_eq_getElem hl
      generalize es[h] = e at he
      cases q : e.atw with
      | none => exact ⟨es, .step he (by rw [q]; exact fun z => by cases z) (by rw [q]; exact .nil)⟩
      | some y =>
        by_cases hk : y = k
        · exact ⟨_, .hit he (by rw [q, hk])⟩
        · have h1 := hr h e y he q
          obtain ⟨es', c⟩ := ih y (by omega) (R.there h e y he q)
          exact ⟨es', .step he (by rw [q]; exact fun z => hk (Option.some.inj z)) (by rw [q]; exact c)⟩
  intro o ho
  cases o with
  | none => exact ⟨es, .nil⟩
  | some h => exact main _ h (Nat.le_refl _) (ho h rfl)
/-- each fault is as it was, but for what is at work for it -/
def Alike (e e' : Ent) : Prop := e'.kind = e.kind ∧ e'.text = e.text ∧ e'.mem = e.mem ∧ e'.notes = e.notes ∧ e'.cause = e.cause
theorem Cut.at {k : Nat} {es : List Ent} {o : Option Nat} {es' : List Ent} (h : Cut k es o es') : es'.length = es.length ∧ ∀ (x : Nat) (e : Ent), es[x]? = some e → es'[x]? = some e ∨ es'[x]? = some (offE e none) := by
  induction h with
  | nil => exact ⟨rfl, fun x e q => .inl q⟩
  | @hit h e h1 h2 =>
    refine ⟨List.length_set .., fun x f q => ?_⟩
    by_cases z : h = x
    · subst z
      rw [h1] at q; cases q
      exact .inr (List.getElem?_set_self (List.getElem?_eq_some_iff.mp h1).1)
    · exact .inl (by rw [List.getElem?_set_ne z]; exact q)
  | step h1 h2 h3 ih => exact ih
theorem Cut.back {k : Nat} {es : List Ent} {o : Option Nat} {es' : List Ent} (h : Cut k es o es') {x : Nat} {e : Ent} (q : es'[x]? = some e) : ∃ f, es[x]? = some f ∧ (e = f ∨ e = offE f none) := by
  obtain ⟨l, c⟩ := h.at
  have hx : x < es.length := by rw [← l]; exact (List.getElem?_eq_some_iff.mp q).1
  refine ⟨es[x], List.getElem?_eq_getElem hx, ?_⟩
  rcases c x es[x] (List.getElem?_eq_getElem hx) with z | z
  · rw [z] at q; exact .inl (Option.some.inj q).symm
  · rw [z] at q; exact .inr (Option.some.inj q).symm
theorem Cut.row {k : Nat} {es : List Ent} {o : Option Nat} {es' : List Ent} (h : Cut k es o es') (R : Row es) : Row es' := by
  obtain ⟨r, hr⟩ := R.fell
  refine ⟨⟨r, fun x e y q a => ?_⟩, fun x e y q a => ?_⟩
  · obtain ⟨f, hf, z⟩ := h.back q
    rcases z with z | z
    · rw [z] at a; exact hr x f y hf a
    · rw [z] at a; cases a
  · obtain ⟨f, hf, z⟩ := h.back q
    rw [h.at.1]
    rcases z with z | z
    · rw [z] at a; exact R.there x f y hf a
    · rw [z] at a; cases a
/-- k stands on the row from o on -/
inductive On (es : List Ent) (k : Nat) : Option Nat → Prop where
  | here : On es k (some k)
  | far {h : Nat} {e : Ent} : es[h]? = some e → On es k e.atw → On es k (some h)
theorem Cut.off {k : Nat} {es : List Ent} {o : Option Nat} {es' : List Ent} (h : Cut k es o es') (n : o ≠ some k) : ¬ On es' k o := by
  have aux := h.at
  induction h with
  | nil => intro z; cases z
  | @hit h e h1 h2 =>
    intro z
    cases z with
    | here => exact n rfl
    | far q g =>
      rw [List.getElem?_set_self (List.getElem?_eq_some_iff.mp h1).1] at q
      cases q
      cases g
  | @step h e es' h1 h2 h3 ih =>
    intro z
    cases z with
    | here => exact n rfl
    | far q g =>
      rcases aux.2 h e h1 with y | y
      · rw [y] at q; cases q
        exact ih h2 aux g
      · rw [y] at q; cases q
        cases g
/-- k rises while j is at work -/
inductive Risen (es : List Ent) (k : Nat) : Option Nat → List Ent → Prop where
  | non : Risen es k none es
  | own : Risen es k (some k) es
  | new {j : Nat} {e : Ent} {es' : List Ent} : j ≠ k → Cut k es (some j) es' → es'[k]? = some e → Risen es k (some j) (es'.set k (offE e (some j)))
theorem set_row {es : List Ent} {k j : Nat} {e : Ent} (R : Row es) (hk : es[k]? = some e) (hj : j < es.length) (n : ¬ On es k (some j)) : Row (es.set k (offE e (some j))) := by
  classical
  obtain ⟨r, hr⟩ := R.fell
  have kl := (List.getElem?_eq_some_iff.mp hk).1
  refine ⟨⟨fun x => if On es k (some x) then r x + r j + 1 else r x, fun x f y q a => ?_⟩, fun x f y q a => ?_⟩
  · by_cases z : k = x
    · subst z
      rw [List.getElem?_set_self kl] at q
      cases q
      have ey : j = y := Option.some.inj a
      subst ey
      simp only [if_neg n, if_pos (On.here (es := es) (k := k))]
      omega
    · rw [List.getElem?_set_ne z] at q
      have h1 := hr x f y q a
      by_cases o : On es k (some x)
      · have oy : On es k (some y) := by
          cases o with
          | here => exact absurd rfl z
          | far q2 g => rw [q] at q2; cases q2; rw [a] at g; exact g
        simp only [if_pos o, if_pos oy]
        omega
      · have oy : ¬ On es k (some y) := fun g => o (.far q (by rw [a]; exact g))
        simp only [if_neg o, if_neg oy]
        exact h1
  · rw [List.length_set]
    by_cases z : k = x
    · subst z
      rw [List.getElem?_set_self kl] at q
      cases q
      have ey : j = y := Option.some.inj a
      rw [← ey]; exact hj
    · rw [List.getElem?_set_ne z] at q
      exact R.there x f y q a
theorem Risen.row {es es' : List Ent} {k : Nat} {o : Option Nat} (h : Risen es k o es') (R : Row es) (ho : ∀ j, o = some j → j < es.length) : Row es' := by
  cases h with
  | non => exact R
  | own => exact R
  | @new j e es' n c q => exact set_row (c.row R) q (by rw [c.at.1]; exact ho j rfl) (c.off fun z => n (Option.some.inj z))
theorem Risen.one {es a b : List Ent} {k : Nat} {o : Option Nat} (h : Risen es k o a) (g : Risen es k o b) : a = b := by
  cases h with
  | non => cases g; rfl
  | own =>
    cases g with
    | own => rfl
    | new n c q => exact absurd rfl n
  | new n c q =>
    cases g with
    | own => exact absurd rfl n
    | new n' c' q' =>
      have e := c.one c'
      subst e
      rw [q] at q'; cases q'; rfl
theorem Risen.len {es es' : List Ent} {k : Nat} {o : Option Nat} (h : Risen es k o es') : es'.length = es.length := by
  cases h with
  | non => rfl
  | own => rfl
  | new n c q => rw [List.length_set]; exact c.at.1
theorem Risen.some' {es : List Ent} {k : Nat} {o : Option Nat} (R : Row es) (hk : k < es.length) (ho : ∀ j, o = some j → j < es.length) : ∃ es', Risen es k o es' := by
  cases o with
  | none => exact ⟨es, .non⟩
  | some j =>
    by_cases z : j = k
    · subst z; exact ⟨es, .own⟩
    · obtain ⟨es', c⟩ := Cut.some' (k := k) R (some j) ho
      have hk' : k < es'.length := by rw [c.at.1]; exact hk
      exact ⟨_, .new z c (List.getElem?_eq_getElem hk')⟩
theorem Risen.all {p : Ent → Prop} {es es' : List Ent} {k : Nat} {o : Option Nat} (h : Risen es k o es') (hj : ∀ (e : Ent) (j : Nat), p e → o = some j → p (offE e (some j))) (hn : ∀ e, p e → p (offE e none)) (ha : ∀ e ∈ es, p e) : ∀ e ∈ es', p e := by
  have cut : ∀ {o a}, Cut k es o a → ∀ e ∈ a, p e := by
    intro o a c
    induction c with
    | nil => exact ha
    | hit h1 h2 =>
      intro e he
      rcases List.mem_or_eq_of_mem_set he with q | q
      · exact ha e q
      · rw [q]; exact hn _ (ha _ (List.mem_of_getElem? h1))
    | step h1 h2 h3 ih => exact ih
  cases h with
  | non => exact ha
  | own => exact ha
  | @new j e es' n c q =>
    intro f hf
    rcases List.mem_or_eq_of_mem_set hf with z | z
    · exact cut c f z
    · rw [z]; exact hj _ j (cut c e (List.mem_of_getElem? q)) rfl
end Fs
/-! The ledger's deeds: a cause, a rising. -/
namespace Fs
open PySem L2 TL
abbrev sRise : Stmt := inClass cLed 13
abbrev sCut : Stmt := inClass cLed 19
abbrev nCut : List Str := ["self", "j", "k", "number"]
theorem scRise : FnScope ["self", "k", "j"] ["self", "k", "j"] (defScope sRise) := ⟨rfl, rfl, rfl, by decide +kernel, rfl, by decide +kernel, by decide +kernel⟩
theorem scCut : FnScope nCut ["self", "j", "k"] (defScope sCut) := ⟨rfl, rfl, rfl, by decide +kernel, rfl, by decide +kernel, by decide +kernel⟩
theorem flnoC (A : LA) : (fldsL A).lookup ("_cut_row" : Str) = none := rfl
def spCut (C : Addr) : Sp := fun vs H Q _ => ∃ (p : Addr) (A : LA) (ms ns : List Addr) (es : List Ent) (j k : Nat), vs = [.ref p, .int (j : Int), .int (k : Int)] ∧ LedAt C H p A ms ns es ∧ j < es.length ∧ Row es ∧
  ∀ (H' : Hp) (es' : List Ent), Cut k es (some j) es' → Keep [A.l6] H H' → LedAt C H' p A ms ns es' → Q .non H'
def spRise (C : Addr) : Sp := fun vs H Q _ => ∃ (p : Addr) (A : LA) (ms ns : List Addr) (es : List Ent) (k : Nat) (o : Option Nat), vs = [.ref p, .int (k : Int), optV o] ∧ LedAt C H p A ms ns es ∧ k < es.length ∧ (∀ j, o = some j → j < es.length) ∧ Row es ∧
  ∀ (H' : Hp) (es' : List Ent), Risen es k o es' → Keep [A.l6] H H' → LedAt C H' p A ms ns es' → Q .non H'
section
variable {P : Program} {w : World} {K : PySem.W.Frag} {mg : Str → Option Value} {base : Heap} {C fA fCF fCT fCM : Addr}
theorem ok_cut {f : Addr} {fd : FuncData} (F : Fun K "_cut_row" "Ledger._cut_row" sCut f fd) (T : LTxt K mg C fA fCF fCT fCM) : FnOk P w K mg base CX0 1 f fd ["self", "j", "k"] (spCut C) := by
  refine F.ok scCut (fun vs H Q E h => ?_) (fun cdv A outer s H vs Q E hr h => ?_)
  · obtain ⟨p, L, ms, ns, es, j, k, rfl, _⟩ := h
    rfl
  · obtain ⟨p, L, ms, ns, es, j, k, rfl, hL, hj, R, kk⟩ := h
    refine ⟨_, pss_cons (ps_set (i := 3) scCut.nd rfl (Or.inl rfl) (pv 1))
      (pss_cons (ps_while PassesOwn.never (PW.pt (pw_and (pt_cmpR op_notN (pv 3) pe_non (nomark _)) (pw_and1 (pt_cmpR op_ne (pe_ix ix_list (pe_fld (pv 0) rfl) (pv 3) (fun _ _ => rfl)) (pv 2) (nomark _)))))
        (pss_one (ps_set (i := 3) scCut.nd rfl (Or.inl rfl) (pe_ix ix_list (pe_fld (pv 0) rfl) (pv 3) (fun _ _ => rfl)))))
      (pss_one (ps_if (pt_cmpR op_notN (pv 3) pe_non (nomark _)) (pss_one (ps_asg pe_non (pg_sub (pe_fld (pv 0) rfl) (pv 3) set_list))) pss_nil))), ?_⟩
    obtain ⟨es', c0⟩ := Cut.some' (k := k) R (some j) (fun h e => by rw [← Option.some.inj e]; exact hj)
    obtain ⟨r, hr'⟩ := R.fell
    refine ⟨_, rfl, ?_⟩
    refine ⟨fun m σ G => ∃ o : Option Nat, σ = [some (.ref p), some (.int (j : Int)), some (.int (k : Int)), some (optV o)] ∧ G = H ∧ m = (match o with | none => 0 | some h => r h + 1) ∧ Cut k es o es', ⟨_, some j, rfl, rfl, rfl, c0⟩, ?_⟩
    rintro m σ G ⟨o, rfl, rfl, rfl, c⟩
    refine ⟨_, rfl, rfl, _, rfl, ?_⟩
    cases c with
    | nil =>
      refine iteNS rfl (iteF ?_)
      refine ⟨_, rfl, rfl, _, rfl, iteNS rfl ?_⟩
      exact kk G es c0 (Keep.refl _ _) hL
    | @hit h e h1 h2 =>
      refine iteNN (fun z => by cases z) ?_
      refine ⟨_, rfl, p, C, L.dx, _, _, rfl, hL.ins, T.cl, T.n6, fl6 L, _, rfl, L.l6, _, _, optV e.atw, rfl, rfl, SqL.of hL.h6, atI_nat (by rw [List.getElem?_map, h1]; rfl), _, rfl, scal_opt _ _, _, rfl, ?_⟩
      rw [decide_eq_true (by rw [h2]; rfl)]
      refine iteF ?_
      refine ⟨_, rfl, rfl, _, rfl, iteNN (fun z => by cases z) ?_⟩
      refine ⟨_, rfl, p, C, L.dx, _, _, rfl, hL.ins, T.cl, T.n6, fl6 L, _, rfl, L.l6, _, _, h, rfl, rfl, hL.h6, ixN_nat (by rw [List.length_map]; exact (List.getElem?_eq_some_iff.mp h1).1), ?_⟩
      exact kk _ _ c0 (Keep.own in1) (hL.off none h1)
    | @step h e _ h1 h2 h3 =>
      refine iteNN (fun z => by cases z) ?_
      refine ⟨_, rfl, p, C, L.dx, _, _, rfl, hL.ins, T.cl, T.n6, fl6 L, _, rfl, L.l6, _, _, optV e.atw, rfl, rfl, SqL.of hL.h6, atI_nat (by rw [List.getElem?_map, h1]; rfl), _, rfl, scal_opt _ _, _, rfl, ?_⟩
      rw [decide_eq_false (opt_ne h2)]
      refine iteT ⟨fun σ' G' => σ' = [some (.ref p), some (.int (j : Int)), some (.int (k : Int)), some (optV e.atw)] ∧ G' = G, ?_, ?_⟩
      · rintro σ' G' ⟨rfl, rfl⟩
        refine ⟨_, ?_, e.atw, rfl, rfl, rfl, h3⟩
        cases q : e.atw with
        | none => exact Nat.succ_pos _
        | some y =>
          have := hr' h e y h1 q
          show r y + 1 < r h + 1
          omega
      · exact ⟨_, rfl, p, C, L.dx, _, _, rfl, hL.ins, T.cl, T.n6, fl6 L, _, rfl, L.l6, _, _, optV e.atw, rfl, rfl, SqL.of hL.h6, atI_nat (by rw [List.getElem?_map, h1]; rfl), rfl, rfl⟩
theorem ok_rise {f fN fC : Addr} {fd fdF fdN fdC : FuncData} (F : Fun K "rise" "Ledger.rise" sRise f fd) (T : LTxt K mg C fA fCF fCT fCM) (FF : FnOk P w K mg base CX0 2 fCF fdF ["self", "k"] (spChkF C)) (bF : Binds K fdF ["self", "k"] [])
    (mN : Meth K C "_check_fault_or_none" fN) (FN : FnOk P w K mg base CX0 3 fN fdN ["self", "j"] (spChkN C)) (bN : Binds K fdN ["self", "j"] []) (mC : Meth K C "_cut_row" fC) (FC : FnOk P w K mg base CX0 1 fC fdC ["self", "j", "k"] (spCut C)) (bC : Binds K fdC ["self", "j", "k"] []) : FnOk P w K mg base CX0 4 f fd ["self", "k", "j"] (spRise C) := by
  refine F.ok scRise (fun vs H Q E h => ?_) (fun cdv A outer s H vs Q E hr h => ?_)
  · obtain ⟨p, L, ms, ns, es, k, o, rfl, _⟩ := h
    rfl
  · obtain ⟨p, L, ms, ns, es, k, o, rfl, hL, hk, ho, R, kk⟩ := h
    have hr1 : Room 1 _ := hr.mono (by decide)
    have hr2 : Room 2 _ := hr.mono (by decide)
    refine ⟨_, pss_cons (ps_expr (pe_meth (pv 0) T.cl T.mF FF hr2 bF .nil pass0 (pa_cons (pv 1) pa_nil)))
      (pss_cons (ps_expr (pe_meth (pv 0) T.cl mN FN hr bN .nil pass0 (pa_cons (pv 2) pa_nil)))
      (pss_cons (ps_if (PW.pt (pw_or (pt_cmpR op_isN (pv 2) pe_non (nomark _)) (pw_or1 (pt_cmpR op_eq (pv 2) (pv 1) (nomark _))))) (pss_one ps_retN) pss_nil)
      (pss_cons (ps_expr (pe_meth (pv 0) T.cl mC FC hr1 bC .nil pass0 (pa_cons (pv 2) (pa_cons (pv 1) pa_nil))))
      (pss_one (ps_asg (pv 2) (pg_sub (pe_fld (pv 0) rfl) (pv 1) set_list)))))), ?_⟩
    refine ⟨_, rfl, p, L.dx, _, rfl, hL.ins, flno L, _, rfl, p, L, ms, ns, es, k, rfl, hL, hk, ?_⟩
    refine ⟨_, rfl, p, L.dx, _, rfl, hL.ins, flnoN L, _, rfl, p, L, ms, ns, es, o, rfl, hL, ho, ?_⟩
    refine ⟨_, rfl, rfl, _, rfl, ?_⟩
    cases o with
    | none =>
      rw [decide_eq_true (show optV none = V.non from rfl)]
      exact iteT (iteT (kk H es .non (Keep.refl _ _) hL))
    | some j =>
      rw [decide_eq_false (show ¬ optV (some j) = V.non from fun z => by cases z)]
      refine iteF ⟨_, rfl, _, rfl, rfl, _, rfl, ?_⟩
      by_cases z : j = k
      · rw [decide_eq_true (show optV (some j) = V.int (k : Int) by rw [z]; rfl)]
        refine iteT ?_
        rw [z] at kk
        exact kk H es .own (Keep.refl _ _) hL
      · rw [decide_eq_false (opt_ne (fun q => z (Option.some.inj q)))]
        refine iteF ?_
        refine ⟨_, rfl, p, L.dx, _, rfl, hL.ins, flnoC L, _, rfl, _, rfl, p, L, ms, ns, es, j, k, rfl, hL, ho j rfl, R, fun H1 es1 c k1 hL1 => ?_⟩
        have hk1 : k < es1.length := by rw [c.at.1]; exact hk
        refine ⟨_, rfl, _, rfl, p, C, L.dx, _, _, rfl, hL1.ins, T.cl, T.n6, fl6 L, _, rfl, L.l6, _, _, k, rfl, rfl, hL1.h6, ixN_nat (by rw [List.length_map]; exact hk1), ?_⟩
        have he := List.getElem?_eq_getElem hk1
        exact kk _ _ (.new z c he) (k1.trans (Keep.own in1)) (hL1.off (some j) he)
end
end Fs
/-! What rises, by the law; a row written anew. -/
namespace Fs
open PySem L2 TL
theorem RowsAt.set {bad : List Addr} {H : Hp} {r : Addr} {e e' : Ent} {m n n0 : Addr} {c0 a0 : V} (q1 : e'.kind = e.kind) (q2 : e'.text = e.text) (q3 : e'.mem = e.mem) (hm : m ∉ bad) (hn : n ∉ bad) (hr : H r = some (.lst (rowL e.kind e.text m n0 c0 a0))) (h5 : H m = some (.lst (memV e.mem))) (h6 : H n = some (.lst (e'.notes.map V.str))) : ∀ {as : List Addr} {es : List Ent} {x : Nat}, RowsAt bad H as es → as.Nodup → as[x]? = some r → es[x]? = some e → RowsAt bad (upd H r (.lst (rowL e.kind e.text m n (optV e'.cause) (optV e'.atw)))) as (es.set x e')
  | _, [], _, _, _, _, q => by simp at q
  | [], _ :: _, _, h, _, _, _ => h.elim
  | b :: as, f :: es, 0, h, nd, qa, qe => by
    have e1 : b = r := by simpa using qa
    subst e1
    obtain ⟨m', n', g1, _, _, _, _, _⟩ := h.1
    refine ⟨⟨m, n, g1, hm, hn, ?_, ?_, ?_⟩, RowsAt.other hr h.2 (List.nodup_cons.mp nd).1⟩
    · rw [upd_same, q1, q2]; rfl
    · rw [upd_ne fun z => ?_, q3]
      · exact h5
      · rw [z, hr] at h5
        exact row_ints (by injection h5 with q; injection q with q; exact q.symm)
    · rw [upd_ne fun z => ?_]
      · exact h6
      · rw [z, hr] at h6
        exact row_strs (by injection h6 with q; injection q with q; exact q.symm)
  | b :: as, f :: es, x + 1, h, nd, qa, qe => by
    have ha : r ∈ as := List.mem_of_getElem? (by simpa using qa)
    refine ⟨h.1.other hr fun z => (List.nodup_cons.mp nd).1 (by rw [z]; exact ha), ?_⟩
    exact RowsAt.set q1 q2 q3 hm hn hr h5 h6 h.2 (List.nodup_cons.mp nd).2 (by simpa using qa) (by simpa using qe)
theorem refs_row {rs : List Addr} {k t : Str} {m n : Addr} {c a : V} (h : rs.map V.ref = rowL k t m n c a) : False := by
  cases rs with
  | nil => cases h
  | cons x r => cases h
theorem fewer {α : Type} [DecidableEq α] : ∀ {l ts : List α}, l.Nodup → (∀ x ∈ l, x ∈ ts) → l.length ≤ ts.length
  | [], ts, _, _ => Nat.zero_le _
  | a :: r, ts, nd, h => by
    have h1 := h a List.mem_cons_self
    have h2 := fewer (l := r) (ts := ts.erase a) (List.nodup_cons.mp nd).2 fun x hx => (List.mem_erase_of_ne (fun z => (List.nodup_cons.mp nd).1 (by rw [← z]; exact hx))).mpr (h x (List.mem_cons_of_mem _ hx))
    rw [List.length_erase_of_mem h1] at h2
    have := List.length_pos_of_mem h1
    rw [List.length_cons]
    omega
theorem fewN {l : List Nat} {n : Nat} (nd : l.Nodup) (h : ∀ x ∈ l, x < n) : l.length ≤ n := by
  have := fewer nd (ts := List.range n) fun x hx => List.mem_range.mpr (h x hx)
  rwa [List.length_range] at this
abbrev sRiL : Stmt := top 42 --def _law_rise
abbrev nRiL : List Str := ["_law_faults_here", "_law_k", "_law_j", "_law_here", "_law_turn"]
theorem scRiL : FnScope nRiL ["_law_faults_here", "_law_k", "_law_j"] (defScope sRiL) := ⟨rfl, rfl, rfl, by decide +kernel, rfl, by decide +kernel, by decide +kernel⟩
def spRiL : Sp := fun vs H Q _ => ∃ (E : Addr) (k j : Nat) (bad rs : List Addr) (es : List Ent), vs = [.ref E, .int (k : Int), .int (j : Int)] ∧ H E = some (.lst (rs.map V.ref)) ∧ RowsAt bad H rs es ∧ rs.Nodup ∧ k < es.length ∧ j < es.length ∧ es.length ≤ 10000 ∧ Row es ∧
  ∀ (H' : Hp) (es' : List Ent), Risen es k (some j) es' → Keep rs H H' → RowsAt bad H' rs es' → Q .non H'
section
variable {P : Program} {w : World} {K : PySem.W.Frag} {mg : Str → Option Value} {base : Heap}
theorem ok_riL {f : Addr} {fd : FuncData} (F : Fun K "_law_rise" "_law_rise" sRiL f fd) (mL : mg "len" = none) (mR : mg "range" = none) : FnOk P w K mg base CX0 1 f fd ["_law_faults_here", "_law_k", "_law_j"] spRiL := by
  refine F.ok scRiL (fun vs H Q E h => ?_) (fun cdv A outer s H vs Q Es hr h => ?_)
  · obtain ⟨E, k, j, bad, rs, es, rfl, _⟩ := h
    rfl
  · obtain ⟨E, k, j, bad, rs, es, rfl, hE, hR, hnd, hk, hj, h400, R, kk⟩ := h
    refine ⟨_, pss_cons (ps_set (i := 3) scRiL.nd rfl (Or.inl rfl) (pv 2))
      (pss_cons (ps_for PassesOwn.never rfl (pi_range1 rfl mR (pa_cons (pe_callB call_len_seq (by rfl) mL PySem.boot_len (pa_cons (pv 0) pa_nil)) pa_nil)) (pg_name (i := 4) scRiL.nd rfl (Or.inl rfl))
        (pss_one (ps_if (PW.pt (pw_and (pt_cmpR op_notN (pv 3) pe_non (nomark _)) (pw_and1 (pt_cmpR op_ne (pv 1) (pv 2) (nomark _)))))
          (pss_cons (ps_if (pt_cmpR op_eq (pe_ix ix_list (pe_ix ix_list (pv 0) (pv 3) (fun _ _ => rfl)) pe_int (fun _ _ => rfl)) (pv 1) (nomark _)) (pss_one (ps_asg pe_non (pg_sub (pe_ix ix_list (pv 0) (pv 3) (fun _ _ => rfl)) pe_int set_list))) pss_nil)
          (pss_one (ps_set (i := 3) scRiL.nd rfl (Or.inl rfl) (pe_ix ix_list (pe_ix ix_list (pv 0) (pv 3) (fun _ _ => rfl)) pe_int (fun _ _ => rfl))))) pss_nil)))
      (pss_one (ps_if (pt_cmpR op_ne (pv 1) (pv 2) (nomark _)) (pss_one (ps_asg (pv 2) (pg_sub (pe_ix ix_list (pv 0) (pv 1) (fun _ _ => rfl)) pe_int set_list))) pss_nil))), ?_⟩
    have lr := hR.len
    refine ⟨_, rfl, ?_⟩
    refine ⟨_, rfl, E, _, rfl, .inl (SqL.of hE), _, rfl, by rw [List.length_map, lr]; omega, by rw [List.length_map, lr]; omega, ?_⟩
    rw [List.length_map, lr, Int.toNat_natCast]
    by_cases z : j = k
    · -- nothing
      have ne : (!decide (V.int (k : Int) = V.int (j : Int))) = false := by rw [z]; simp
      refine for_range (lo := 0) (n := es.length) (fun i σ G => ∃ v4 : Option V, σ = [some (.ref E), some (.int (k : Int)), some (.int (j : Int)), some (.int (j : Int)), v4] ∧ G = H) ⟨none, rfl, rfl⟩ ?_ ?_
      · rintro i σ G hi ⟨v4, rfl, rfl⟩
        refine ⟨_, rfl, rfl, _, rfl, iteNN (fun z => by cases z) ⟨_, rfl, _, rfl, rfl, _, rfl, ?_⟩⟩
        rw [ne]
        exact iteF ⟨_, rfl, rfl⟩
      · rintro σ G ⟨v4, rfl, rfl⟩
        refine ⟨_, rfl, _, rfl, rfl, _, rfl, ?_⟩
        rw [ne]
        refine iteF ?_
        rw [z] at kk
        exact kk G es .own (Keep.refl _ _) hR
    · have ne : (!decide (V.int (k : Int) = V.int (j : Int))) = true := by
        rw [decide_eq_false]; rfl
        intro q
        have : (k : Int) = (j : Int) := V.int.inj q
        exact z (by omega)
      obtain ⟨es', c0⟩ := Cut.some' (k := k) R (some j) (fun h e => by rw [← Option.some.inj e]; exact hj)
      obtain ⟨r, hr'⟩ := R.fell
      have nE : ∀ {q : Addr} {e : Ent} {m n : Addr}, ∀ G : Hp, G E = some (.lst (rs.map V.ref)) → G q = some (.lst (rowL e.kind e.text m n (optV e.cause) (optV e.atw))) → E ≠ q := fun G g1 g2 y => by
        rw [y, g2] at g1
        exact refs_row (by injection g1 with q; injection q with q; exact q.symm)
      refine for_range (lo := 0) (n := es.length) (fun i σ G => ∃ (v4 : Option V) (o : Option Nat) (es1 : List Ent), σ = [some (.ref E), some (.int (k : Int)), some (.int (j : Int)), some (optV o), v4] ∧ Keep rs H G ∧ G E = some (.lst (rs.map V.ref)) ∧ RowsAt bad G rs es1 ∧
          ((o = none ∧ es1 = es') ∨ (es1 = es ∧ ∃ (h : Nat) (l : List Nat), o = some h ∧ Cut k es (some h) es' ∧ l.length = i ∧ (h :: l).Nodup ∧ (∀ x ∈ h :: l, x < es.length) ∧ ∀ x ∈ l, r h < r x)))
        ⟨none, some j, es, rfl, Keep.refl _ _, hE, hR, .inr ⟨rfl, j, [], rfl, c0, rfl, by simp, fun x hx => by rw [List.mem_singleton.mp hx]; exact hj, fun x hx => absurd hx List.not_mem_nil⟩⟩ ?_ ?_
      · rintro i σ G hi ⟨v4, o, es1, rfl, kG, eE, hRG, hcase⟩
        rcases hcase with ⟨rfl, rfl⟩ | ⟨rfl, h, l, rfl, c, hl, hnl, hlt, hdec⟩
        · refine ⟨_, rfl, rfl, _, rfl, iteNS rfl (iteF ?_)⟩
          exact ⟨_, none, _, rfl, kG, eE, hRG, .inl ⟨rfl, rfl⟩⟩
        · have hh : h < es1.length := hlt h List.mem_cons_self
          have he := List.getElem?_eq_getElem hh
          generalize es1[h] = e at he
          obtain ⟨q, hq, m, n, b1, b2, b3, g4, g5, g6⟩ := hRG.at he
          refine ⟨_, rfl, rfl, _, rfl, iteNN (fun z => by cases z) ⟨_, rfl, _, rfl, rfl, _, rfl, ?_⟩⟩
          rw [ne]
          refine iteT ?_
          refine ⟨_, rfl, _, rfl, E, _, _, V.ref q, rfl, rfl, SqL.of eE, atI_nat (by rw [List.getElem?_map, hq]; rfl), q, _, _, optV e.atw, rfl, rfl, SqL.of g4, rfl, _, rfl, scal_opt _ _, _, rfl, ?_⟩
          by_cases hit : e.atw = some k
          · rw [decide_eq_true (show optV e.atw = V.int (k : Int) by rw [hit]; rfl)]
            refine iteT ?_
            have ec : es' = es1.set h (offE e none) := c.one (.hit he hit)
            refine ⟨_, rfl, _, rfl, E, _, _, V.ref q, rfl, rfl, SqL.of eE, atI_nat (by rw [List.getElem?_map, hq]; rfl), q, _, _, 5, rfl, rfl, g4, rfl, ?_⟩
            have hq' : q ∈ rs := List.mem_of_getElem? hq
            have R2 : RowsAt bad (upd G q (.lst (rowL e.kind e.text m n (optV e.cause) .non))) rs es' := by
              rw [ec]
              exact RowsAt.set (e := e) (e' := offE e none) rfl rfl rfl b2 b3 g4 g5 g6 hRG hnd hq he
            have k2 : Keep rs G (upd G q (.lst (rowL e.kind e.text m n (optV e.cause) .non))) := Keep.own hq'
            have e2 : (upd G q (.lst (rowL e.kind e.text m n (optV e.cause) .non))) E = some (.lst (rs.map V.ref)) := by rw [upd_ne (nE G eE g4)]; exact eE
            have g42 : (upd G q (.lst (rowL e.kind e.text m n (optV e.cause) .non))) q = some (.lst (rowL e.kind e.text m n (optV e.cause) .non)) := upd_same
            refine ⟨_, rfl, _, rfl, E, _, _, V.ref q, rfl, rfl, SqL.of e2, atI_nat (by rw [List.getElem?_map, hq]; rfl), q, _, _, V.non, rfl, rfl, SqL.of g42, rfl, ?_⟩
            exact ⟨_, none, es', rfl, kG.trans k2, e2, R2, .inl ⟨rfl, rfl⟩⟩
          · rw [decide_eq_false (opt_ne hit)]
            refine iteF ?_
            refine ⟨_, rfl, _, rfl, E, _, _, V.ref q, rfl, rfl, SqL.of eE, atI_nat (by rw [List.getElem?_map, hq]; rfl), q, _, _, optV e.atw, rfl, rfl, SqL.of g4, rfl, ?_⟩
            refine ⟨_, e.atw, es1, rfl, kG, eE, hRG, ?_⟩
            have c2 : Cut k es1 e.atw es' := by
              cases c with
              | hit a1 a2 => rw [he] at a1; cases a1; exact absurd a2 hit
              | step a1 a2 a3 => rw [he] at a1; cases a1; exact a3
            cases q2 : e.atw with
            | none =>
              rw [q2] at c2
              cases c2
              exact .inl ⟨rfl, rfl⟩
            | some y =>
              rw [q2] at c2
              have hy := hr' h e y he q2
              have hyl := R.there h e y he q2
              have dec2 : ∀ x ∈ h :: l, r y < r x := fun x hx => by
                rcases List.mem_cons.mp hx with z | z
                · rw [z]; exact hy
                · have := hdec x z; omega
              refine .inr ⟨rfl, y, h :: l, rfl, c2, by rw [List.length_cons, hl], List.nodup_cons.mpr ⟨fun z => absurd (dec2 y z) (Nat.lt_irrefl _), hnl⟩, fun x hx => ?_, dec2⟩
              rcases List.mem_cons.mp hx with z | z
              · rw [z]; exact hyl
              · exact hlt x z
      · rintro σ G ⟨v4, o, es1, rfl, kG, eE, hRG, hcase⟩
        refine ⟨_, rfl, _, rfl, rfl, _, rfl, ?_⟩
        rw [ne]
        refine iteT ?_
        rcases hcase with ⟨rfl, rfl⟩ | ⟨rfl, h, l, rfl, c, hl, hnl, hlt, hdec⟩
        · have hk' : k < es1.length := by rw [c0.at.1]; exact hk
          have he := List.getElem?_eq_getElem hk'
          generalize es1[k] = e at he
          obtain ⟨q, hq, m, n, b1, b2, b3, g4, g5, g6⟩ := hRG.at he
          refine ⟨_, rfl, _, rfl, _, rfl, E, _, _, V.ref q, rfl, rfl, SqL.of eE, atI_nat (by rw [List.getElem?_map, hq]; rfl), q, _, _, 5, rfl, rfl, g4, rfl, ?_⟩
          exact kk _ _ (.new z c0 he) (kG.trans (Keep.own (List.mem_of_getElem? hq))) (RowsAt.set (e := e) (e' := offE e (some j)) rfl rfl rfl b2 b3 g4 g5 g6 hRG hnd hq he)
        · exfalso
          have := fewN hnl hlt
          rw [List.length_cons, hl] at this
          omega
end
end Fs
/-! Where the ledger and the law's faults stand; a deed. -/
namespace Fs
open PySem L2 TL
theorem Risen.mems {es es' : List Ent} {k : Nat} {o : Option Nat} (h : Risen es k o es') : es'.map Ent.mem = es.map Ent.mem := by
  have cut : ∀ {o : Option Nat} {a : List Ent}, Cut k es o a → a.map Ent.mem = es.map Ent.mem := fun c => by
    induction c with
    | nil => rfl
    | @hit h e h1 h2 => exact map_put (e := e) (e' := offE e none) Ent.mem h1 rfl
    | step h1 h2 h3 ih => exact ih
  cases h with
  | non => rfl
  | own => rfl
  | @new j e es2 n c q => rw [map_put (e := e) (e' := offE e (some j)) Ent.mem q rfl, cut c]
theorem Row.put {es : List Ent} (R : Row es) {k : Nat} {e e' : Ent} (he : es[k]? = some e) (h : e'.atw = e.atw) : Row (es.set k e') := by
  obtain ⟨r, hr⟩ := R.fell
  have hk := (List.getElem?_eq_some_iff.mp he).1
  have back : ∀ (x : Nat) (f : Ent), (es.set k e')[x]? = some f → ∃ g, es[x]? = some g ∧ g.atw = f.atw := fun x f q => by
    by_cases z : k = x
    · subst z
      rw [List.getElem?_set_self hk] at q
      exact ⟨e, he, by rw [← Option.some.inj q, h]⟩
    · rw [List.getElem?_set_ne z] at q
      exact ⟨f, q, rfl⟩
  refine ⟨⟨r, fun x f y q a => ?_⟩, fun x f y q a => ?_⟩
  · obtain ⟨g, q2, w⟩ := back x f q
    exact hr x g y q2 (by rw [w]; exact a)
  · obtain ⟨g, q2, w⟩ := back x f q
    rw [List.length_set]
    exact R.there x g y q2 (by rw [w]; exact a)
def SmC (ps : List (Str × Str)) (n cap : Nat) (e : Ent) : Prop := Sm n e ∧ e.notes.length ≤ cap ∧ KindOk ps e.mem e.kind
/-- the addresses -/
structure LDA where
  q : Addr
  A : LA
  ms : List Addr
  ns : List Addr
  E : Addr
  rs : List Addr
/-- what deeds write -/
def LDA.zs (D : LDA) : List Addr := D.A.ls ++ (D.ns ++ D.rs)
structure StA (C CK : Addr) (ps : List (Str × Str)) (cap : Nat) (p : Addr) (H : Hp) (D : LDA) (es : List Ent) : Prop where
  led : LedAt C H D.q D.A D.ms D.ns es
  kin : KindsAt CK H D.A.kd ps
  ent : H D.E = some (.lst (D.rs.map V.ref))
  rows : RowsAt (p :: D.E :: (D.A.ls ++ D.ns)) H D.rs es
  rnd : D.rs.Nodup
  nE : D.E ∉ D.A.ls ++ D.ns
  np : p ∉ D.E :: (D.A.ls ++ D.ns)
  tree : ∃ Lf Df Nf, Tree es Lf Df Nf
  sm : ∀ e ∈ es, SmC ps es.length cap e
  row : Row es
theorem kin_lists {CK : Addr} {ex : List Addr} {H H' : Hp} {kd : Addr} {ps : List (Str × Str)} (h : KindsAt CK H kd ps) (k : Keep ex H H') (hx : ∀ b ∈ ex, ∃ xs, H b = some (.lst xs)) : KindsAt CK H' kd ps := h.keep k fun b hb => by
  obtain ⟨xs, e⟩ := hx b hb
  exact ⟨_, e, (fun _ _ _ z => by cases z), fun _ z => by cases z⟩
theorem StA.keepP {C CK : Addr} {ps : List (Str × Str)} {cap : Nat} {p : Addr} {H H' : Hp} {D : LDA} {es : List Ent} (S : StA C CK ps cap p H D es) (hp : ∃ xs, H p = some (.lst xs)) (k : Keep [p] H H') : StA C CK ps cap p H' D es := by
  have lp : ∀ b ∈ [p], ∃ xs, H b = some (.lst xs) := fun b hb => by rw [List.mem_singleton.mp hb]; exact hp
  refine ⟨S.led.keep k (fun b hb z => ?_) lp, kin_lists S.kin k lp, k.at S.ent (nin1 fun z => S.np (by rw [← z]; exact List.mem_cons_self)), S.rows.keep (k.more fun b hb => by rw [List.mem_singleton.mp hb]; exact List.mem_cons_self), S.rnd, S.nE, S.np, S.tree, S.sm, S.row⟩
  rw [List.mem_singleton.mp hb] at z
  exact S.np (List.mem_cons_of_mem _ z)
theorem StA.keep0 {C CK : Addr} {ps : List (Str × Str)} {cap : Nat} {p : Addr} {H H' : Hp} {D : LDA} {es : List Ent} (S : StA C CK ps cap p H D es) (k : Keep [] H H') : StA C CK ps cap p H' D es :=
  ⟨S.led.keep k (fun b z => absurd z nin0) (fun b z => absurd z nin0), kin_lists S.kin k (fun b z => absurd z nin0), k.at S.ent nin0, S.rows.keep (k.more fun b z => absurd z nin0), S.rnd, S.nE, S.np, S.tree, S.sm, S.row⟩
theorem StA.out {C CK : Addr} {ps : List (Str × Str)} {cap : Nat} {p : Addr} {H : Hp} {D : LDA} {es : List Ent} (S : StA C CK ps cap p H D es) {r : Addr} (hr : r ∈ D.rs) : r ∉ p :: D.E :: (D.A.ls ++ D.ns) := by
  obtain ⟨i, hi⟩ := List.mem_iff_getElem?.mp hr
  have hil : i < es.length := by rw [← S.rows.len]; exact (List.getElem?_eq_some_iff.mp hi).1
  obtain ⟨r', q1, _, _, b1, _⟩ := S.rows.at (List.getElem?_eq_getElem hil)
  rw [hi] at q1
  rw [Option.some.inj q1]; exact b1
theorem StA.cap {C CK : Addr} {ps : List (Str × Str)} {cap cap' : Nat} {p : Addr} {H : Hp} {D : LDA} {es : List Ent} (S : StA C CK ps cap p H D es) (h : cap ≤ cap') : StA C CK ps cap' p H D es :=
  ⟨S.led, S.kin, S.ent, S.rows, S.rnd, S.nE, S.np, S.tree, fun e he => ⟨(S.sm e he).1, Nat.le_trans (S.sm e he).2.1 h, (S.sm e he).2.2⟩, S.row⟩
abbrev sDeA : Stmt := top 43 --def _law_deed
abbrev nDeA : List Str := ["_law_pot_here", "_law_ledger_here", "_law_faults_here", "_law_texts_here", "_law_k", "_law_way", "_law_j", "_law_text_here"]
theorem scDeA : FnScope nDeA ["_law_pot_here", "_law_ledger_here", "_law_faults_here", "_law_texts_here", "_law_k"] (defScope sDeA) := ⟨rfl, rfl, rfl, by decide +kernel, rfl, by decide +kernel, by decide +kernel⟩
structure DATx (K : PySem.W.Frag) (mg : Str → Option Value) (C fDg fRi fBl fNo fRs : Addr) : Prop where
  cl : Cls K C
  mB : Meth K C "blame" fBl
  mN : Meth K C "note" fNo
  mR : Meth K C "rise" fRs
  gD : mg "_law_digit" = some (.ref fDg)
  kD : PySem.W.keepIn K (.ref fDg) = true
  gR : mg "_law_rise" = some (.ref fRi)
  kR : PySem.W.keepIn K (.ref fRi) = true
  len : mg "len" = none
theorem flb (A : LA) : (fldsL A).lookup ("blame" : Str) = none := rfl
theorem fln (A : LA) : (fldsL A).lookup ("note" : Str) = none := rfl
theorem flr (A : LA) : (fldsL A).lookup ("rise" : Str) = none := rfl
theorem flat_add {xs ys : List Str} : xs.map V.str ++ ys.map V.str = (xs ++ ys).map V.str := (List.map_append).symm
def spDeA (C CK : Addr) : Sp := fun vs H Q _ => ∃ (ps : List (Str × Str)) (cap : Nat) (p X : Addr) (D : LDA) (es : List Ent) (tx : List Str) (n k : Nat), vs = [.ref p, .ref D.q, .ref D.E, .ref X, .int (k : Int)] ∧ PotAt H p n ∧ n < 2 ^ 30 ∧ StA C CK ps cap p H D es ∧ TxsOk tx ∧ H X = some (.lst (tx.map V.str)) ∧ X ≠ p ∧ k < es.length ∧ es.length ≤ 10000 ∧ cap ≤ 29 ∧
  ∀ (H' : Hp) (es' : List Ent), StA C CK ps (cap + 1) p H' D es' → es'.length = es.length → es'.map Ent.mem = es.map Ent.mem → Keep (p :: D.zs) H H' → PotAt H' p (n + 3) → Q .non H'
section
variable {P : Program} {w : World} {K : PySem.W.Frag} {mg : Str → Option Value} {base : Heap} {C CK fDg fRi fBl fNo fRs : Addr}
theorem ok_deA {dD dR dB dN dS fd : FuncData} {f : Addr} (F : Fun K "_law_deed" "_law_deed" sDeA f fd) (T : DATx K mg C fDg fRi fBl fNo fRs) (FD : FnOk P w K mg base CX0 1 fDg dD ["_law_pot_here", "_law_many"] spDigit) (bD : Binds K dD ["_law_pot_here", "_law_many"] [])
    (FR : FnOk P w K mg base CX0 1 fRi dR ["_law_faults_here", "_law_k", "_law_j"] spRiL) (bR : Binds K dR ["_law_faults_here", "_law_k", "_law_j"] []) (FB : FnOk P w K mg base CX0 4 fBl dB ["self", "k", "j"] (spBlame C)) (bB : Binds K dB ["self", "k", "j"] [])
    (FN : FnOk P w K mg base CX0 3 fNo dN ["self", "k", "text"] (spNote C)) (bN : Binds K dN ["self", "k", "text"] []) (FS : FnOk P w K mg base CX0 4 fRs dS ["self", "k", "j"] (spRise C)) (bS : Binds K dS ["self", "k", "j"] []) :
    FnOk P w K mg base CX0 5 f fd ["_law_pot_here", "_law_ledger_here", "_law_faults_here", "_law_texts_here", "_law_k"] (spDeA C CK) := by
  refine F.ok scDeA (fun vs H Q E h => ?_) (fun cdv A0 outer s H vs Q Es hr h => ?_)
  · obtain ⟨ps, cap, p, X, D, es, tx, n, k, rfl, _⟩ := h
    rfl
  · obtain ⟨ps, cap, p, X, D, es, tx, n, k, rfl, pot, hn, S, htx, hX, nXp, hk, h400, hcap, kk⟩ := h
    have hr1 : Room 1 _ := hr.mono (by decide)
    have hr3 : Room 3 _ := hr.mono (by decide)
    refine ⟨_, pss_cons (ps_set (i := 5) scDeA.nd rfl (Or.inl rfl) (pe_call FD hr1 rfl T.gD T.kD bD .nil pass0 (pa_cons (pv 0) (pa_cons pe_int pa_nil))))
      (pss_cons (ps_set (i := 6) scDeA.nd rfl (Or.inl rfl) (pe_call FD hr1 rfl T.gD T.kD bD .nil pass0 (pa_cons (pv 0) (pa_cons (pe_callB call_len_seq (by rfl) T.len PySem.boot_len (pa_cons (pv 2) pa_nil)) pa_nil))))
      (pss_cons (ps_set (i := 7) scDeA.nd rfl (Or.inl rfl) (pe_ix ix_list (pv 3) (pe_call FD hr1 rfl T.gD T.kD bD .nil pass0 (pa_cons (pv 0) (pa_cons pe_int pa_nil))) (fun _ _ => rfl)))
      (pss_one (ps_if (pt_cmpR op_lt (pv 5) pe_int (nomark _))
        (pss_cons (ps_expr (pe_meth (pv 1) T.cl T.mN FN hr3 bN .nil pass0 (pa_cons (pv 4) (pa_cons (pv 7) pa_nil))))
        (pss_one (ps_asg (pe_op op_cat (pe_ix ix_list (pe_ix ix_list (pv 2) (pv 4) (fun _ _ => rfl)) pe_int (fun _ _ => rfl)) (pe_lst (pa_cons (pv 7) pa_nil))) (pg_sub (pe_ix ix_list (pv 2) (pv 4) (fun _ _ => rfl)) pe_int set_list))))
        (pss_one (ps_if (pt_cmpR op_eq (pv 5) pe_int (nomark _))
          (pss_cons (ps_expr (pe_meth (pv 1) T.cl T.mB FB hr bB .nil pass0 (pa_cons (pv 4) (pa_cons (pv 6) pa_nil))))
          (pss_one (ps_asg (pv 6) (pg_sub (pe_ix ix_list (pv 2) (pv 4) (fun _ _ => rfl)) pe_int set_list))))
          (pss_one (ps_if (pt_cmpR op_eq (pv 5) pe_int (nomark _))
            (pss_cons (ps_expr (pe_meth (pv 1) T.cl T.mR FS hr bS .nil pass0 (pa_cons (pv 4) (pa_cons (pv 6) pa_nil))))
            (pss_one (ps_expr (pe_call FR hr1 rfl T.gR T.kR bR .nil pass0 (pa_cons (pv 2) (pa_cons (pv 4) (pa_cons (pv 6) pa_nil)))))))
            (pss_cons (ps_expr (pe_meth (pv 1) T.cl T.mB FB hr bB .nil pass0 (pa_cons (pv 4) (pa_cons pe_non pa_nil))))
            (pss_one (ps_asg pe_non (pg_sub (pe_ix ix_list (pv 2) (pv 4) (fun _ _ => rfl)) pe_int set_list)))))))))))), ?_⟩
    have lr : D.rs.length = es.length := S.rows.len
    refine ⟨_, rfl, p, n, 6, rfl, pot, by omega, by decide, by decide, fun wy H1 w0 w1 hk1 pot1 => ?_⟩
    have S1 := S.keepP pot.some (keep_of_dig hk1)
    refine ⟨_, rfl, _, rfl, D.E, _, rfl, .inl (SqL.of S1.ent), p, n + 1, _, rfl, pot1, by omega, by rw [List.length_map, lr]; omega, by rw [List.length_map, lr]; omega, fun j H2 d0 d1 hk2 pot2 => ?_⟩
    rw [List.length_map, lr] at d1
    obtain ⟨j, rfl⟩ : ∃ m : Nat, j = (m : Int) := ⟨j.toNat, by omega⟩
    have hj : j < es.length := by omega
    have S2 := S1.keepP pot1.some (keep_of_dig hk2)
    have k2 : Keep [p] H H2 := (keep_of_dig hk1).trans (keep_of_dig hk2)
    refine ⟨_, rfl, _, rfl, p, n + 1 + 1, 4, rfl, pot2, by omega, by decide, by decide, fun d G t0 t1 hk3 potG => ?_⟩
    have SG := S2.keepP pot2.some (keep_of_dig hk3)
    have kG : Keep [p] H G := k2.trans (keep_of_dig hk3)
    obtain ⟨t, ht, _, att⟩ := txs_at htx t0 (Int.lt_trans t1 (by decide))
    refine ⟨X, _, d, .str t, rfl, rfl, SqL.of (kG.at hX (nin1 nXp)), att, ?_⟩
    clear hk1 hk2 hk3 S1 S2 pot1 pot2
    have he := List.getElem?_eq_getElem hk
    generalize es[k] = e at he
    have hem := List.mem_of_getElem? he
    obtain ⟨⟨s1, s2, s3, s4, s5, s6, s7, s8⟩, sc, sk⟩ := S.sm e hem
    have same : ∀ {e' : Ent}, SmC ps es.length (cap + 1) e' → ∀ f ∈ es.set k e', SmC ps (es.set k e').length (cap + 1) f := fun {e'} h f hf => by
      rw [List.length_set]
      rcases List.mem_or_eq_of_mem_set hf with z | z
      · exact ⟨(S.sm f z).1, Nat.le_succ_of_le (S.sm f z).2.1, (S.sm f z).2.2⟩
      · rw [z]; exact h
    have sA : ∀ b, b ∈ D.A.ls → b ∈ p :: D.zs := fun b hb => List.mem_cons_of_mem _ (List.mem_append_left _ hb)
    have sN : ∀ b, b ∈ D.ns → b ∈ p :: D.zs := fun b hb => List.mem_cons_of_mem _ (List.mem_append_right _ (List.mem_append_left _ hb))
    have sR : ∀ b, b ∈ D.rs → b ∈ p :: D.zs := fun b hb => List.mem_cons_of_mem _ (List.mem_append_right _ (List.mem_append_right _ hb))
    have sp : ∀ b, b ∈ [p] → b ∈ p :: D.zs := fun b hb => by rw [List.mem_singleton.mp hb]; exact List.mem_cons_self
    have tr : ∀ {es' : List Ent}, es.map Ent.mem = es'.map Ent.mem → ∃ Lf Df Nf, Tree es' Lf Df Nf := fun q => by
      obtain ⟨Lf, Df, Nf, T0⟩ := S.tree
      exact ⟨Lf, Df, Nf, T0.congr q⟩
    have l5 : ∀ b, b ∈ [D.A.l5] → b ∈ D.A.ls := fun b hb => by rw [List.mem_singleton.mp hb]; simp [LA.ls]
    have l6 : ∀ b, b ∈ [D.A.l6] → b ∈ D.A.ls := fun b hb => by rw [List.mem_singleton.mp hb]; simp [LA.ls]
    -- a cause
    have blamed : ∀ (o : Option Nat), (∀ j, o = some j → j < es.length) → ∀ G6 : Hp, Keep [D.A.l5] G G6 → LedAt C G6 D.q D.A D.ms D.ns (es.set k (byE e o)) → ∃ r m nk, D.rs[k]? = some r ∧ G6 D.E = some (.lst (D.rs.map V.ref)) ∧ G6 r = some (.lst (rowL e.kind e.text m nk (optV e.cause) (optV e.atw))) ∧ Q .non (upd G6 r (.lst (rowL e.kind e.text m nk (optV o) (optV e.atw)))) := fun o ho G6 k6 led6 => by
      have rows6 := SG.rows.keep (k6.more fun b hb => List.mem_cons_of_mem _ (List.mem_cons_of_mem _ (List.mem_append_left _ (l5 b hb))))
      have ent6 := k6.at SG.ent (fun z => S.nE (List.mem_append_left _ (l5 D.E z)))
      obtain ⟨r, q1, m, nk, b1, b2, b3, g4, g5, g6⟩ := rows6.at he
      have hr' : r ∈ D.rs := List.mem_of_getElem? q1
      refine ⟨r, m, nk, q1, ent6, g4, ?_⟩
      have kr : Keep [r] G6 (upd G6 r (.lst (rowL e.kind e.text m nk (optV o) (optV e.atw)))) := Keep.own in1
      have rows7 : RowsAt (p :: D.E :: (D.A.ls ++ D.ns)) (upd G6 r (.lst (rowL e.kind e.text m nk (optV o) (optV e.atw)))) D.rs (es.set k (byE e o)) := RowsAt.set (e := e) (e' := byE e o) rfl rfl rfl b2 b3 g4 g5 g6 rows6 S.rnd q1 he
      have nEr : D.E ≠ r := fun z => b1 (by rw [← z]; exact List.mem_cons_of_mem _ List.mem_cons_self)
      have npr : p ≠ r := fun z => b1 (by rw [← z]; exact List.mem_cons_self)
      have lr6 : ∀ b ∈ [r], ∃ xs, G6 b = some (.lst xs) := fun b hb => by rw [List.mem_singleton.mp hb]; exact ⟨_, g4⟩
      have led7 := led6.keep kr (fun b hb => by
        rw [List.mem_singleton.mp hb]
        exact fun z => b1 (List.mem_cons_of_mem _ (List.mem_cons_of_mem _ z))) lr6
      have mp := map_put (e := e) (e' := byE e o) Ent.mem he rfl
      refine kk _ _ ⟨led7, kin_lists (kin_lists SG.kin k6 fun b hb => SG.led.isl b (l5 b hb)) kr lr6, kr.at ent6 (nin1 nEr), rows7, S.rnd, S.nE, S.np, tr mp.symm, same ⟨⟨s1, s2, s3, s4, s5, s6, ho, s8⟩, Nat.le_succ_of_le sc, sk⟩, S.row.put he rfl⟩ (List.length_set ..) mp
        (((kG.more sp).trans (k6.more fun b hb => sA b (l5 b hb))).trans (kr.more fun b hb => by rw [List.mem_singleton.mp hb]; exact sR r hr')) (((potG.keep k6 (fun z => S.np (List.mem_cons_of_mem _ (List.mem_append_left _ (l5 p z))))).keep kr (nin1 npr)).le (by omega))
    refine ⟨_, rfl, _, _, rfl, rfl, _, rfl, ?_⟩
    refine ite2 (fun _ => ?_) (fun _ => ?_)
    · -- note
      have hkl : k < D.ns.length := by rw [S.led.notes.len]; exact hk
      have hnk := List.getElem?_eq_getElem hkl
      generalize D.ns[k] = l at hnk
      have hlm := List.mem_of_getElem? hnk
      refine ⟨_, rfl, D.q, D.A.dx, _, rfl, SG.led.ins, fln D.A, _, rfl, _, rfl, D.q, D.A, D.ms, D.ns, es, k, e, l, t, rfl, SG.led, he, hnk, by omega, fun G4 k4 led4 => ?_⟩
      have ll : ∀ b ∈ [l], ∃ xs, G b = some (.lst xs) := fun b hb => by rw [List.mem_singleton.mp hb]; exact SG.led.notes.is l hlm
      have rows4 := SG.rows.keep (k4.more fun b hb => by rw [List.mem_singleton.mp hb]; exact List.mem_cons_of_mem _ (List.mem_cons_of_mem _ (List.mem_append_right _ hlm)))
      have nEl : D.E ≠ l := fun z => S.nE (by rw [z]; exact List.mem_append_right _ hlm)
      have ent4 := k4.at SG.ent (nin1 nEl)
      obtain ⟨r, q1, m, nk, b1, b2, b3, g4, g5, g6⟩ := rows4.at he
      have hr' : r ∈ D.rs := List.mem_of_getElem? q1
      refine ⟨_, rfl, _, rfl, D.E, _, _, V.ref r, rfl, rfl, SqL.of ent4, atI_nat (by rw [List.getElem?_map, q1]; rfl), r, _, _, V.ref nk, rfl, rfl, SqL.of g4, rfl, ?_⟩
      refine ⟨_, rfl, (by show 1 ≤ sizeLine; decide), fun a ha => ?_⟩
      have ka : Keep [] G4 (upd G4 a (.lst [.str t])) := Keep.new ha
      have ea : (upd G4 a (.lst [.str t])) a = some (.lst ([t].map V.str)) := upd_same
      generalize (upd G4 a (.lst [.str t])) = G5 at ka ea ⊢
      refine ⟨nk, a, _, _, rfl, rfl, ka.at g6 nin0, ea, Nat.le_trans (by rw [List.length_map]; show e.notes.length + 1 ≤ 1000; omega) (by decide), fun n' hn' => ?_⟩
      rw [flat_add]
      have kn : Keep [] G5 (upd G5 n' (.lst ((e.notes ++ [t]).map V.str))) := Keep.new hn'
      have en : (upd G5 n' (.lst ((e.notes ++ [t]).map V.str))) n' = some (.lst ((e.notes ++ [t]).map V.str)) := upd_same
      generalize (upd G5 n' (.lst ((e.notes ++ [t]).map V.str))) = G6 at kn en ⊢
      have k46 := ka.trans kn
      have n4' : G4 n' = none := Keep.free ka hn' nin0
      refine ⟨_, rfl, _, rfl, D.E, _, _, V.ref r, rfl, rfl, SqL.of (k46.at ent4 nin0), atI_nat (by rw [List.getElem?_map, q1]; rfl), r, _, _, 3, rfl, rfl, k46.at g4 nin0, rfl, ?_⟩
      have bn : n' ∉ p :: D.E :: (D.A.ls ++ D.ns) := fun z => by
        rcases List.mem_cons.mp z with z | z
        · obtain ⟨x, e⟩ := (potG.keep k4 (nin1 fun z => S.np (by rw [z]; exact List.mem_cons_of_mem _ (List.mem_append_right _ hlm)))).some
          rw [z, e] at n4'; cases n4'
        · rcases List.mem_cons.mp z with z | z
          · rw [z, ent4] at n4'; cases n4'
          · rcases List.mem_append.mp z with z | z
            · obtain ⟨xs, e⟩ := led4.isl _ z
              rw [e] at n4'; cases n4'
            · obtain ⟨xs, e⟩ := led4.notes.is _ z
              rw [e] at n4'; cases n4'
      have kr : Keep [r] G6 (upd G6 r (.lst (rowL e.kind e.text m n' (optV e.cause) (optV e.atw)))) := Keep.own in1
      have rows7 : RowsAt (p :: D.E :: (D.A.ls ++ D.ns)) (upd G6 r (.lst (rowL e.kind e.text m n' (optV e.cause) (optV e.atw)))) D.rs (es.set k (noteE e (e.notes ++ [t]))) := RowsAt.set (e := e) (e' := noteE e (e.notes ++ [t])) rfl rfl rfl b2 bn (k46.at g4 nin0) (k46.at g5 nin0) en (rows4.keep (k46.more fun b z => absurd z nin0)) S.rnd q1 he
      have nEr : D.E ≠ r := fun z => b1 (by rw [← z]; exact List.mem_cons_of_mem _ List.mem_cons_self)
      have npr : p ≠ r := fun z => b1 (by rw [← z]; exact List.mem_cons_self)
      have npl : p ≠ l := fun z => S.np (by rw [z]; exact List.mem_cons_of_mem _ (List.mem_append_right _ hlm))
      have lr6 : ∀ b ∈ [r], ∃ xs, G6 b = some (.lst xs) := fun b hb => by rw [List.mem_singleton.mp hb]; exact ⟨_, k46.at g4 nin0⟩
      have led7 := (led4.keep k46 (fun b z => absurd z nin0) (fun b z => absurd z nin0)).keep kr (fun b hb => by
        rw [List.mem_singleton.mp hb]
        exact fun z => b1 (List.mem_cons_of_mem _ (List.mem_cons_of_mem _ z))) lr6
      have mp := map_put (e := e) (e' := noteE e (e.notes ++ [t])) Ent.mem he rfl
      have nl : (e.notes ++ [t]).length ≤ cap + 1 := by rw [List.length_append]; show e.notes.length + 1 ≤ cap + 1; omega
      refine kk _ _ ⟨led7, kin_lists (kin_lists (kin_lists SG.kin k4 ll) k46 (fun b z => absurd z nin0)) kr lr6, kr.at (k46.at ent4 nin0) (nin1 nEr), rows7, S.rnd, S.nE, S.np, tr mp.symm, same ⟨⟨s1, s2, s3, s4, s5, ⟨by show (e.notes ++ [t]).length ≤ 30; omega, fun y hy => ?_⟩, s7, s8⟩, nl, sk⟩, S.row.put he rfl⟩ (List.length_set ..) mp
        ((((kG.more sp).trans (k4.more fun b hb => by rw [List.mem_singleton.mp hb]; exact sN l hlm)).trans (k46.more fun b z => absurd z nin0)).trans (kr.more fun b hb => by rw [List.mem_singleton.mp hb]; exact sR r hr')) (((((potG.keep k4 (nin1 npl)).keep k46 nin0)).keep kr (nin1 npr)).le (by omega))
      rcases List.mem_append.mp hy with z | z
      · exact s6.2 y z
      · rw [List.mem_singleton.mp z]; exact ht
    · refine ⟨_, rfl, rfl, _, rfl, ?_⟩
      refine ite2 (fun _ => ?_) (fun _ => ?_)
      · -- blame
        refine ⟨_, rfl, D.q, D.A.dx, _, rfl, SG.led.ins, flb D.A, _, rfl, _, rfl, D.q, D.A, D.ms, D.ns, es, k, e, some j, rfl, SG.led, he, (fun y h => by rw [← Option.some.inj h]; exact hj), fun G6 k6 led6 => ?_⟩
        obtain ⟨r, m, nk, q1, ent6, g4, fin⟩ := blamed (some j) (fun y h => by rw [← Option.some.inj h]; exact hj) G6 k6 led6
        exact ⟨_, rfl, _, rfl, _, rfl, D.E, _, _, V.ref r, rfl, rfl, SqL.of ent6, atI_nat (by rw [List.getElem?_map, q1]; rfl), r, _, _, 4, rfl, rfl, g4, rfl, fin⟩
      · refine ⟨_, rfl, rfl, _, rfl, ?_⟩
        refine ite2 (fun _ => ?_) (fun _ => ?_)
        · -- rise
          have ho : ∀ y, some j = some y → y < es.length := fun y h => by rw [← Option.some.inj h]; exact hj
          refine ⟨_, rfl, D.q, D.A.dx, _, rfl, SG.led.ins, flr D.A, _, rfl, _, rfl, D.q, D.A, D.ms, D.ns, es, k, some j, rfl, SG.led, hk, ho, S.row, fun G6 es1 ris k6 led6 => ?_⟩
          have rows6 := SG.rows.keep (k6.more fun b hb => List.mem_cons_of_mem _ (List.mem_cons_of_mem _ (List.mem_append_left _ (l6 b hb))))
          have ent6 := k6.at SG.ent (fun z => S.nE (List.mem_append_left _ (l6 D.E z)))
          refine ⟨_, rfl, _, rfl, _, rfl, D.E, k, j, _, D.rs, es, rfl, ent6, rows6, S.rnd, hk, hj, by omega, S.row, fun G7 es2 ris2 k7 rows7 => ?_⟩
          have e21 : es2 = es1 := ris2.one ris
          subst e21
          have lrs : ∀ b ∈ D.rs, ∃ xs, G6 b = some (.lst xs) := fun b hb => by
            obtain ⟨i, hi⟩ := List.mem_iff_getElem?.mp hb
            have hil : i < es.length := by rw [← lr]; exact (List.getElem?_eq_some_iff.mp hi).1
            obtain ⟨r', q1, _, _, _, _, _, g4, _⟩ := rows6.at (List.getElem?_eq_getElem hil)
            rw [hi] at q1
            rw [Option.some.inj q1]; exact ⟨_, g4⟩
          have led7 := led6.keep k7 (fun b hb z => S.out hb (List.mem_cons_of_mem _ (List.mem_cons_of_mem _ z))) lrs
          have ent7 := k7.at ent6 (fun z => S.out z (List.mem_cons_of_mem _ List.mem_cons_self))
          have len2 := ris2.len
          have sm2 : ∀ e ∈ es2, SmC ps es.length (cap + 1) e := Risen.all (p := SmC ps es.length (cap + 1)) ris2 (fun e y he hy => ⟨⟨he.1.1, he.1.2.1, he.1.2.2.1, he.1.2.2.2.1, he.1.2.2.2.2.1, he.1.2.2.2.2.2.1, he.1.2.2.2.2.2.2.1, fun x hx => by rw [← Option.some.inj hx]; exact ho y hy⟩, he.2⟩)
            (fun e he => ⟨⟨he.1.1, he.1.2.1, he.1.2.2.1, he.1.2.2.2.1, he.1.2.2.2.2.1, he.1.2.2.2.2.2.1, he.1.2.2.2.2.2.2.1, fun y hy => by cases hy⟩, he.2⟩) fun f hf => ⟨(S.sm f hf).1, Nat.le_succ_of_le (S.sm f hf).2.1, (S.sm f hf).2.2⟩
          exact kk _ _ ⟨led7, kin_lists (kin_lists SG.kin k6 fun b hb => SG.led.isl b (l6 b hb)) k7 lrs, ent7, rows7, S.rnd, S.nE, S.np, tr ris2.mems.symm, fun e he => by rw [len2]; exact sm2 e he, ris2.row S.row ho⟩ len2 ris2.mems
            (((kG.more sp).trans (k6.more fun b hb => sA b (l6 b hb))).trans (k7.more sR)) (((potG.keep k6 (fun z => S.np (List.mem_cons_of_mem _ (List.mem_append_left _ (l6 p z))))).keep k7 (fun z => S.out z List.mem_cons_self)).le (by omega))
        · -- no cause
          refine ⟨_, rfl, D.q, D.A.dx, _, rfl, SG.led.ins, flb D.A, _, rfl, D.q, D.A, D.ms, D.ns, es, k, e, none, rfl, SG.led, he, (fun y h => by cases h), fun G6 k6 led6 => ?_⟩
          obtain ⟨r, m, nk, q1, ent6, g4, fin⟩ := blamed none (fun y h => by cases h) G6 k6 led6
          exact ⟨_, rfl, _, rfl, D.E, _, _, V.ref r, rfl, rfl, SqL.of ent6, atI_nat (by rw [List.getElem?_map, q1]; rfl), r, _, _, 4, rfl, rfl, g4, rfl, fin⟩
end
end Fs
/-! What the ledger tells; some deeds. -/
namespace Fs
open PySem L2 TL
abbrev sToA : Stmt := top 45 --def _law_told
abbrev nToA : List Str := ["_law_ledger_here", "_law_many", "_law_found", "_law_k", "_law_entry"]
theorem scToA : FnScope nToA ["_law_ledger_here", "_law_many"] (defScope sToA) := ⟨rfl, rfl, rfl, by decide +kernel, rfl, by decide +kernel, by decide +kernel⟩
def spToA (C : Addr) : Sp := fun vs H Q _ => ∃ (p : Addr) (A : LA) (ms ns : List Addr) (es : List Ent) (mo : Nat), vs = [.ref p, .int (mo : Int)] ∧ LedAt C H p A ms ns es ∧ mo ≤ 10000 ∧ mo ≤ es.length ∧ ∀ (H' : Hp) (F : Addr), Keep [] H H' → H F = none → ToldAt [] H' F (es.take mo) → Q (.ref F) H'
section
variable {P : Program} {w : World} {K : PySem.W.Frag} {mg : Str → Option Value} {base : Heap} {C f1 f2 f3 f4 f5 f6 f7 : Addr}
theorem ok_toldA {f : Addr} {fd d2 d3 d4 d5 d6 d7 : FuncData} (F : Fun K "_law_told" "_law_told" sToA f fd) (cl : Cls K C) (T : GTxt K C f1 f2 f3 f4 f5 f6 f7) (mR : mg "range" = none)
    (F2 : FnOk P w K mg base CX0 3 f2 d2 ["self", "k"] (spGet C fun e => .str e.kind)) (b2 : Binds K d2 ["self", "k"] []) (F3 : FnOk P w K mg base CX0 3 f3 d3 ["self", "k"] (spGet C fun e => .str e.text)) (b3 : Binds K d3 ["self", "k"] [])
    (F4 : FnOk P w K mg base CX0 3 f4 d4 ["self", "k"] (spGetL C fun e => memV e.mem)) (b4 : Binds K d4 ["self", "k"] []) (F5 : FnOk P w K mg base CX0 3 f5 d5 ["self", "k"] (spGetL C fun e => e.notes.map V.str)) (b5 : Binds K d5 ["self", "k"] [])
    (F6 : FnOk P w K mg base CX0 3 f6 d6 ["self", "k"] (spGet C fun e => optV e.cause)) (b6 : Binds K d6 ["self", "k"] []) (F7 : FnOk P w K mg base CX0 3 f7 d7 ["self", "k"] (spGet C fun e => optV e.atw)) (b7 : Binds K d7 ["self", "k"] []) :
    FnOk P w K mg base CX0 4 f fd ["_law_ledger_here", "_law_many"] (spToA C) := by
  refine F.ok scToA (fun vs H Q E h => ?_) (fun cdv A outer s H vs Q E hr h => ?_)
  · obtain ⟨p, L, ms, ns, es, mo, rfl, _⟩ := h
    rfl
  · obtain ⟨p, L, ms, ns, es, mo, rfl, hL, hlen, hmo, kk⟩ := h
    refine ⟨_, pss_cons (ps_set (i := 2) scToA.nd rfl (Or.inl rfl) (pe_lst pa_nil))
      (pss_cons (ps_for PassesOwn.never rfl (pi_range1 rfl mR (pa_cons (pv 1) pa_nil)) (pg_name (i := 3) scToA.nd rfl (Or.inl rfl))
        (pss_cons (ps_set (i := 4) scToA.nd rfl (Or.inl rfl) (pe_lst (pa_cons (pe_meth (pv 0) cl T.kind F2 hr b2 .nil pass0 (pa_cons (pv 3) pa_nil)) (pa_cons (pe_meth (pv 0) cl T.text F3 hr b3 .nil pass0 (pa_cons (pv 3) pa_nil)) (pa_cons (pe_meth (pv 0) cl T.members F4 hr b4 .nil pass0 (pa_cons (pv 3) pa_nil)) (pa_cons (pe_meth (pv 0) cl T.notes F5 hr b5 .nil pass0 (pa_cons (pv 3) pa_nil)) pa_nil))))))
        (pss_one (ps_expr (pe_bm PySem.F.plainAttrs_list PySem.F.slot_list_append PySem.F.type_list_append mt_append (pv 2) (pa_cons (pe_op op_cat (pv 4) (pe_lst (pa_cons (pe_meth (pv 0) cl T.cause F6 hr b6 .nil pass0 (pa_cons (pv 3) pa_nil)) (pa_cons (pe_meth (pv 0) cl T.atw F7 hr b7 .nil pass0 (pa_cons (pv 3) pa_nil)) pa_nil)))) pa_nil))))))
      (pss_one (ps_ret (pv 2)))), ?_⟩
    refine ⟨Nat.zero_le _, fun l hl => ?_⟩
    have k0 : Keep [] H (upd H l (.lst [])) := Keep.new hl
    have hL0 := hL.keep k0 (fun b q => absurd q nin0) (fun b q => absurd q nin0)
    refine ⟨_, rfl, _, rfl, by omega, by omega, ?_⟩
    rw [Int.toNat_natCast]
    refine for_range (lo := 0) (n := mo) (fun i σ H' => ∃ (v2 v3 : Option V) (rs : List Addr), σ = [some (.ref p), some (.int (mo : Int)), some (.ref l), v2, v3] ∧ Keep [] H H' ∧ H' l = some (.lst (rs.map V.ref)) ∧ RowsAt [l] H' rs (es.take i))
      ⟨none, none, [], rfl, k0, upd_same, True.intro⟩ ?_ ?_
    · rintro i σ H1 hi ⟨v2, v3, rs, rfl, k1, e1, r1⟩
      have hil : i < es.length := by omega
      have he : es[i]? = some es[i] := List.getElem?_eq_getElem hil
      generalize es[i] = e at he
      have z0 : (0 : Int) + (i : Int) = (i : Int) := Int.zero_add _
      have hL1 := hL.keep k1 (fun b q => absurd q nin0) (fun b q => absurd q nin0)
      refine ⟨_, rfl, p, L.dx, _, rfl, hL1.ins, flg2 L, _, rfl, p, L, ms, ns, es, i, e, by rw [z0]; rfl, hL1, he, ?_⟩
      refine ⟨_, rfl, p, L.dx, _, rfl, hL1.ins, flg3 L, _, rfl, p, L, ms, ns, es, i, e, by rw [z0]; rfl, hL1, he, ?_⟩
      refine ⟨_, rfl, p, L.dx, _, rfl, hL1.ins, flg4 L, _, rfl, p, L, ms, ns, es, i, e, by rw [z0]; rfl, hL1, he, fun m hm => ?_⟩
      have k2 : Keep [] H (upd H1 m (.lst (memV e.mem))) := k1.newTo hm
      have hL2 := hL.keep k2 (fun b q => absurd q nin0) (fun b q => absurd q nin0)
      refine ⟨_, rfl, p, L.dx, _, rfl, hL2.ins, flg5 L, _, rfl, p, L, ms, ns, es, i, e, by rw [z0]; rfl, hL2, he, fun n hn => ?_⟩
      refine ⟨(by show 4 ≤ sizeLine; decide), fun a ha => ?_⟩
      -- one + [..]
      have k3 : Keep [] H1 (upd (upd (upd H1 m (.lst (memV e.mem))) n (.lst (e.notes.map V.str))) a (.lst [.str e.kind, .str e.text, .ref m, .ref n])) := ((Keep.new hm).newTo hn).newTo ha
      have em : (upd (upd (upd H1 m (.lst (memV e.mem))) n (.lst (e.notes.map V.str))) a (.lst [.str e.kind, .str e.text, .ref m, .ref n])) m = some (.lst (memV e.mem)) := ((Keep.new hn).newTo ha (ex := [])).at upd_same nin0
      have en : (upd (upd (upd H1 m (.lst (memV e.mem))) n (.lst (e.notes.map V.str))) a (.lst [.str e.kind, .str e.text, .ref m, .ref n])) n = some (.lst (e.notes.map V.str)) := (Keep.new ha (ex := [])).at upd_same nin0
      have ea : (upd (upd (upd H1 m (.lst (memV e.mem))) n (.lst (e.notes.map V.str))) a (.lst [.str e.kind, .str e.text, .ref m, .ref n])) a = some (.lst [.str e.kind, .str e.text, .ref m, .ref n]) := upd_same
      have nml : m ≠ l := Ne.symm (ne_of_none e1 hm)
      have nnl : n ≠ l := Ne.symm (ne_of_none ((Keep.new hm (ex := [])).at e1 nin0) hn)
      generalize (upd (upd (upd H1 m (.lst (memV e.mem))) n (.lst (e.notes.map V.str))) a (.lst [.str e.kind, .str e.text, .ref m, .ref n])) = H2 at k3 em en ea ⊢
      have e2 := k3.at e1 nin0
      have hL3 := hL1.keep k3 (fun b q => absurd q nin0) (fun b q => absurd q nin0)
      refine ⟨_, rfl, .inl ⟨rfl, _, SqL.of e2⟩, _, rfl, ?_⟩
      refine ⟨_, rfl, p, L.dx, _, rfl, hL3.ins, flg6 L, _, rfl, p, L, ms, ns, es, i, e, by rw [z0]; rfl, hL3, he, ?_⟩
      refine ⟨_, rfl, p, L.dx, _, rfl, hL3.ins, flg7 L, _, rfl, p, L, ms, ns, es, i, e, by rw [z0]; rfl, hL3, he, ?_⟩
      refine ⟨(by show 2 ≤ sizeLine; decide), fun b hb => ?_⟩
      have nab : a ≠ b := ne_of_none ea hb
      refine ⟨a, b, _, _, rfl, rfl, by rw [upd_ne nab]; exact ea, upd_same, (by show 6 ≤ sizeLine; decide), fun r hr' => ?_⟩
      have k4 : Keep [] H2 (upd (upd H2 b (.lst [optV e.cause, optV e.atw])) r (.lst ([.str e.kind, .str e.text, .ref m, .ref n] ++ [optV e.cause, optV e.atw]))) := (Keep.new hb).newTo hr'
      have er : (upd (upd H2 b (.lst [optV e.cause, optV e.atw])) r (.lst ([.str e.kind, .str e.text, .ref m, .ref n] ++ [optV e.cause, optV e.atw]))) r = some (.lst [.str e.kind, .str e.text, .ref m, .ref n, optV e.cause, optV e.atw]) := upd_same
      have nrl : r ≠ l := Ne.symm (ne_of_none ((Keep.new hb (ex := [])).at e2 nin0) hr')
      generalize (upd (upd H2 b (.lst [optV e.cause, optV e.atw])) r (.lst ([.str e.kind, .str e.text, .ref m, .ref n] ++ [optV e.cause, optV e.atw]))) = H3 at k4 er ⊢
      have e3 := k4.at e2 nin0
      have lr : rs.length ≤ 10000 := by rw [r1.len, List.length_take]; omega
      refine ⟨l, _, _, rfl, rfl, e3, Nat.lt_of_le_of_lt (by rw [List.length_map]; exact lr : (rs.map V.ref).length ≤ 10000) (by decide), ?_⟩
      have k5 : Keep [l] H3 (upd H3 l (.lst (rs.map V.ref ++ [V.ref r]))) := Keep.own in1
      refine ⟨_, _, rs ++ [r], rfl, ((k1.trans k3).trans k4).freshTo hl, by rw [upd_same, List.map_append]; rfl, ?_⟩
      rw [show es.take (i + 1) = es.take i ++ [e] by rw [List.take_add_one, he]; rfl]
      refine RowsAt.snoc ⟨m, n, nin1 nrl, nin1 nml, nin1 nnl, k5.at er (nin1 nrl), k5.at (k4.at em nin0) (nin1 nml), k5.at (k4.at en nin0) (nin1 nnl)⟩ ?_
      exact ((r1.keep (k3.more fun b q => absurd q nin0)).keep (k4.more fun b q => absurd q nin0)).keep k5
    · rintro σ H1 ⟨v2, v3, rs, rfl, k1, e1, r1⟩
      exact ⟨_, rfl, kk H1 l k1 hl ⟨rs, e1, r1.less (fun a q => absurd q nin0)⟩⟩
end
abbrev sDsA : Stmt := top 44 --def _law_deeds
abbrev nDsA : List Str := ["_law_pot_here", "_law_ledger_here", "_law_faults_here", "_law_texts_here", "_law_most", "_law_turn"]
theorem scDsA : FnScope nDsA ["_law_pot_here", "_law_ledger_here", "_law_faults_here", "_law_texts_here", "_law_most"] (defScope sDsA) := ⟨rfl, rfl, rfl, by decide +kernel, rfl, by decide +kernel, by decide +kernel⟩
def spDsA (C CK : Addr) : Sp := fun vs H Q _ => ∃ (ps : List (Str × Str)) (cap : Nat) (p X : Addr) (D : LDA) (es : List Ent) (tx : List Str) (n mo : Nat), vs = [.ref p, .ref D.q, .ref D.E, .ref X, .int (mo : Int)] ∧ PotAt H p n ∧ n < 2 ^ 29 ∧ StA C CK ps cap p H D es ∧ TxsOk tx ∧ H X = some (.lst (tx.map V.str)) ∧ X ∉ p :: D.zs ∧ 1 ≤ es.length ∧ es.length ≤ 10000 ∧ mo ≤ 29 ∧ cap + mo ≤ 30 ∧
  ∀ (H' : Hp) (es' : List Ent), StA C CK ps (cap + mo) p H' D es' → es'.length = es.length → es'.map Ent.mem = es.map Ent.mem → Keep (p :: D.zs) H H' → PotAt H' p (n + 200) → Q .non H'
section
variable {P : Program} {w : World} {K : PySem.W.Frag} {mg : Str → Option Value} {base : Heap} {C CK fDg fDe : Addr}
theorem ok_dsA {dD dE fd : FuncData} {f : Addr} (F : Fun K "_law_deeds" "_law_deeds" sDsA f fd) (FD : FnOk P w K mg base CX0 1 fDg dD ["_law_pot_here", "_law_many"] spDigit) (gD : mg "_law_digit" = some (.ref fDg)) (kD : PySem.W.keepIn K (.ref fDg) = true) (bD : Binds K dD ["_law_pot_here", "_law_many"] [])
    (FE : FnOk P w K mg base CX0 5 fDe dE ["_law_pot_here", "_law_ledger_here", "_law_faults_here", "_law_texts_here", "_law_k"] (spDeA C CK)) (gE : mg "_law_deed" = some (.ref fDe)) (kE : PySem.W.keepIn K (.ref fDe) = true) (bE : Binds K dE ["_law_pot_here", "_law_ledger_here", "_law_faults_here", "_law_texts_here", "_law_k"] []) (mL : mg "len" = none) (mR : mg "range" = none) :
    FnOk P w K mg base CX0 6 f fd ["_law_pot_here", "_law_ledger_here", "_law_faults_here", "_law_texts_here", "_law_most"] (spDsA C CK) := by
  refine F.ok scDsA (fun vs H Q E h => ?_) (fun cdv A0 outer s H vs Q Es hr h => ?_)
  · obtain ⟨ps, cap, p, X, D, es, tx, n, mo, rfl, _⟩ := h
    rfl
  · obtain ⟨ps, cap, p, X, D, es, tx, n, mo, rfl, pot, hn, S, htx, hX, nX, h1, h400, hmo, hcap, kk⟩ := h
    have hr1 : Room 1 _ := hr.mono (by decide)
    refine ⟨_, pss_one (ps_for PassesOwn.never rfl (pi_range1 rfl mR (pa_cons (pe_call FD hr1 rfl gD kD bD .nil pass0 (pa_cons (pv 0) (pa_cons (pe_op op_add (pv 4) pe_int) pa_nil))) pa_nil)) (pg_name (i := 5) scDsA.nd rfl (Or.inl rfl))
      (pss_one (ps_expr (pe_call FE hr rfl gE kE bE .nil pass0 (pa_cons (pv 0) (pa_cons (pv 1) (pa_cons (pv 2) (pa_cons (pv 3) (pa_cons (pe_call FD hr1 rfl gD kD bD .nil pass0 (pa_cons (pv 0) (pa_cons (pe_callB call_len_seq (by rfl) mL PySem.boot_len (pa_cons (pv 2) pa_nil)) pa_nil))) pa_nil))))))))), ?_⟩
    have nXp : X ≠ p := fun z => nX (by rw [z]; exact List.mem_cons_self)
    have sp : ∀ b, b ∈ [p] → b ∈ p :: D.zs := fun b hb => by rw [List.mem_singleton.mp hb]; exact List.mem_cons_self
    refine ⟨_, rfl, _, rfl, _, _, rfl, rfl, p, n, _, rfl, pot, by omega, by omega, by omega, fun d H1 d0 d1 hk1 pot1 => ?_⟩
    obtain ⟨d, rfl⟩ : ∃ m : Nat, d = (m : Int) := ⟨d.toNat, by omega⟩
    have S1 := S.keepP pot.some (keep_of_dig hk1)
    refine ⟨_, rfl, by omega, by omega, ?_⟩
    rw [Int.toNat_natCast]
    refine for_range (lo := 0) (n := d) (fun i σ G => ∃ (v5 : Option V) (es1 : List Ent), σ = [some (.ref p), some (.ref D.q), some (.ref D.E), some (.ref X), some (.int (mo : Int)), v5] ∧ StA C CK ps (cap + i) p G D es1 ∧ es1.length = es.length ∧ es1.map Ent.mem = es.map Ent.mem ∧ Keep (p :: D.zs) H G ∧ PotAt G p (n + 1 + 4 * i))
      ⟨none, es, rfl, S1, rfl, rfl, (keep_of_dig hk1).more sp, pot1⟩ ?_ ?_
    · rintro i σ G hi ⟨v5, es1, rfl, S2, hl, hm, kG, pG⟩
      have lr : D.rs.length = es1.length := S2.rows.len
      refine ⟨_, rfl, _, rfl, _, rfl, _, rfl, _, rfl, _, rfl, D.E, _, rfl, .inl (SqL.of S2.ent), p, _, _, rfl, pG, by omega, by rw [List.length_map, lr]; omega, by rw [List.length_map, lr]; omega, fun k G2 k0 k1 hk2 p2 => ?_⟩
      rw [List.length_map, lr] at k1
      obtain ⟨k, rfl⟩ : ∃ m : Nat, k = (m : Int) := ⟨k.toNat, by omega⟩
      have k2 := keep_of_dig hk2
      refine ⟨ps, cap + i, p, X, D, es1, tx, _, k, rfl, p2, by omega, S2.keepP pG.some k2, htx, k2.at (kG.at hX nX) (nin1 nXp), nXp, by omega, by omega, by omega, fun H' es' S' hl' hm' k' p' => ?_⟩
      exact ⟨_, es', rfl, S', hl'.trans hl, hm'.trans hm, (kG.trans (k2.more sp)).trans k', p'.le (by omega)⟩
    · rintro σ G ⟨v5, es1, rfl, S2, hl, hm, kG, pG⟩
      exact kk G es1 (S2.cap (by omega)) hl hm kG (pG.le (by omega))
end
end Fs
/-! The kinds, and what stands under what. -/
namespace Fs
open PySem L2 TL
def upV : Option Str → V
  | none => .non
  | some y => .str y
def dueL (ps : List (Str × Str)) : List (Str × Option Str) := (sF, none) :: (sS, some sF) :: ps.map fun q => (q.1, some q.2)
theorem valV_app {κ : Type} [DecidableEq κ] {l m : List (κ × V)} {k : κ} (h : valV l k = none) : valV (l ++ m) k = valV m k := by
  unfold valV at h ⊢
  rw [List.find?_append]
  have : l.find? (fun kv => decide (kv.1 = k)) = none := by
    cases q : l.find? (fun kv => decide (kv.1 = k)) with
    | none => rfl
    | some v => rw [q] at h; cases h
  rw [this]; rfl
theorem valV_app1 {κ : Type} [DecidableEq κ] {l m : List (κ × V)} {k : κ} {v : V} (h : valV l k = some v) : valV (l ++ m) k = some v := by
  unfold valV at h ⊢
  rw [List.find?_append]
  cases q : l.find? (fun kv => decide (kv.1 = k)) with
  | none => rw [q] at h; cases h
  | some v => rw [q] at h; exact h
theorem kvs_at {ps : List (Str × Str)} (h : Wf ps) : ∀ q ∈ ps, valV (kvsOf ps) (.inr q.1) = some (.str q.2) := by
  induction h with
  | nil => exact fun q h => absurd h List.not_mem_nil
  | @snoc ps z y hw hz hn hy ih =>
    intro q hq
    have e : kvsOf (ps ++ [(z, y)]) = kvsOf ps ++ [(.inr z, .str y)] := by
      unfold kvsOf
      rw [List.map_append, ← List.append_assoc]; rfl
    rw [e]
    rcases List.mem_append.mp hq with w | w
    · exact valV_app1 (ih q w)
    · rw [List.mem_singleton.mp w]
      have no : valV (kvsOf ps) (.inr z) = none := by
        have := kvs_is z ps
        rw [decide_eq_false (fun m => hn (by
          rcases List.mem_cons.mp m with a | a
          · rw [a]; exact List.mem_cons_of_mem _ List.mem_cons_self
          · rcases List.mem_cons.mp a with b | b
            · rw [b]; exact List.mem_cons_self
            · exact List.mem_cons_of_mem _ (List.mem_cons_of_mem _ b)))] at this
        cases r : valV (kvsOf ps) (.inr z) with
        | none => rfl
        | some v => rw [r] at this; cases this
      rw [valV_app no]
      exact valV_pos rfl
theorem due_at {ps : List (Str × Str)} (h : Wf ps) : ∀ q ∈ dueL ps, valV (kvsOf ps) (.inr q.1) = some (upV q.2) := fun q hq => by
  unfold dueL at hq
  rcases List.mem_cons.mp hq with z | z
  · rw [z]; exact valV_pos rfl
  · rcases List.mem_cons.mp z with z | z
    · rw [z]
      show valV ((.inr sF, V.non) :: (.inr sS, V.str sF) :: ps.map fun q => ((.inr q.1 : Key), V.str q.2)) (.inr sS) = _
      rw [valV_neg (fun e => sFS (Sum.inr.inj e))]
      exact valV_pos rfl
    · obtain ⟨r, hr, e⟩ := List.mem_map.mp z
      rw [← e]
      exact kvs_at h r hr

theorem Wf.not_keys {ps : List (Str × Str)} (h : Wf ps) : ∀ x ∈ ps.map Prod.fst, x ≠ sF ∧ x ≠ sS := by
  induction h with
  | nil => exact fun x h => absurd h List.not_mem_nil
  | @snoc ps z y hw hz hn hy ih =>
    intro x hx
    rw [List.map_append] at hx
    rcases List.mem_append.mp hx with v | v
    · exact ih x v
    · have e : x = z := by simpa using v
      rw [e]
      exact ⟨fun q => hn (by rw [q]; exact List.mem_cons_of_mem _ List.mem_cons_self), fun q => hn (by rw [q]; exact List.mem_cons_self)⟩
abbrev allK (ps : List (Str × Str)) : List Str := sF :: sS :: ps.map Prod.fst
def upOf (ps : List (Str × Str)) (x : Str) : Option Str := match valV (kvsOf ps) (.inr x) with
  | some (.str y) => some y
  | _ => none
theorem due_all (ps : List (Str × Str)) : (dueL ps).map Prod.fst = allK ps := by
  unfold dueL allK
  rw [List.map_cons, List.map_cons, List.map_map]
  rfl
theorem up_at {ps : List (Str × Str)} (hw : Wf ps) {x : Str} (hx : x ∈ allK ps) : valV (kvsOf ps) (.inr x) = some (upV (upOf ps x)) := by
  rw [← due_all] at hx
  obtain ⟨q, hq, rfl⟩ := List.mem_map.mp hx
  have h := due_at hw q hq
  unfold upOf
  rw [h]
  cases q.2 <;> rfl
theorem up_mem {ps : List (Str × Str)} (hw : Wf ps) {q : Str × Option Str} (hq : q ∈ dueL ps) : upOf ps q.1 = q.2 := by
  have h := due_at hw q hq
  unfold upOf
  rw [h]
  cases q.2 <;> rfl
theorem up_F {ps : List (Str × Str)} (hw : Wf ps) : upOf ps sF = none := up_mem hw (q := (sF, none)) List.mem_cons_self
theorem up_S {ps : List (Str × Str)} (hw : Wf ps) : upOf ps sS = some sF := up_mem hw (q := (sS, some sF)) (List.mem_cons_of_mem _ List.mem_cons_self)
theorem up_pair {ps : List (Str × Str)} (hw : Wf ps) {q : Str × Str} (hq : q ∈ ps) : upOf ps q.1 = some q.2 := up_mem hw (q := (q.1, some q.2)) (List.mem_cons_of_mem _ (List.mem_cons_of_mem _ (List.mem_map.mpr ⟨q, hq, rfl⟩)))
theorem up_none {ps : List (Str × Str)} (hw : Wf ps) {x : Str} (hx : x ∈ allK ps) (h : upOf ps x = none) : x = sF := by
  rcases List.mem_cons.mp hx with z | z
  · exact z
  · rcases List.mem_cons.mp z with z | z
    · rw [z, up_S hw] at h; cases h
    · obtain ⟨q, hq, rfl⟩ := List.mem_map.mp z
      rw [up_pair hw hq] at h; cases h
theorem Wf.pair_up {ps : List (Str × Str)} (hw : Wf ps) : ∀ q ∈ ps, q.2 ∈ sF :: ps.map Prod.fst := by
  induction hw with
  | nil => exact fun q h => absurd h List.not_mem_nil
  | @snoc ps z y hw hz hn hy ih =>
    intro q hq
    rw [List.map_append]
    have lift : ∀ u, u ∈ sF :: ps.map Prod.fst → u ∈ sF :: (ps.map Prod.fst ++ [(z, y)].map Prod.fst) := fun u hu => by
      rcases List.mem_cons.mp hu with a | a
      · rw [a]; exact List.mem_cons_self
      · exact List.mem_cons_of_mem _ (List.mem_append_left _ a)
    rcases List.mem_append.mp hq with v | v
    · exact lift _ (ih q v)
    · rw [List.mem_singleton.mp v]; exact lift y hy
theorem up_in {ps : List (Str × Str)} (hw : Wf ps) {x y : Str} (hx : x ∈ allK ps) (h : upOf ps x = some y) : y ∈ sF :: ps.map Prod.fst := by
  rcases List.mem_cons.mp hx with z | z
  · rw [z, up_F hw] at h; cases h
  · rcases List.mem_cons.mp z with z | z
    · rw [z, up_S hw] at h
      rw [← Option.some.inj h]; exact List.mem_cons_self
    · obtain ⟨q, hq, rfl⟩ := List.mem_map.mp z
      rw [up_pair hw hq] at h
      rw [← Option.some.inj h]; exact hw.pair_up q hq
theorem kept_all {ps : List (Str × Str)} {y : Str} (h : y ∈ sF :: ps.map Prod.fst) : y ∈ allK ps := by
  rcases List.mem_cons.mp h with z | z
  · rw [z]; exact List.mem_cons_self
  · exact List.mem_cons_of_mem _ (List.mem_cons_of_mem _ z)
/-- the way up ends -/
theorem Wf.rank {ps : List (Str × Str)} (hw : Wf ps) : ∃ r : Str → Nat, r sF = 0 ∧ r sS = 1 ∧ (∀ q ∈ ps, r q.2 < r q.1) ∧ ∀ x ∈ allK ps, r x ≤ ps.length + 1 := by
  induction hw with
  | nil =>
    refine ⟨fun x => if x = sF then 0 else 1, if_pos rfl, if_neg fun e => sFS e.symm, fun q h => absurd h List.not_mem_nil, fun x _ => ?_⟩
    show (if x = sF then 0 else 1) ≤ 1
    split <;> omega
  | @snoc ps z y hw hz hn hy ih =>
    obtain ⟨r, r1, r2, r3, r4⟩ := ih
    have nF : ¬ sF = z := fun e => hn (by rw [← e]; exact List.mem_cons_of_mem _ List.mem_cons_self)
    have nS : ¬ sS = z := fun e => hn (by rw [← e]; exact List.mem_cons_self)
    have nP : ∀ q ∈ ps, ¬ q.1 = z := fun q hq e => hn (List.mem_cons_of_mem _ (List.mem_cons_of_mem _ (List.mem_map.mpr ⟨q, hq, e⟩)))
    have nY : ∀ u, u ∈ sF :: ps.map Prod.fst → ¬ u = z := fun u hu e => by
      rcases List.mem_cons.mp hu with a | a
      · exact nF (a.symm.trans e)
      · obtain ⟨q, hq, h⟩ := List.mem_map.mp a
        exact nP q hq (h.trans e)
    refine ⟨fun x => if x = z then ps.length + 2 else r x, by show (if sF = z then _ else r sF) = 0; rw [if_neg nF]; exact r1, by show (if sS = z then _ else r sS) = 1; rw [if_neg nS]; exact r2, fun q hq => ?_, fun x hx => ?_⟩
    · rcases List.mem_append.mp hq with v | v
      · simp only [if_neg (nP q v), if_neg (nY _ (hw.pair_up q v))]
        exact r3 q v
      · rw [List.mem_singleton.mp v]
        simp only [if_neg (nY y hy), if_true]
        have := r4 y (kept_all hy)
        omega
    · rw [List.length_append]
      show (if x = z then ps.length + 2 else r x) ≤ ps.length + 1 + 1
      split
      · exact Nat.le_refl _
      · rename_i h
        have hx' : x ∈ allK ps := by
          rcases List.mem_cons.mp hx with a | a
          · rw [a]; exact List.mem_cons_self
          · rcases List.mem_cons.mp a with a | a
            · rw [a]; exact List.mem_cons_of_mem _ List.mem_cons_self
            · rw [List.map_append] at a
              rcases List.mem_append.mp a with a | a
              · exact List.mem_cons_of_mem _ (List.mem_cons_of_mem _ a)
              · exact absurd (by simpa using a) h
        exact Nat.le_succ_of_le (r4 x hx')
/-- one step up; fault stays -/
def nx (ps : List (Str × Str)) (x : Str) : Str := (upOf ps x).getD sF
def nxN (ps : List (Str × Str)) : Nat → Str → Str
  | 0, x => x
  | n + 1, x => nx ps (nxN ps n x)
theorem nx_in {ps : List (Str × Str)} (hw : Wf ps) {x : Str} (hx : x ∈ allK ps) : nx ps x ∈ allK ps := by
  unfold nx
  cases h : upOf ps x with
  | none => exact List.mem_cons_self
  | some y => exact kept_all (up_in hw hx h)
theorem nxN_in {ps : List (Str × Str)} (hw : Wf ps) {x : Str} (hx : x ∈ allK ps) : ∀ n, nxN ps n x ∈ allK ps
  | 0 => hx
  | n + 1 => nx_in hw (nxN_in hw hx n)
def under (ps : List (Str × Str)) (a b : Str) : Bool := (List.range (ps.length + 2)).any fun i => decide (nxN ps i a = b)
theorem under_t {ps : List (Str × Str)} {a b : Str} {i : Nat} (hi : i < ps.length + 2) (h : nxN ps i a = b) : under ps a b = true := by
  unfold under
  rw [List.any_eq_true]
  exact ⟨i, List.mem_range.mpr hi, decide_eq_true h⟩
theorem under_f {ps : List (Str × Str)} {a b : Str} (h : ∀ i, i < ps.length + 2 → nxN ps i a ≠ b) : under ps a b = false := by
  unfold under
  rw [List.any_eq_false]
  intro i hi
  rw [decide_eq_false (h i (List.mem_range.mp hi))]
  exact Bool.false_ne_true
theorem nx_rank {ps : List (Str × Str)} (hw : Wf ps) {r : Str → Nat} (r1 : r sF = 0) (r2 : r sS = 1) (r3 : ∀ q ∈ ps, r q.2 < r q.1) {x y : Str} (hx : x ∈ allK ps) (h : upOf ps x = some y) : r y < r x := by
  rcases List.mem_cons.mp hx with z | z
  · rw [z, up_F hw] at h; cases h
  · rcases List.mem_cons.mp z with z | z
    · rw [z, up_S hw] at h
      rw [← Option.some.inj h, z, r1, r2]; decide
    · obtain ⟨q, hq, rfl⟩ := List.mem_map.mp z
      rw [up_pair hw hq] at h
      rw [← Option.some.inj h]; exact r3 q hq
/-- from fault on it stays -/
theorem nxN_F {ps : List (Str × Str)} (hw : Wf ps) {a : Str} {i : Nat} (h : nxN ps i a = sF) : ∀ j, nxN ps (i + j) a = sF
  | 0 => h
  | j + 1 => by
    show nx ps (nxN ps (i + j) a) = sF
    rw [nxN_F hw h j]
    unfold nx
    rw [up_F hw]; rfl
def pr (q : Str × Str) : Key × V := (.inr q.1, .str q.2)
theorem merge_wf {ps : List (Str × Str)} (hw : Wf ps) : mergeK [] (ps.map pr) = ps.map pr := by
  induction hw with
  | nil => rfl
  | @snoc ps z y hw hz hn hy ih =>
    unfold mergeK at ih ⊢
    rw [List.map_append, List.foldl_append, ih]
    show putK (ps.map pr) (.inr z) (.str y) = _
    have no : ((ps.map pr).any fun kv => decide (kv.1 = (.inr z : Key))) = false := by
      rw [List.any_eq_false]
      intro kv hkv e
      obtain ⟨q, hq, rfl⟩ := List.mem_map.mp hkv
      exact hn (by rw [← Sum.inr.inj (of_decide_eq_true e)]; exact List.mem_cons_of_mem _ (List.mem_cons_of_mem _ (List.mem_map.mpr ⟨q, hq, rfl⟩)))
    unfold putK
    rw [no, if_neg Bool.false_ne_true]
    rfl
theorem law_up {ps : List (Str × Str)} (hw : Wf ps) {x : Str} (hx : x ∈ allK ps) : (valV (ps.map pr) (.inr x)).getD (.str sF) = .str (nx ps x) := by
  have nP : x ∉ ps.map Prod.fst → valV (ps.map pr) (.inr x) = none := fun h => by
    unfold valV
    rw [List.find?_eq_none.mpr fun kv hkv e => ?_]; rfl
    obtain ⟨q, hq, rfl⟩ := List.mem_map.mp hkv
    exact h (List.mem_map.mpr ⟨q, hq, Sum.inr.inj (of_decide_eq_true e)⟩)
  by_cases h : x ∈ ps.map Prod.fst
  · obtain ⟨q, hq, rfl⟩ := List.mem_map.mp h
    have e1 := kvs_at hw q hq
    have e2 : valV (kvsOf ps) (.inr q.1) = valV (ps.map pr) (.inr q.1) := by
      have n1 : ¬ sF = q.1 := fun e => (hw.not_keys q.1 h).1 e.symm
      have n2 : ¬ sS = q.1 := fun e => (hw.not_keys q.1 h).2 e.symm
      show valV ((.inr sF, V.non) :: (.inr sS, V.str sF) :: ps.map fun q => ((.inr q.1 : Key), V.str q.2)) (.inr q.1) = _
      rw [valV_neg (fun e => n1 (Sum.inr.inj e)), valV_neg (fun e => n2 (Sum.inr.inj e))]
      rfl
    rw [← e2, e1]
    unfold nx
    rw [up_pair hw hq]; rfl
  · rw [nP h]
    rcases List.mem_cons.mp hx with z | z
    · unfold nx; rw [z, up_F hw]; rfl
    · rcases List.mem_cons.mp z with z | z
      · unfold nx; rw [z, up_S hw]; rfl
      · exact absurd z h
end Fs
/-! Kinds stay. -/
namespace Fs
open PySem L2 TL
theorem KindsAt.keep0 {C : Addr} {H H' : Hp} {kd : Addr} {ps : List (Str × Str)} (h : KindsAt C H kd ps) (k : Keep [] H H') : KindsAt C H' kd ps := h.keep k fun b z => absurd z nin0
end Fs
/-! A ledger and its kinds. -/
namespace Fs
open PySem L2 TL
structure LT (C CK : Addr) (ps : List (Str × Str)) (H : Hp) (p : Addr) (A : LA) (ms ns : List Addr) (es : List Ent) : Prop where
  led : LedAt C H p A ms ns es
  kin : KindsAt CK H A.kd ps
  wf : Wf ps
  kd : ∀ e ∈ es, e.kind ∈ allK ps
theorem LT.keep0 {C CK : Addr} {ps : List (Str × Str)} {H H' : Hp} {p : Addr} {A : LA} {ms ns : List Addr} {es : List Ent} (h : LT C CK ps H p A ms ns es) (k : Keep [] H H') : LT C CK ps H' p A ms ns es :=
  ⟨h.led.keep k (fun b z => absurd z nin0) (fun b z => absurd z nin0), h.kin.keep0 k, h.wf, h.kd⟩
end Fs
/-! Slices of tuples. -/
namespace Fs
open PySem L2 TL
theorem slA_one {K : PySem.W.Frag} {H : Hp} {a : Addr} {xs : List V} {lo hi : Option Int} {Q : VK} (ha : H a = some (.tup xs)) (h : ∀ (c : Addr) (H' : Hp), Keep [] H H' → H' c = some (.tup (cutV xs lo hi)) → Q (.ref c) H') : rSlA K (.ref a) lo hi H Q :=
  ⟨a, xs, rfl, SqT.of ha, fun e => h a H (Keep.refl _ _) (by rw [ha]; unfold cutV; rw [e.1, e.2, List.drop_zero, Nat.sub_zero, List.take_length]), fun _ p hp => h p _ (Keep.new hp) upd_same⟩
end Fs
/-! list.extend with a tuple. -/
namespace Fs
open PySem PySem.Spec PyProof.Rows L2 TL
theorem list_extTup (l : Addr) (items : Array Value) (n : Nat) (b : Addr) (items2 : Array Value) (n2 : Nat) (dd : Option Addr) (sl : Array (Option Value)) (hs0 : ¬(!items.isEmpty && Builtin.List.listTooLong (items.size + items2.size)) = true) (hs1 : items.size ≤ sizeLine) (hs2 : items.size + items2.size ≤ sizeLine + 1) :
    Meets (Builtin.«list.extend» ⟨[.ref l, .ref b], []⟩) (fun _ R s => s.heap.get? l = some { cls := .type "list", dict := none, data := .seq items n, slots := #[] } ∧ s.heap.get? b = some { cls := .type "tuple", dict := dd, data := .seq items2 n2, slots := sl } ∧ R (.ok (.ret Value.none)) { s with heap := s.heap.update l (Obj.mapSeq fun x => x ++ items2), toks := s.toks }) :=
  .of_wp fun prog w A R s h => by
    obtain ⟨hp, g, d, tk, os⟩ := s
    obtain ⟨hl, hb, h⟩ := h
    have f1 := AutoSeq1.idx_int; have f2 := AutoSeq1.sub_tuple_tuple; have f3 := AutoSeq1.sub_list_list; have f4 := AutoSeq1.sub_tuple_list; have f5 := AutoSeq1.sub_list_tuple
    have hz' : (items ++ items2).size ≤ sizeLine + 1 := by rw [Array.size_append]; exact hs2
    wp_walk using (wpAny_updateSeq hl rfl (hz := hs1) (_hz' := hz')), AutoSeq1.wpAny_loadPart' hl, AutoSeq1.wpAny_loadPart' hb
    exact ⟨_, rfl, h⟩
def rExtT (K : PySem.W.Frag) : V → List V → Hp → VK → Prop := fun x vs H Q => ∃ l b xs zs, x = .ref l ∧ vs = [.ref b] ∧ H l = some (.lst xs) ∧ SqT K H b zs ∧ xs.length + zs.length ≤ 10000 ∧ Q .non (upd H l (.lst (xs ++ zs)))
section
variable {X : Cx}
theorem mt_extT : MtR X "list.extend" (rExtT X.K) := by
  intro pins s σ H x vs v us Q I rx rv h
  obtain ⟨l, b, xs, zs, rfl, rfl, hH, hB, hz, q⟩ := h
  cases rx
  obtain ⟨u, rfl, ru⟩ := rv.one
  cases ru
  obtain ⟨z, its, n, r, hl, e⟩ := I.lstM hH
  obtain ⟨its2, r2, pl, hz2⟩ := I.tuple hB
  obtain ⟨⟨cls, dd, data, sl⟩, ho, hc, n2, hd⟩ := pl
  have hc1 : cls = Value.type "tuple" := hc
  have hd1 : data = Data.seq its2.toArray n2 := hd
  subst hc1 hd1
  have hl2 := r2.length
  have hs : (10000 : Nat) ≤ sizeLine := by decide
  have hsz : its.toArray.size + its2.toArray.size ≤ sizeLine := by rw [List.size_toArray, List.size_toArray]; omega
  have hlong : ¬ (!its.toArray.isEmpty && Builtin.List.listTooLong (its.toArray.size + its2.toArray.size)) = true := by
    rw [notLongL hsz, Bool.and_false]
    exact Bool.false_ne_true
  refine call_meets F.slot_list_extend ⟨_, e, rfl⟩ F.entry_list_extend (F.args_list_extend_2 _ _)
    (list_extTup l its.toArray n b its2.toArray n2 dd sl hlong (by rw [List.size_toArray]; omega) (by omega)) ⟨e, ho, ?_⟩
  refine ⟨.non, _, I.lset (its' := its ++ its2) hH e (by simp) (r.append r2) ?_, rfl, q⟩
  rw [List.length_append]
  omega
end
end Fs
/-! Ways, and whereto they lead. -/
namespace Fs
open PySem L2 TL
/-- a way, and whereto it leads -/
abbrev WH := List Nat × Nat
def WayAt (H : Hp) (t : Addr) (x : WH) : Prop := ∃ a : Addr, H t = some (.tup [.ref a, .int (x.2 : Int)]) ∧ H a = some (.tup (memV x.1))
def WaysAt (H : Hp) : List Addr → List WH → Prop
  | [], [] => True
  | t :: ts, x :: xs => WayAt H t x ∧ WaysAt H ts xs
  | _, _ => False
theorem WaysAt.map {H H' : Hp} (k : ∀ a xs, H a = some (.tup xs) → H' a = some (.tup xs)) : ∀ {ts : List Addr} {xs : List WH}, WaysAt H ts xs → WaysAt H' ts xs
  | [], [], _ => True.intro
  | _ :: ts, _ :: xs, ⟨⟨a, e1, e2⟩, h⟩ => ⟨⟨a, k _ _ e1, k _ _ e2⟩, WaysAt.map k h⟩
  | [], _ :: _, h => h.elim
  | _ :: _, [], h => h.elim
theorem WaysAt.len {H : Hp} : ∀ {ts : List Addr} {xs : List WH}, WaysAt H ts xs → ts.length = xs.length
  | [], [], _ => rfl
  | _ :: ts, _ :: xs, h => by rw [List.length_cons, List.length_cons, WaysAt.len h.2]
  | [], _ :: _, h => h.elim
  | _ :: _, [], h => h.elim
theorem WaysAt.snoc {H : Hp} {t : Addr} {x : WH} (hb : WayAt H t x) : ∀ {ts : List Addr} {xs : List WH}, WaysAt H ts xs → WaysAt H (ts ++ [t]) (xs ++ [x])
  | [], [], _ => ⟨hb, True.intro⟩
  | _ :: ts, _ :: xs, h => ⟨h.1, WaysAt.snoc hb h.2⟩
  | [], _ :: _, h => h.elim
  | _ :: _, [], h => h.elim
theorem WaysAt.unsnoc {H : Hp} {x : WH} : ∀ {xs : List WH} {ts : List Addr}, WaysAt H ts (xs ++ [x]) → ∃ t ts', ts = ts' ++ [t] ∧ WayAt H t x ∧ WaysAt H ts' xs
  | [], [t], h => ⟨t, [], rfl, h.1, True.intro⟩
  | [], _ :: _ :: _, h => h.2.elim
  | [], [], h => h.elim
  | y :: xs, t :: ts, h => by
    obtain ⟨t', ts', e, h1, h2⟩ := WaysAt.unsnoc h.2
    exact ⟨t', t :: ts', by rw [e]; rfl, h1, h.1, h2⟩
  | _ :: _, [], h => h.elim
def wayD (x : WH) : PyData := .tuple [.tuple (x.1.map fun k : Nat => PyData.int (k : Int)), .int (x.2 : Int)]
theorem WayAt.dp {K : PySem.W.Frag} {H : Hp} {t : Addr} {x : WH} (h : WayAt H t x) : Dp K H (.ref t) (wayD x) := by
  obtain ⟨a, e1, e2⟩ := h
  exact .tup (SqT.of e1) (.cons (.tup (SqT.of e2) (dp_ints _)) (.cons (.int _) .nil))
theorem WaysAt.dp {K : PySem.W.Frag} {H : Hp} : ∀ {ts : List Addr} {xs : List WH}, WaysAt H ts xs → DpAll K H (ts.map V.ref) (xs.map wayD)
  | [], [], _ => .nil
  | _ :: ts, _ :: xs, h => .cons h.1.dp (WaysAt.dp h.2)
  | [], _ :: _, h => h.elim
  | _ :: _, [], h => h.elim
theorem ways_flat (xs : List WH) : PyData.canLayAll0 (xs.map wayD) = true ∧ PyData.depthAll (xs.map wayD) ≤ 4 := by
  induction xs with
  | nil => simp [PyData.canLayAll0, PyData.depthAll]
  | cons x r ih =>
    have h1 := ints_lay x.1
    have h2 := ints_deep x.1
    obtain ⟨i1, i2⟩ := ih
    rw [List.map_cons]
    refine ⟨?_, ?_⟩
    · simp only [PyData.canLayAll0, wayD, PyData.canLay0, h1, i1, Bool.and_self]
    · simp only [PyData.depthAll, wayD, PyData.depth]
      omega
def waysD (xs : List WH) : PyData := .list (xs.map wayD)
theorem ways_shaped (xs : List WH) : SeqAt.shaped (waysD xs) = true := by
  obtain ⟨h1, h2⟩ := ways_flat xs
  have a1 : (waysD xs).canLay0 = true := by
    unfold waysD
    simp only [PyData.canLay0]
    exact h1
  have a2 : (waysD xs).depth ≤ 64 := by
    unfold waysD
    simp only [PyData.depth]
    omega
  unfold SeqAt.shaped
  rw [a1, decide_eq_true a2]
  rfl
theorem ways_nil (xs : List WH) : PyData.eqv (waysD xs) (waysD []) = xs.isEmpty := by
  cases xs <;> simp [waysD, PyData.eqv, PyData.eqvAll]
/-- of all that waits -/
def tot (f : Nat → Nat) (xs : List WH) : Nat := (xs.map fun x => f x.2).sum
theorem tot_snoc (f : Nat → Nat) (xs : List WH) (x : WH) : tot f (xs ++ [x]) = tot f xs + f x.2 := by
  unfold tot
  rw [List.map_append, List.sum_append]
  simp
theorem tot_len {f : Nat → Nat} {xs : List WH} (h : ∀ x ∈ xs, 1 ≤ f x.2) : xs.length ≤ tot f xs := by
  induction xs with
  | nil => exact Nat.zero_le _
  | cons x r ih =>
    have := h x List.mem_cons_self
    have := ih fun y hy => h y (List.mem_cons_of_mem _ hy)
    unfold tot at *
    simp only [List.map_cons, List.sum_cons, List.length_cons]
    omega
theorem Tree.node1 {es : List Ent} {Lf Df Nf : Nat → Nat} (T : Tree es Lf Df Nf) {i : Nat} (hi : i < es.length) : 1 ≤ Nf i := by
  have he := List.getElem?_eq_getElem hi
  generalize es[i] = e at he
  by_cases q : e.mem = []
  · rw [(T.leaf i e he q).2.1]
    exact Nat.le_refl _
  · rw [(T.nest i e he q).2.1]
    omega
/-- what is pushed of the members, the last one first -/
def kidsN (w : List Nat) (mem : List Nat) (i : Nat) : List WH := (List.range i).map fun j => (w ++ [mem.length - 1 - j], mem.getD (mem.length - 1 - j) 0)
theorem kidsN_succ {w mem : List Nat} {i : Nat} (h : mem.length - 1 - i < mem.length) : kidsN w mem (i + 1) = kidsN w mem i ++ [(w ++ [mem.length - 1 - i], mem[mem.length - 1 - i])] := by
  unfold kidsN
  rw [List.range_succ, List.map_append, List.map_singleton]
  rw [show mem.getD (mem.length - 1 - i) 0 = mem[mem.length - 1 - i] by rw [List.getD_eq_getElem?_getD, List.getElem?_eq_getElem h]; rfl]
/-- the walk over what waits -/
inductive Run (es : List Ent) : List WH → List WH → List WH → Prop where
  | done {f : List WH} : Run es f [] f
  | leaf {f st l r : List WH} {x : WH} {e : Ent} : st = l ++ [x] → es[x.2]? = some e → e.mem = [] → Run es (f ++ [x]) l r → Run es f st r
  | nest {f st l r : List WH} {x : WH} {e : Ent} : st = l ++ [x] → es[x.2]? = some e → e.mem ≠ [] → Run es f (l ++ kidsN x.1 e.mem e.mem.length) r → Run es f st r
theorem last_one {l l' : List WH} {x x' : WH} (h : l ++ [x] = l' ++ [x']) : l = l' ∧ x = x' := by
  have := List.append_inj' h rfl
  exact ⟨this.1, by have := this.2; simpa using this⟩
theorem Run.one {es : List Ent} {f st a b : List WH} (h : Run es f st a) (g : Run es f st b) : a = b := by
  induction h generalizing b with
  | done =>
    cases g with
    | done => rfl
    | leaf e _ _ _ => simp at e
    | nest e _ _ _ => simp at e
  | leaf h1 h2 h3 h4 ih =>
    cases g with
    | done => simp at h1
    | leaf g1 g2 g3 g4 =>
      obtain ⟨rfl, rfl⟩ := last_one (h1.symm.trans g1)
      exact ih g4
    | nest g1 g2 g3 g4 =>
      obtain ⟨rfl, rfl⟩ := last_one (h1.symm.trans g1)
      rw [h2] at g2
      rw [← Option.some.inj g2] at g3
      exact absurd h3 g3
  | nest h1 h2 h3 h4 ih =>
    cases g with
    | done => simp at h1
    | leaf g1 g2 g3 g4 =>
      obtain ⟨rfl, rfl⟩ := last_one (h1.symm.trans g1)
      rw [h2] at g2
      rw [← Option.some.inj g2] at g3
      exact absurd g3 h3
    | nest g1 g2 g3 g4 =>
      obtain ⟨rfl, rfl⟩ := last_one (h1.symm.trans g1)
      rw [h2] at g2
      rw [← Option.some.inj g2] at g4
      exact ih g4

/-- of the members, the first one first -/
def kidsUp (w : List Nat) (mem : List Nat) (i : Nat) : List WH := (List.range i).map fun j => (w ++ [j], mem.getD j 0)
theorem kidsUp_succ {w mem : List Nat} {i : Nat} (h : i < mem.length) : kidsUp w mem (i + 1) = kidsUp w mem i ++ [(w ++ [i], mem[i])] := by
  unfold kidsUp
  rw [List.range_succ, List.map_append, List.map_singleton]
  rw [show mem.getD i 0 = mem[i] by rw [List.getD_eq_getElem?_getD, List.getElem?_eq_getElem h]; rfl]
theorem kids_rev (w mem : List Nat) : (kidsUp w mem mem.length).reverse = kidsN w mem mem.length := by
  unfold kidsUp kidsN
  apply List.ext_getElem
  · simp
  · intro i h1 h2
    simp at h1 h2
    simp only [List.getElem_reverse, List.getElem_map, List.getElem_range, List.length_map, List.length_range]
theorem kidsUp_snd (w mem : List Nat) : (kidsUp w mem mem.length).map Prod.snd = mem := by
  unfold kidsUp
  apply List.ext_getElem
  · simp
  · intro i h1 h2
    simp at h1
    simp only [List.getElem_map, List.getElem_range]
    rw [List.getD_eq_getElem?_getD, List.getElem?_eq_getElem h1]; rfl
theorem kids_tot (f : Nat → Nat) (w mem : List Nat) : tot f (kidsN w mem mem.length) = (mem.map f).sum := by
  rw [← kids_rev]
  unfold tot
  rw [List.map_reverse, List.sum_reverse, show ((kidsUp w mem mem.length).map fun x => f x.2) = ((kidsUp w mem mem.length).map Prod.snd).map f by rw [List.map_map]; rfl, kidsUp_snd]
theorem kids_in {w mem : List Nat} : ∀ y ∈ kidsN w mem mem.length, y.2 ∈ mem ∧ y.1.length = w.length + 1 := fun y hy => by
  rw [← kids_rev, List.mem_reverse] at hy
  refine ⟨?_, ?_⟩
  · have := List.mem_map_of_mem (f := Prod.snd) hy
    rw [kidsUp_snd] at this
    exact this
  · unfold kidsUp at hy
    obtain ⟨j, _, rfl⟩ := List.mem_map.mp hy
    simp
theorem kids_all {w mem : List Nat} : ∀ z ∈ mem, ∃ y ∈ kidsN w mem mem.length, y.2 = z := fun z hz => by
  rw [← kidsUp_snd w mem] at hz
  obtain ⟨y, hy, e⟩ := List.mem_map.mp hz
  exact ⟨y, by rw [← kids_rev, List.mem_reverse]; exact hy, e⟩
theorem kids_len (w mem : List Nat) (i : Nat) : (kidsN w mem i).length = i := by unfold kidsN; simp
theorem WaysAt.append {H : Hp} : ∀ {ts : List Addr} {xs : List WH} {ts' : List Addr} {xs' : List WH}, WaysAt H ts xs → WaysAt H ts' xs' → WaysAt H (ts ++ ts') (xs ++ xs')
  | [], [], _, _, _, h => h
  | _ :: _, _ :: _, _, _, h, g => ⟨h.1, WaysAt.append h.2 g⟩
  | [], _ :: _, _, _, h, _ => h.elim
  | _ :: _, [], _, _, h, _ => h.elim
theorem WaysAt.rev {H : Hp} : ∀ {ts : List Addr} {xs : List WH}, WaysAt H ts xs → WaysAt H ts.reverse xs.reverse
  | [], [], _ => True.intro
  | _ :: _, _ :: _, h => by
    rw [List.reverse_cons, List.reverse_cons]
    exact (WaysAt.rev h.2).snoc h.1
  | [], _ :: _, h => h.elim
  | _ :: _, [], h => h.elim
theorem WaysAt.at {H : Hp} : ∀ {ts : List Addr} {xs : List WH} {i : Nat} {x : WH}, WaysAt H ts xs → xs[i]? = some x → ∃ t, ts[i]? = some t ∧ WayAt H t x
  | _ :: _, _ :: _, 0, _, h, e => ⟨_, rfl, by rw [← Option.some.inj e]; exact h.1⟩
  | _ :: _, _ :: _, i + 1, _, h, e => WaysAt.at h.2 (i := i) e
  | [], [], _, _, _, e => by cases e
  | [], _ :: _, _, _, h, _ => h.elim
  | _ :: _, [], _, _, h, _ => h.elim
/-- the ways, and whereto they lead -/
structure LvsAt (es : List Ent) (Lf Df : Nat → Nat) (k : Nat) (fs : List WH) : Prop where
  len : fs.length = Lf k
  low : ∀ b, (∀ x ∈ fs, x.1.length ≤ b) → Df k ≤ b
  high : ∀ x ∈ fs, x.1.length ≤ Df k
  run : Run es [] [([], k)] fs
  inn : ∀ x ∈ fs, x.2 < es.length
theorem catA_one {K : PySem.W.Frag} {H : Hp} {a b : Addr} {xs ys : List V} {Q : VK} (ha : H a = some (.tup xs)) (hb : H b = some (.tup ys)) (hz : xs.length + ys.length ≤ sizeLine) (h : ∀ (c : Addr) (H' : Hp), Keep [] H H' → H' c = some (.tup (xs ++ ys)) → Q (.ref c) H') : rCatA K (.ref a) (.ref b) H Q :=
  ⟨a, b, xs, ys, rfl, rfl, SqT.of ha, SqT.of hb, hz, fun e => h b H (Keep.refl _ _) (by rw [hb, e]; rfl), fun _ e => h a H (Keep.refl _ _) (by rw [ha, e, List.append_nil]), fun _ _ p hp => h p _ (Keep.new hp) upd_same⟩
def inWhile : Stmt → List Stmt
  | .While _ b _ _ => b
  | _ => []
theorem Keep.lateX {H H1 H2 : Hp} {ex ex2 : List Addr} (k : Keep ex H H1) (k2 : Keep ex2 H1 H2) (hx : ∀ b ∈ ex2, b ∈ ex ∨ H b = none) : Keep ex H H2 := fun b o hb e => k2 b o (fun z => by
  rcases hx b z with q | q
  · exact hb q
  · rw [q] at e; cases e) (k b o hb e)
end Fs
/-! Ways that part. -/
namespace Fs
open PySem L2 TL
/-- two ways that part somewhere -/
def Inc (a b : List Nat) : Prop := ∃ p x y r s, a = p ++ x :: r ∧ b = p ++ y :: s ∧ x ≠ y
theorem Inc.symm {a b : List Nat} (h : Inc a b) : Inc b a := by
  obtain ⟨p, x, y, r, s, h1, h2, h3⟩ := h
  exact ⟨p, y, x, s, r, h2, h1, h3.symm⟩
theorem Inc.more {a b : List Nat} (h : Inc a b) (c : List Nat) : Inc a (b ++ c) := by
  obtain ⟨p, x, y, r, s, h1, h2, h3⟩ := h
  exact ⟨p, x, y, r, s ++ c, h1, by rw [h2]; simp, h3⟩
theorem Inc.kids (w : List Nat) {i j : Nat} (h : i ≠ j) : Inc (w ++ [i]) (w ++ [j]) := ⟨w, i, j, [], [], rfl, rfl, h⟩
/-- where they part -/
def dif : List Nat → List Nat → Nat
  | x :: xs, y :: ys => if x = y then dif xs ys + 1 else 0
  | _, _ => 0
theorem Inc.dif {a b : List Nat} (h : Inc a b) : dif a b < a.length ∧ dif a b < b.length ∧ (∀ i, i < dif a b → a[i]? = b[i]?) ∧ a[dif a b]? ≠ b[dif a b]? := by
  obtain ⟨p, x, y, r, s, rfl, rfl, h3⟩ := h
  induction p with
  | nil =>
    have e : Fs.dif (x :: r) (y :: s) = 0 := by unfold Fs.dif; rw [if_neg h3]
    simp only [List.nil_append, e]
    refine ⟨Nat.succ_pos _, Nat.succ_pos _, fun i h => absurd h (Nat.not_lt_zero _), fun q => h3 ?_⟩
    simpa using q
  | cons z p ih =>
    obtain ⟨i1, i2, i3, i4⟩ := ih
    have e : Fs.dif (z :: (p ++ x :: r)) (z :: (p ++ y :: s)) = Fs.dif (p ++ x :: r) (p ++ y :: s) + 1 := by
      show (if z = z then _ else 0) = _
      rw [if_pos rfl]
    simp only [List.cons_append, e]
    refine ⟨Nat.succ_lt_succ i1, Nat.succ_lt_succ i2, fun i h => ?_, by simpa using i4⟩
    cases i with
    | zero => rfl
    | succ j => simpa using i3 j (by omega)
/-- the place in the part, behind the last one -/
def thereOf (w : List Nat) : Option (List Nat × List Nat) → List Nat
  | none => List.replicate w.length 0
  | some (w', th) => th.take (dif w w') ++ [th.getD (dif w w') 0 + 1] ++ List.replicate (w.length - dif w w' - 1) 0
theorem thereOf_len {w : List Nat} {o : Option (List Nat × List Nat)} (h : ∀ q, o = some q → Inc w q.1 ∧ q.2.length = q.1.length) : (thereOf w o).length = w.length := by
  cases o with
  | none => show (List.replicate w.length 0).length = _; rw [List.length_replicate]
  | some q =>
    obtain ⟨w', th⟩ := q
    obtain ⟨h1, h2⟩ := h _ rfl
    obtain ⟨d1, d2, _⟩ := h1.dif
    have d1 : dif w w' < w.length := d1
    have h2 : th.length = w'.length := h2
    have d2 : dif w w' < w'.length := d2
    show (th.take (dif w w') ++ [th.getD (dif w w') 0 + 1] ++ List.replicate (w.length - dif w w' - 1) 0).length = _
    rw [List.length_append, List.length_append, List.length_take, List.length_replicate, List.length_singleton]
    omega
theorem memV_take (l : List Nat) (k : Nat) : (memV l).take k = memV (l.take k) := (List.map_take).symm
theorem memV_app (l m : List Nat) : memV l ++ memV m = memV (l ++ m) := (List.map_append).symm
theorem cut_to {xs : List V} {d : Nat} (h : d ≤ xs.length) : cutV xs none (some (d : Int)) = xs.take d := by
  have e1 : HT.sIx xs.length 0 none = 0 := rfl
  have e2 : HT.sIx xs.length xs.length (some (d : Int)) = d := by rw [HT.sIx_nat, Nat.min_eq_left h]
  unfold cutV
  rw [e1, e2, List.drop_zero, Nat.sub_zero]
end Fs
/-! Ways to leaves part. -/
namespace Fs
open PySem L2 TL
theorem Run.inc {es : List Ent} {f st r : List WH} (h : Run es f st r) : ((f ++ st).map Prod.fst).Pairwise Inc → (r.map Prod.fst).Pairwise Inc := by
  have pw : ∀ {a b : List WH}, (a.map Prod.fst).Perm (b.map Prod.fst) → (a.map Prod.fst).Pairwise Inc → (b.map Prod.fst).Pairwise Inc := fun p h => (p.pairwise_iff fun h => h.symm).mp h
  induction h with
  | done => intro h; rwa [List.append_nil] at h
  | @leaf f st l r x e h1 h2 h3 h4 ih =>
    intro h
    refine ih (pw ?_ h)
    rw [h1]
    refine List.Perm.map _ ?_
    rw [← List.append_assoc]
    exact List.perm_append_comm_assoc f l [x] |> fun _ => by
      rw [List.append_assoc, List.append_assoc]
      exact List.Perm.append_left f List.perm_append_comm
  | @nest f st l r x e h1 h2 h3 h4 ih =>
    intro h
    refine ih ?_
    rw [h1, ← List.append_assoc, List.map_append, List.pairwise_append] at h
    obtain ⟨a1, a2, a3⟩ := h
    rw [← List.append_assoc, List.map_append, List.pairwise_append]
    refine ⟨a1, ?_, fun a ha b hb => ?_⟩
    · rw [List.pairwise_map]
      unfold kidsN
      rw [List.pairwise_map]
      refine List.Pairwise.imp_of_mem (R := fun a b => a < b) (fun {i j} hi hj hij => ?_) List.pairwise_lt_range
      rw [List.mem_range] at hi hj
      exact Inc.kids _ (by omega)
    · obtain ⟨y, hy, rfl⟩ := List.mem_map.mp hb
      unfold kidsN at hy
      obtain ⟨j, _, rfl⟩ := List.mem_map.mp hy
      exact (a3 a ha x.1 (by simp)).more _
theorem LvsAt.inc {es : List Ent} {Lf Df : Nat → Nat} {k : Nat} {fs : List WH} (h : LvsAt es Lf Df k fs) : (fs.map Prod.fst).Pairwise Inc := h.run.inc (by simp)
theorem LvsAt.short {es : List Ent} {Lf Df Nf : Nat → Nat} {k : Nat} {fs : List WH} (h : LvsAt es Lf Df k fs) (T : Tree es Lf Df Nf) (hk : k < es.length) : fs.length ≤ 101 ∧ 1 ≤ fs.length ∧ ∀ x ∈ fs, x.1.length ≤ 15 := by
  have f := T.few k _ (List.getElem?_eq_getElem hk)
  have p := T.pos k k (Nat.le_refl _) hk
  have := h.len
  exact ⟨by omega, by omega, fun x hx => Nat.le_trans (h.high x hx) f.2⟩
end Fs
/-! The leaves of a fault, as the ledger tells them. -/
namespace Fs
open PySem L2 TL
abbrev sLvp : Stmt := inClass cLed 14
abbrev nLvp : List Str := ["self", "k", "found", "waiting", "way", "number", "members", "place"]
theorem scLvp : FnScope nLvp ["self", "k"] (defScope sLvp) := ⟨rfl, rfl, rfl, by decide +kernel, rfl, by decide +kernel, by decide +kernel⟩
def spLvp (C : Addr) : Sp := fun vs H Q _ => ∃ (p : Addr) (A : LA) (ms ns : List Addr) (es : List Ent) (k : Nat) (Lf Df Nf : Nat → Nat), vs = [.ref p, .int (k : Int)] ∧ LedAt C H p A ms ns es ∧ Tree es Lf Df Nf ∧ k < es.length ∧ (∀ e ∈ es, e.mem.length ≤ 101) ∧
  ∀ (H' : Hp) (F : Addr) (ts : List Addr) (fs : List WH), Keep [] H H' → H F = none → H' F = some (.lst (ts.map V.ref)) → WaysAt H' ts fs → LvsAt es Lf Df k fs → Q (.ref F) H'
section
variable {P : Program} {w : World} {K : PySem.W.Frag} {mg : Str → Option Value} {base : Heap} {C fA fCF fCT fCM : Addr}
theorem ok_lvp {f : Addr} {fd fdF : FuncData} (F : Fun K "leaves" "Ledger.leaves" sLvp f fd) (T : LTxt K mg C fA fCF fCT fCM) (FF : FnOk P w K mg base CX0 2 fCF fdF ["self", "k"] (spChkF C)) (bF : Binds K fdF ["self", "k"] []) (mR : mg "range" = none) (mV : mg "reversed" = none) : FnOk P w K mg base CX0 3 f fd ["self", "k"] (spLvp C) := by
  refine F.ok scLvp (fun vs H Q E h => ?_) (fun cdv A0 outer s H vs Q Es hr h => ?_)
  · obtain ⟨p, A, ms, ns, es, k, Lf, Df, Nf, rfl, _⟩ := h
    rfl
  · obtain ⟨p, A, ms, ns, es, k, Lf, Df, Nf, rfl, hL, T', hk, h6, kk⟩ := h
    refine ⟨_, pss_cons (ps_expr (pe_meth (pv 0) T.cl T.mF FF hr bF .nil pass0 (pa_cons (pv 1) pa_nil)))
      (pss_cons (ps_set (i := 2) scLvp.nd rfl (Or.inl rfl) (pe_lst pa_nil))
      (pss_cons (ps_set (i := 3) scLvp.nd rfl (Or.inl rfl) (pe_lst (pa_cons (pe_tup (pa_cons (pe_tup pa_nil) (pa_cons (pv 1) pa_nil))) pa_nil)))
      (pss_cons (ps_while PassesOwn.never (pt_truth (pv 3) (fun _ => rfl))
        (pss_cons (ps_asg (pe_bm0 PySem.F.plainAttrs_list PySem.F.slot_list_pop PySem.F.type_list_pop mt_pop (pv 3)) (pg_tup rfl (pgs_cons (pg_name (i := 4) scLvp.nd rfl (Or.inl rfl)) (pgs_cons (pg_name (i := 5) scLvp.nd rfl (Or.inl rfl)) pgs_nil))))
        (pss_cons (ps_set (i := 6) scLvp.nd rfl (Or.inl rfl) (pe_ix ix_list (pe_fld (pv 0) rfl) (pv 5) (fun _ _ => rfl)))
        (pss_cons (ps_if (pt_not (pt_truth (pv 6) (fun _ => rfl))) (pss_one (ps_expr (pe_bm PySem.F.plainAttrs_list PySem.F.slot_list_append PySem.F.type_list_append mt_append (pv 2) (pa_cons (pe_tup (pa_cons (pv 4) (pa_cons (pv 5) pa_nil))) pa_nil)))) pss_nil)
        (pss_one (ps_for PassesOwn.never rfl (pi_revR rfl mV (prg_1 rfl mR (pe_callB call_len_seq (by rfl) T.len PySem.boot_len (pa_cons (pv 6) pa_nil)))) (pg_name (i := 7) scLvp.nd rfl (Or.inl rfl))
          (pss_one (ps_expr (pe_bm PySem.F.plainAttrs_list PySem.F.slot_list_append PySem.F.type_list_append mt_append (pv 3) (pa_cons (pe_tup (pa_cons (pe_op op_catA (pv 4) (pe_tup (pa_cons (pv 7) pa_nil))) (pa_cons (pe_ix ix_tup (pv 6) (pv 7) (fun _ _ => rfl)) pa_nil))) pa_nil))))))))))
      (pss_one (ps_ret (pv 2)))))), ?_⟩
    refine ⟨_, rfl, p, A.dx, _, rfl, hL.ins, flno A, _, rfl, p, A, ms, ns, es, k, rfl, hL, hk, ?_⟩
    refine ⟨Nat.zero_le _, fun F hF => ?_⟩
    refine ⟨Nat.zero_le _, fun a0 ha0 => ?_⟩
    refine ⟨_, rfl, (by show 2 ≤ sizeLine; decide), fun t0 ht0 => ?_⟩
    refine ⟨(by show 1 ≤ sizeLine; decide), fun W hW => ?_⟩
    have k0 : Keep [] H (upd (upd (upd (upd H F (.lst [])) a0 (.tup [])) t0 (.tup [.ref a0, .int (k : Int)])) W (.lst [.ref t0])) := (((Keep.new hF).newTo ha0).newTo ht0).newTo hW
    have eF0 : (upd (upd (upd (upd H F (.lst [])) a0 (.tup [])) t0 (.tup [.ref a0, .int (k : Int)])) W (.lst [.ref t0])) F = some (.lst []) := (((Keep.new ha0 (ex := [])).newTo ht0).newTo hW).at upd_same nin0
    have ea0 : (upd (upd (upd (upd H F (.lst [])) a0 (.tup [])) t0 (.tup [.ref a0, .int (k : Int)])) W (.lst [.ref t0])) a0 = some (.tup []) := ((Keep.new ht0 (ex := [])).newTo hW).at upd_same nin0
    have et0 : (upd (upd (upd (upd H F (.lst [])) a0 (.tup [])) t0 (.tup [.ref a0, .int (k : Int)])) W (.lst [.ref t0])) t0 = some (.tup [.ref a0, .int (k : Int)]) := (Keep.new hW (ex := [])).at upd_same nin0
    have eW0 : (upd (upd (upd (upd H F (.lst [])) a0 (.tup [])) t0 (.tup [.ref a0, .int (k : Int)])) W (.lst [.ref t0])) W = some (.lst [.ref t0]) := upd_same
    have hW0 : H W = none := Keep.free (((Keep.new hF (ex := [])).newTo ha0).newTo ht0) hW nin0
    have nFW : F ≠ W := ne_of_none (((Keep.new ha0 (ex := [])).newTo ht0).at (show upd H F (.lst []) F = some (.lst []) from upd_same) nin0) hW
    generalize (upd (upd (upd (upd H F (.lst [])) a0 (.tup [])) t0 (.tup [.ref a0, .int (k : Int)])) W (.lst [.ref t0])) = G0 at k0 eF0 ea0 et0 eW0 ⊢
    have dk := (T'.few k _ (List.getElem?_eq_getElem hk)).2
    have own : ∀ {G : Hp} {o : HO}, Keep [] H G → Keep [] H (upd G W o) := fun k => k.freshTo hW0
    have tups : ∀ {G : Hp} {xs : List V} {o : HO} {ts : List Addr} {zs : List WH}, G W = some (.lst xs) → WaysAt G ts zs → WaysAt (upd G W o) ts zs := fun eW h => h.map fun a ys q => by rw [upd_ne (ne_of q eW (fun z => by cases z))]; exact q
    have tupsF : ∀ {G : Hp} {xs : List V} {o : HO} {ts : List Addr} {zs : List WH}, G F = some (.lst xs) → WaysAt G ts zs → WaysAt (upd G F o) ts zs := fun eF h => h.map fun a ys q => by rw [upd_ne (ne_of q eF (fun z => by cases z))]; exact q
    have tupsN : ∀ {G G' : Hp} {ts : List Addr} {zs : List WH}, Keep [] G G' → WaysAt G ts zs → WaysAt G' ts zs := fun k h => h.map fun a ys q => k.at q nin0
    let Inv : Nat → L2.St → Hp → Prop := fun m σ G => ∃ (fs st : List WH) (tsF tsW : List Addr) (v4 v5 v6 v7 : Option V), σ = [some (.ref p), some (.int (k : Int)), some (.ref F), some (.ref W), v4, v5, v6, v7] ∧ Keep [] H G ∧ G F = some (.lst (tsF.map V.ref)) ∧ G W = some (.lst (tsW.map V.ref)) ∧ WaysAt G tsF fs ∧ WaysAt G tsW st ∧
      (∀ x ∈ st, x.2 < es.length) ∧ (∀ x ∈ fs, x.2 < es.length) ∧ fs.length + tot Lf st = Lf k ∧ (∀ b, (∀ x ∈ fs, x.1.length ≤ b) → (∀ x ∈ st, x.1.length + Df x.2 ≤ b) → Df k ≤ b) ∧ (∀ x ∈ fs, x.1.length ≤ Df k) ∧ (∀ x ∈ st, x.1.length + Df x.2 ≤ Df k) ∧ tot Nf st ≤ 1616 ∧ m = tot Nf st ∧ ∀ r, Run es fs st r → Run es [] [([], k)] r
    refine ⟨Inv, ⟨_, [], [([], k)], [], [t0], none, none, none, none, rfl, k0, eF0, eW0, True.intro, ⟨⟨a0, et0, ea0⟩, True.intro⟩, fun x hx => ?_, (fun x hx => absurd hx List.not_mem_nil), ?_, fun b _ hb => ?_, (fun x hx => absurd hx List.not_mem_nil), fun x hx => ?_, ?_, rfl, fun r h => h⟩, ?_⟩
    · rw [List.mem_singleton.mp hx]; exact hk
    · simp [tot]
    · have := hb _ List.mem_cons_self
      simpa using this
    · rw [List.mem_singleton.mp hx]; simp
    · have := T'.nodes hk
      simpa [tot] using this
    rintro m σ G ⟨fs, st, tsF, tsW, v4, v5, v6, v7, rfl, kG, eF, eW, wF, wW, hin, hfin, hsum, hdeep, hf12, hs12, hn, rfl, hrun⟩
    have lW := wW.len
    refine ⟨_, rfl, !(tsW.map V.ref).isEmpty, .inl ⟨_, SqL.of eW, rfl⟩, ?_⟩
    have eW1 := eW
    have eF1 := eF
    have wF1 := wF
    have wW1 := wW
    have kG1 := kG
    rcases List.eq_nil_or_concat st with hst | ⟨l0, x, hst⟩
    · subst hst
      have en : tsW = [] := by
        cases tsW with
        | nil => rfl
        | cons y ys => simp at lW
      rw [en]
      refine iteF ?_
      exact ⟨_, rfl, kk G F tsF fs kG1 hF eF1 wF1 ⟨by simpa [tot] using hsum, (fun b hb => hdeep b hb fun x hx => absurd hx List.not_mem_nil), hf12, hrun _ .done, hfin⟩⟩
    · rw [List.concat_eq_append] at hst
      subst hst
      have ene : (tsW.map V.ref).isEmpty = false := by
        cases tsW with
        | nil => simp at lW
        | cons y ys => rfl
      rw [ene]
      refine iteT ⟨fun σ' H' => ∃ m', m' < tot Nf (l0 ++ [x]) ∧ Inv m' σ' H', fun σ' H' h => h, ?_⟩
      obtain ⟨t, ts', rfl, ⟨a, et, ea⟩, wl⟩ := WaysAt.unsnoc wW1
      have hx := hin x (List.mem_append_right _ List.mem_cons_self)
      have hx12 := hs12 x (List.mem_append_right _ List.mem_cons_self)
      -- pop
      have get : ((ts' ++ [t]).map V.ref)[((ts' ++ [t]).map V.ref).length - 1]? = some (V.ref t) := by
        rw [List.map_append, List.length_append, List.getElem?_append_right (by simp)]
        simp
      refine ⟨_, rfl, .inl ⟨rfl, _, SqL.of eW1⟩, W, _, V.ref t, rfl, rfl, eW1, get, ?_⟩
      have edr : ((ts' ++ [t]).map V.ref).dropLast = ts'.map V.ref := by rw [List.map_append]; simp
      rw [edr]
      have kG2 : Keep [] H (upd G W (.lst (ts'.map V.ref))) := own kG1
      have et2 : (upd G W (.lst (ts'.map V.ref))) t = some (.tup [.ref a, .int (x.2 : Int)]) := by rw [upd_ne (ne_of et eW1 (fun z => by cases z))]; exact et
      have ea2 : (upd G W (.lst (ts'.map V.ref))) a = some (.tup (memV x.1)) := by rw [upd_ne (ne_of ea eW1 (fun z => by cases z))]; exact ea
      have eF2 : (upd G W (.lst (ts'.map V.ref))) F = some (.lst (tsF.map V.ref)) := by rw [upd_ne nFW]; exact eF1
      have eW2 : (upd G W (.lst (ts'.map V.ref))) W = some (.lst (ts'.map V.ref)) := upd_same
      have wF2 := tups (o := .lst (ts'.map V.ref)) eW1 wF1
      have wl2 := tups (o := .lst (ts'.map V.ref)) eW1 wl
      generalize (upd G W (.lst (ts'.map V.ref))) = G2 at kG2 et2 ea2 eF2 eW2 wF2 wl2 ⊢
      refine ⟨t, _, rfl, SqT.of et2, rfl, _, _, rfl, _, _, rfl, rfl, ?_⟩
      -- members
      have he := List.getElem?_eq_getElem hx
      generalize es[x.2] = e at he
      have LG := hL.keep kG2 (fun b z => absurd z nin0) (fun b z => absurd z nin0)
      obtain ⟨mm, hq, g50⟩ := hL.mems.at he
      have g5 := kG2.at g50 nin0
      refine ⟨_, rfl, p, C, A.dx, _, _, rfl, LG.ins, T.cl, T.n3, fl3 A, _, rfl, A.l3, _, _, V.ref mm, rfl, rfl, SqL.of LG.h3, atI_nat (by rw [List.getElem?_map, hq]; rfl), ?_⟩
      refine ⟨_, rfl, !(memV e.mem).isEmpty, .inr (.inl ⟨_, SqT.of g5, rfl⟩), ?_⟩
      have kG3 := kG2
      have g53 := g5
      have ea3 := ea2
      have eF3 := eF2
      have eW3 := eW2
      have wF3 := wF2
      have wl3 := wl2
      have hl6 := h6 e (List.mem_of_getElem? he)
      rw [tot_snoc] at hsum hn ⊢
      have lF : tsF.length ≤ 110 := by
        have h1 := wF.len
        have h2 := (T'.few k _ (List.getElem?_eq_getElem hk)).1
        omega
      by_cases hm : e.mem = []
      · obtain ⟨q1, q2, q3⟩ := T'.leaf x.2 e he hm
        rw [show (memV e.mem).isEmpty = true by rw [hm]; rfl]
        refine iteT ?_
        refine ⟨_, rfl, .inl ⟨rfl, _, SqL.of eF3⟩, _, rfl, _, rfl, (by show 2 ≤ sizeLine; decide), fun t4 ht4 => ?_⟩
        have k4 : Keep [] G2 (upd G2 t4 (.tup [.ref a, .int (x.2 : Int)])) := Keep.new ht4
        have et4 : (upd G2 t4 (.tup [.ref a, .int (x.2 : Int)])) t4 = some (.tup [.ref a, .int (x.2 : Int)]) := upd_same
        generalize (upd G2 t4 (.tup [.ref a, .int (x.2 : Int)])) = G4 at k4 et4 ⊢
        have eF4 := k4.at eF3 nin0
        refine ⟨F, _, _, rfl, rfl, eF4, Nat.lt_of_le_of_lt (by rw [List.length_map]; omega : (tsF.map V.ref).length ≤ 1000) (by decide), ?_⟩
        have k5 : Keep [] H (upd G4 F (.lst (tsF.map V.ref ++ [.ref t4]))) := (kG3.trans k4).freshTo hF
        have eF5 : (upd G4 F (.lst (tsF.map V.ref ++ [.ref t4]))) F = some (.lst ((tsF ++ [t4]).map V.ref)) := by rw [upd_same, List.map_append]; rfl
        have eW5 : (upd G4 F (.lst (tsF.map V.ref ++ [.ref t4]))) W = some (.lst (ts'.map V.ref)) := by rw [upd_ne nFW.symm]; exact k4.at eW3 nin0
        have wF5 : WaysAt (upd G4 F (.lst (tsF.map V.ref ++ [.ref t4]))) (tsF ++ [t4]) (fs ++ [x]) := tupsF eF4 (WaysAt.snoc ⟨a, et4, k4.at ea3 nin0⟩ (tupsN k4 wF3))
        have wl5 : WaysAt (upd G4 F (.lst (tsF.map V.ref ++ [.ref t4]))) ts' l0 := tupsF eF4 (tupsN k4 wl3)
        generalize (upd G4 F (.lst (tsF.map V.ref ++ [.ref t4]))) = G5 at k5 eF5 eW5 wF5 wl5 ⊢
        refine ⟨_, rfl, mm, _, rfl, .inr (SqT.of (k5.at g50 nin0)), _, rfl, by omega, by omega, by rw [List.length_map]; omega, by rw [List.length_map]; omega, ?_⟩
        have nn0 : (((memV e.mem).length : Int) - 0).toNat = e.mem.length := by rw [List.length_map]; omega
        rw [nn0]
        refine for_rangeC (lo := 0 + ((e.mem.length : Nat) : Int) - 1) (c := -1) (n := e.mem.length) (fun _ σ G => σ = [some (.ref p), some (.int (k : Int)), some (.ref F), some (.ref W), some (.ref a), some (.int (x.2 : Int)), some (.ref mm), v7] ∧ G = G5) ⟨rfl, rfl⟩ (fun i σ G hi _ => by rw [hm] at hi; exact absurd hi (Nat.not_lt_zero _)) ?_
        rintro σ G ⟨rfl, rfl⟩
        refine ⟨_, ?_, fs ++ [x], l0, tsF ++ [t4], ts', _, _, _, _, rfl, k5, eF5, eW5, wF5, wl5, fun y hy => hin y (List.mem_append_left _ hy), (fun y hy => by
          rcases List.mem_append.mp hy with z | z
          · exact hfin y z
          · rw [List.mem_singleton.mp z]; exact hx), ?_, fun b h1 h2 => ?_, fun y hy => ?_, fun y hy => hs12 y (List.mem_append_left _ hy), by omega, rfl, fun r hr => hrun r (.leaf rfl he hm hr)⟩
        · rw [q2]; omega
        · rw [List.length_append]; show fs.length + 1 + tot Lf l0 = Lf k; omega
        · refine hdeep b (fun y hy => h1 y (List.mem_append_left _ hy)) fun y hy => ?_
          rcases List.mem_append.mp hy with z | z
          · exact h2 y z
          · rw [List.mem_singleton.mp z, q3]
            exact h1 x (List.mem_append_right _ List.mem_cons_self)
        · rcases List.mem_append.mp hy with z | z
          · exact hf12 y z
          · rw [List.mem_singleton.mp z]; omega
      · obtain ⟨q1, q2, q3, m0, hm0, q4⟩ := T'.nest x.2 e he hm
        have bk := T'.back x.2 e he
        rw [show (memV e.mem).isEmpty = false by cases h : e.mem with | nil => exact absurd h hm | cons y ys => rfl]
        refine iteF ?_
        refine ⟨_, rfl, mm, _, rfl, .inr (SqT.of g53), _, rfl, by omega, by omega, by rw [List.length_map]; omega, by rw [List.length_map]; omega, ?_⟩
        have nn0 : (((memV e.mem).length : Int) - 0).toNat = e.mem.length := by rw [List.length_map]; omega
        rw [nn0]
        let Pv : Nat → L2.St → Hp → Prop := fun i σ G => ∃ (kids : List WH) (tsK : List Addr) (v7 : Option V), σ = [some (.ref p), some (.int (k : Int)), some (.ref F), some (.ref W), some (.ref a), some (.int (x.2 : Int)), some (.ref mm), v7] ∧ Keep [] H G ∧ G F = some (.lst (tsF.map V.ref)) ∧ WaysAt G tsF fs ∧ G a = some (.tup (memV x.1)) ∧
          G W = some (.lst ((ts' ++ tsK).map V.ref)) ∧ WaysAt G (ts' ++ tsK) (l0 ++ kids) ∧ kids.length = i ∧ (∀ f, tot f kids = ((e.mem.drop (e.mem.length - i)).map f).sum) ∧ (∀ y ∈ kids, y.2 ∈ e.mem ∧ y.1.length = x.1.length + 1) ∧ (∀ z ∈ e.mem.drop (e.mem.length - i), ∃ y ∈ kids, y.2 = z) ∧ kids = kidsN x.1 e.mem i
        have nW : (l0.length : Nat) ≤ 1616 := by
          have h1 := tot_len (f := Nf) (xs := l0) fun y hy => T'.node1 (hin y (List.mem_append_left _ hy))
          omega
        have lts : ts'.length = l0.length := wl.len
        refine for_rangeC (lo := 0 + ((e.mem.length : Nat) : Int) - 1) (c := -1) (n := e.mem.length) Pv ⟨[], [], _, rfl, kG3, eF3, wF3, ea3, by rw [List.append_nil]; exact eW3, by rw [List.append_nil, List.append_nil]; exact wl3, rfl, fun f => by simp [tot], (fun y hy => absurd hy List.not_mem_nil), (fun z hz => by simp at hz), rfl⟩ ?_ ?_
        · rintro i σ G hi ⟨kids, tsK, w7, rfl, kG', eF', wF', ea', eW', wl', hkl, htot, hkid, hall, hks0⟩
          have pl : 0 + ((e.mem.length : Nat) : Int) - 1 + (i : Int) * -1 = ((e.mem.length - 1 - i : Nat) : Int) := by omega
          rw [pl]
          have hp : e.mem.length - 1 - i < e.mem.length := by omega
          have hd : e.mem.drop (e.mem.length - (i + 1)) = e.mem[e.mem.length - 1 - i] :: e.mem.drop (e.mem.length - i) := by
            rw [show e.mem.length - (i + 1) = e.mem.length - 1 - i by omega, List.drop_eq_getElem_cons hp, show e.mem.length - 1 - i + 1 = e.mem.length - i by omega]
          have hz := List.getElem?_eq_getElem hp
          have hzm := List.getElem_mem hp
          have hks : kidsN x.1 e.mem (i + 1) = kidsN x.1 e.mem i ++ [(x.1 ++ [e.mem.length - 1 - i], e.mem[e.mem.length - 1 - i])] := kidsN_succ hp
          generalize e.mem[e.mem.length - 1 - i] = z at hd hz hzm hks
          generalize e.mem.length - 1 - i = pl at hz hks ⊢
          have fin : ∀ (wy t : Addr) (G' : Hp), Keep [] G G' → G' wy = some (.tup (memV (x.1 ++ [pl]))) → G' t = some (.tup [.ref wy, .int (z : Int)]) → Pv (i + 1) [some (.ref p), some (.int (k : Int)), some (.ref F), some (.ref W), some (.ref a), some (.int (x.2 : Int)), some (.ref mm), some (.int (pl : Int))] (upd G' W (.lst ((ts' ++ tsK).map V.ref ++ [.ref t]))) := fun wy t G' k' ew et' => by
            have eWg := k'.at eW' nin0
            refine ⟨kids ++ [(x.1 ++ [pl], z)], tsK ++ [t], _, rfl, own (kG'.trans k'), by rw [upd_ne nFW]; exact k'.at eF' nin0, tups eWg (tupsN k' wF'), by rw [upd_ne (ne_of (k'.at ea' nin0) eWg (fun z => by cases z))]; exact k'.at ea' nin0, by rw [upd_same, ← List.append_assoc, List.map_append (l₁ := ts' ++ tsK)]; rfl, ?_, by rw [List.length_append, hkl]; rfl, fun f => ?_, fun y hy => ?_, fun y hy => ?_, by rw [hks0, hks]⟩
            · rw [← List.append_assoc, ← List.append_assoc]
              exact tups eWg (WaysAt.snoc ⟨wy, et', ew⟩ (tupsN k' wl'))
            · rw [tot_snoc, htot f, hd, List.map_cons, List.sum_cons]
              exact Nat.add_comm _ _
            · rcases List.mem_append.mp hy with q | q
              · exact hkid y q
              · rw [List.mem_singleton.mp q]
                exact ⟨hzm, by rw [List.length_append]; rfl⟩
            · rw [hd] at hy
              rcases List.mem_cons.mp hy with q | q
              · exact ⟨_, List.mem_append_right _ List.mem_cons_self, q.symm⟩
              · obtain ⟨y', h1, h2⟩ := hall y q
                exact ⟨y', List.mem_append_left _ h1, h2⟩
          have bW : ((ts' ++ tsK).map V.ref).length < sizeLine := by
            have h1 := wl'.len
            rw [List.length_append, List.length_append] at h1
            rw [List.length_map, List.length_append]
            exact Nat.lt_of_le_of_lt (by omega : ts'.length + tsK.length ≤ 2000) (by decide)
          have gm := kG'.at g50 nin0
          have ix : atI (memV e.mem) ((pl : Nat) : Int) = some (V.int (z : Int)) := atI_nat (by rw [List.getElem?_map, hz]; rfl)
          refine ⟨_, rfl, .inl ⟨rfl, _, SqL.of eW'⟩, _, rfl, _, rfl, (by show 1 ≤ sizeLine; decide), fun b1 hb1 => ?_⟩
          have kb : Keep [] G (upd G b1 (.tup [.int (pl : Int)])) := Keep.new hb1
          have eb : (upd G b1 (.tup [.int (pl : Int)])) b1 = some (.tup [.int (pl : Int)]) := upd_same
          generalize (upd G b1 (.tup [.int (pl : Int)])) = Gb at kb eb ⊢
          refine ⟨a, b1, _, _, rfl, rfl, SqT.of (kb.at ea' nin0), SqT.of eb, ?_, fun hx0 => ?_, (fun _ h => by cases h), fun hx0 _ p hp' => ?_⟩
          · rw [List.length_map]
            exact Nat.le_trans (by show x.1.length + 1 ≤ 1000; omega) (by decide)
          · have hx1 : x.1 = [] := by
              cases h : x.1 with
              | nil => rfl
              | cons y ys => rw [h] at hx0; cases hx0
            refine ⟨_, rfl, _, rfl, mm, _, _, V.int (z : Int), rfl, rfl, SqT.of (kb.at gm nin0), ix, (by show 2 ≤ sizeLine; decide), fun t ht => ?_⟩
            refine ⟨W, _, _, rfl, rfl, (kb.newTo ht).at eW' nin0, bW, ?_⟩
            exact fin b1 t _ (kb.newTo ht) (by rw [hx1]; exact (Keep.new ht (ex := [])).at eb nin0) upd_same
          · refine ⟨_, rfl, _, rfl, mm, _, _, V.int (z : Int), rfl, rfl, SqT.of ((kb.newTo hp').at gm nin0), ix, (by show 2 ≤ sizeLine; decide), fun t ht => ?_⟩
            refine ⟨W, _, _, rfl, rfl, ((kb.newTo hp').newTo ht).at eW' nin0, bW, ?_⟩
            refine fin p t _ ((kb.newTo hp').newTo ht) ?_ upd_same
            refine (Keep.new ht (ex := [])).at ?_ nin0
            rw [upd_same]
            show _ = some (HO.tup ((x.1 ++ [pl]).map fun k : Nat => V.int (k : Int)))
            rw [List.map_append]
            rfl
        · rintro σ G ⟨kids, tsK, w7, rfl, kG', eF', wF', ea', eW', wl', hkl, htot, hkid, hall, hks0⟩
          rw [Nat.sub_self, List.drop_zero] at htot hall
          have tl : ∀ f, tot f (l0 ++ kids) = tot f l0 + (e.mem.map f).sum := fun f => by
            rw [← htot f]
            unfold tot
            rw [List.map_append, List.sum_append]
          refine ⟨_, ?_, fs, l0 ++ kids, tsF, ts' ++ tsK, _, _, _, _, rfl, kG', eF', eW', wF', wl', fun y hy => ?_, hfin, ?_, fun b h1 h2 => ?_, hf12, fun y hy => ?_, ?_, rfl, fun r hr => hrun r (.nest rfl he hm (by rw [← hks0]; exact hr))⟩
          · rw [tl, q2]; omega
          · rcases List.mem_append.mp hy with q | q
            · exact hin y (List.mem_append_left _ q)
            · have := bk y.2 (hkid y q).1
              omega
          · rw [tl, ← q1]; omega
          · refine hdeep b h1 fun y hy => ?_
            rcases List.mem_append.mp hy with q | q
            · exact h2 y (List.mem_append_left _ q)
            · obtain ⟨y', h3, h4⟩ := hall m0 hm0
              have h5 := h2 y' (List.mem_append_right _ h3)
              rw [List.mem_singleton.mp q, q4]
              rw [h4, (hkid y' h3).2] at h5
              omega
          · rcases List.mem_append.mp hy with q | q
            · exact hs12 y (List.mem_append_left _ q)
            · obtain ⟨h3, h4⟩ := hkid y q
              have := q3 y.2 h3
              omega
          · rw [tl]; omega
end
end Fs
/-! The leaves by levels. -/
namespace Fs
open PySem L2 TL
/-- the ways to the leaves, and whereto they lead -/
def lvF (es : List Ent) : Nat → Nat → List WH
  | 0, _ => []
  | n + 1, k => match es[k]? with
    | none => []
    | some e => if e.mem = [] then [([], k)] else (List.range e.mem.length).flatMap fun i => (lvF es n (e.mem.getD i 0)).map fun x => (i :: x.1, x.2)
def lvW (es : List Ent) (k : Nat) : List WH := lvF es (k + 1) k
def Back (es : List Ent) : Prop := ∀ (i : Nat) (e : Ent), es[i]? = some e → ∀ m ∈ e.mem, m < i
theorem getD_mem {l : List Nat} {i : Nat} (h : i < l.length) : l.getD i 0 ∈ l := by
  rw [List.getD_eq_getElem?_getD, List.getElem?_eq_getElem h]
  exact List.getElem_mem h
theorem flatMap_same {α β : Type} {l : List α} {f g : α → List β} (h : ∀ x ∈ l, f x = g x) : l.flatMap f = l.flatMap g := by
  induction l with
  | nil => rfl
  | cons x r ih =>
    rw [List.flatMap_cons, List.flatMap_cons, h x List.mem_cons_self, ih fun y hy => h y (List.mem_cons_of_mem _ hy)]
theorem lvF_two {es es' : List Ent} (B : Back es) : ∀ (n m k : Nat), k < n → k < m → (∀ i, i ≤ k → (es[i]?).map Ent.mem = (es'[i]?).map Ent.mem) → lvF es n k = lvF es' m k := by
  intro n
  induction n with
  | zero => intro m k h; omega
  | succ n ih =>
    intro m k hn hm hs
    cases m with
    | zero => omega
    | succ m =>
      have hk := hs k (Nat.le_refl _)
      unfold lvF
      cases q : es[k]? with
      | none =>
        rw [q] at hk
        cases q' : es'[k]? with
        | none => rfl
        | some e => rw [q'] at hk; cases hk
      | some e =>
        rw [q] at hk
        cases q' : es'[k]? with
        | none => rw [q'] at hk; cases hk
        | some e' =>
          rw [q'] at hk
          have hk : e.mem = e'.mem := Option.some.inj hk
          show (if e.mem = [] then _ else _) = (if e'.mem = [] then _ else _)
          rw [← hk]
          by_cases z : e.mem = []
          · rw [if_pos z, if_pos z]
          · rw [if_neg z, if_neg z]
            refine flatMap_same fun i hi => ?_
            have hi := List.mem_range.mp hi
            have hb := B k e q _ (getD_mem hi)
            rw [ih m _ (by omega) (by omega) fun j hj => hs j (by omega)]
theorem lvF_eq {es : List Ent} (B : Back es) {n k : Nat} (h : k < n) : lvF es n k = lvW es k := lvF_two B n (k + 1) k h (Nat.lt_succ_self _) fun _ _ => rfl
/-- of the first ones -/
theorem lvW_two {es es' : List Ent} (B : Back es) {k : Nat} (h : ∀ i, i ≤ k → (es[i]?).map Ent.mem = (es'[i]?).map Ent.mem) : lvW es k = lvW es' k := lvF_two B _ _ _ (Nat.lt_succ_self _) (Nat.lt_succ_self _) h
theorem lvW_app {es xs : List Ent} (B : Back es) {k : Nat} (h : k < es.length) : lvW (es ++ xs) k = lvW es k := (lvW_two B fun i hi => by rw [List.getElem?_append_left (by omega)]).symm
theorem lvW_leaf {es : List Ent} {k : Nat} {e : Ent} (he : es[k]? = some e) (h : e.mem = []) : lvW es k = [([], k)] := by
  unfold lvW lvF
  rw [he]
  show (if e.mem = [] then _ else _) = _
  rw [if_pos h]
theorem lvW_nest {es : List Ent} (B : Back es) {k : Nat} {e : Ent} (he : es[k]? = some e) (h : e.mem ≠ []) : lvW es k = (List.range e.mem.length).flatMap fun i => (lvW es (e.mem.getD i 0)).map fun x => (i :: x.1, x.2) := by
  rw [show lvW es k = lvF es (k + 1) k from rfl]
  unfold lvF
  rw [he]
  show (if e.mem = [] then _ else _) = _
  rw [if_neg h]
  refine flatMap_same fun i hi => ?_
  have hb := B k e he _ (getD_mem (List.mem_range.mp hi))
  rw [lvF_eq B hb]
theorem Tree.back' {es : List Ent} {Lf Df Nf : Nat → Nat} (T : Tree es Lf Df Nf) : Back es := T.back
theorem Run.ways {es : List Ent} (B : Back es) {f st r : List WH} (h : Run es f st r) : r = f ++ st.reverse.flatMap fun x => (lvW es x.2).map fun y => (x.1 ++ y.1, y.2) := by
  induction h with
  | done => simp
  | @leaf f st l r x e h1 h2 h3 h4 ih =>
    rw [ih, h1, List.reverse_append, List.reverse_singleton, List.singleton_append, List.flatMap_cons, lvW_leaf h2 h3, List.append_assoc]
    simp
  | @nest f st l r x e h1 h2 h3 h4 ih =>
    rw [ih, h1, List.reverse_append, List.reverse_append, List.reverse_singleton, List.singleton_append, List.flatMap_cons, List.flatMap_append, ← kids_rev, List.reverse_reverse, lvW_nest B h2 h3, List.map_flatMap]
    unfold kidsUp
    rw [List.flatMap_map]
    refine congrArg (f ++ ·) (congrArg (· ++ _) (flatMap_same fun i hi => ?_))
    rw [List.map_map]
    refine List.map_congr_left fun y _ => ?_
    simp
theorem LvsAt.ways {es : List Ent} {Lf Df Nf : Nat → Nat} {k : Nat} {fs : List WH} (h : LvsAt es Lf Df k fs) (T : Tree es Lf Df Nf) : fs = lvW es k := by
  have := h.run.ways T.back
  rw [this]
  simp
/-- each once -/
theorem lvW_inc {es : List Ent} (B : Back es) : ∀ (n k : Nat), k < n → ((lvW es k).map Prod.fst).Pairwise Inc := by
  intro n
  induction n with
  | zero => intro k h; omega
  | succ n ih =>
    intro k hk
    cases q : es[k]? with
    | none =>
      have : lvW es k = [] := by unfold lvW lvF; rw [q]
      rw [this]; exact List.Pairwise.nil
    | some e =>
      by_cases z : e.mem = []
      · rw [lvW_leaf q z]; simp
      · rw [lvW_nest B q z, List.map_flatMap]
        rw [List.pairwise_flatMap]
        refine ⟨fun i hi => ?_, ?_⟩
        · have hb := B k e q _ (getD_mem (List.mem_range.mp hi))
          have g := ih (e.mem.getD i 0) (by omega)
          rw [List.map_map]
          rw [List.pairwise_map] at g ⊢
          refine g.imp fun {a b} h => ?_
          obtain ⟨p, x, y, r, s, h1, h2, h3⟩ := h
          exact ⟨i :: p, x, y, r, s, by show i :: a.1 = _; rw [h1]; rfl, by show i :: b.1 = _; rw [h2]; rfl, h3⟩
        · refine List.Pairwise.imp_of_mem (R := fun a b => a < b) (fun {i j} hi hj hij => ?_) List.pairwise_lt_range
          intro a ha b hb
          rw [List.map_map] at ha hb
          obtain ⟨y, _, rfl⟩ := List.mem_map.mp ha
          obtain ⟨z, _, rfl⟩ := List.mem_map.mp hb
          exact ⟨[], i, j, y.1, z.1, rfl, rfl, by omega⟩
theorem Inc.ne {a b : List Nat} (h : Inc a b) : a ≠ b := by
  obtain ⟨p, x, y, r, s, rfl, rfl, h3⟩ := h
  intro z
  have := List.append_cancel_left z
  exact h3 (List.cons.inj this).1
theorem lvW_nd {es : List Ent} (B : Back es) (k : Nat) : ((lvW es k).map Prod.fst).Nodup := (lvW_inc B (k + 1) k (Nat.lt_succ_self _)).imp fun h => h.ne
theorem lvW_len {es : List Ent} {Lf Df Nf : Nat → Nat} (T : Tree es Lf Df Nf) : ∀ (n k : Nat), k < n → k < es.length → (lvW es k).length = Lf k := by
  intro n
  induction n with
  | zero => intro k h; omega
  | succ n ih =>
    intro k hk hl
    have q := List.getElem?_eq_getElem hl
    generalize es[k] = e at q
    by_cases z : e.mem = []
    · rw [lvW_leaf q z, (T.leaf k e q z).1]; rfl
    · rw [lvW_nest T.back q z, (T.nest k e q z).1, List.length_flatMap]
      refine congrArg List.sum ?_
      apply List.ext_getElem
      · simp
      · intro i h1 h2
        simp at h1
        have hb := T.back k e q _ (getD_mem h1)
        simp only [List.getElem_map, List.getElem_range, List.length_map]
        rw [ih _ (by omega) (by omega)]
        rw [List.getD_eq_getElem?_getD, List.getElem?_eq_getElem h1]
        rfl
theorem lvW_deep {es : List Ent} {Lf Df Nf : Nat → Nat} (T : Tree es Lf Df Nf) : ∀ (n k : Nat), k < n → ∀ x ∈ lvW es k, x.1.length ≤ Df k := by
  intro n
  induction n with
  | zero => intro k h; omega
  | succ n ih =>
    intro k hk x hx
    cases q : es[k]? with
    | none =>
      have : lvW es k = [] := by unfold lvW lvF; rw [q]
      rw [this] at hx; exact absurd hx List.not_mem_nil
    | some e =>
      by_cases z : e.mem = []
      · rw [lvW_leaf q z] at hx
        rw [List.mem_singleton.mp hx]; exact Nat.zero_le _
      · rw [lvW_nest T.back q z, List.mem_flatMap] at hx
        obtain ⟨i, hi, hx⟩ := hx
        obtain ⟨y, hy, rfl⟩ := List.mem_map.mp hx
        have hm := getD_mem (List.mem_range.mp hi)
        have hb := T.back k e q _ hm
        have := ih _ (by omega) y hy
        have := (T.nest k e q z).2.2.1 _ hm
        show y.1.length + 1 ≤ _
        omega
/-- a way to a leaf of a sheaf -/
theorem way_nest {es : List Ent} (B : Back es) {k : Nat} {e : Ent} (he : es[k]? = some e) (h : e.mem ≠ []) {w : List Nat} : w ∈ (lvW es k).map Prod.fst ↔ ∃ i w', w = i :: w' ∧ i < e.mem.length ∧ w' ∈ (lvW es (e.mem.getD i 0)).map Prod.fst := by
  rw [lvW_nest B he h, List.mem_map]
  constructor
  · rintro ⟨x, hx, rfl⟩
    rw [List.mem_flatMap] at hx
    obtain ⟨i, hi, hx⟩ := hx
    obtain ⟨y, hy, rfl⟩ := List.mem_map.mp hx
    exact ⟨i, y.1, rfl, List.mem_range.mp hi, List.mem_map_of_mem hy⟩
  · rintro ⟨i, w', rfl, hi, hw⟩
    obtain ⟨y, hy, rfl⟩ := List.mem_map.mp hw
    exact ⟨(i :: y.1, y.2), List.mem_flatMap.mpr ⟨i, List.mem_range.mpr hi, List.mem_map.mpr ⟨y, hy, rfl⟩⟩, rfl⟩
end Fs
/-! A part of a fault, and what is right of it. -/
namespace Fs
open PySem L2 TL
/-- the ways behind this place -/
def behindW (i : Nat) : List Nat → Option (List Nat)
  | j :: w => if j = i then some w else none
  | [] => none
theorem behindW_some {i : Nat} {w v : List Nat} : behindW i v = some w ↔ v = i :: w := by
  cases v with
  | nil => exact ⟨fun h => (nomatch h), fun h => (nomatch h)⟩
  | cons j u =>
    show (if j = i then some u else none) = some w ↔ _
    by_cases h : j = i
    · rw [if_pos h, h]
      constructor
      · intro q; rw [Option.some.inj q]
      · intro q; rw [(List.cons.inj q).2]
    · rw [if_neg h]
      constructor
      · intro q; cases q
      · intro q; exact absurd (List.cons.inj q).1 h
def strip (i : Nat) (ws : List (List Nat)) : List (List Nat) := ws.filterMap (behindW i)
theorem mem_strip {i : Nat} {w : List Nat} {ws : List (List Nat)} : w ∈ strip i ws ↔ i :: w ∈ ws := by
  unfold strip
  rw [List.mem_filterMap]
  constructor
  · rintro ⟨v, h1, h2⟩
    rw [behindW_some.mp h2] at h1; exact h1
  · intro h
    exact ⟨_, h, behindW_some.mpr rfl⟩
theorem strip_nd {i : Nat} {ws : List (List Nat)} (h : ws.Nodup) : (strip i ws).Nodup := by
  unfold strip
  refine List.Pairwise.filterMap _ (fun a b hab x hx y hy => ?_) h
  rw [behindW_some] at hx hy
  intro z
  exact hab (by rw [hx, hy, z])
theorem strip_app (i : Nat) (a b : List (List Nat)) : strip i (a ++ b) = strip i a ++ strip i b := List.filterMap_append
theorem strip_one (i : Nat) (w : List Nat) : strip i [i :: w] = [w] := by
  unfold strip
  rw [List.filterMap_cons_some (behindW_some.mpr rfl), List.filterMap_nil]
theorem strip_none {i j : Nat} (h : j ≠ i) (w : List Nat) : strip i [j :: w] = [] := by
  unfold strip
  rw [List.filterMap_cons_none (by show (if j = i then some w else none) = none; rw [if_neg h]), List.filterMap_nil]
/-- the places at which the members have some -/
def plcs (es : List Ent) (c : List Nat → Bool) (e : Ent) : List Nat := (List.range e.mem.length).filter fun i => ((lvW es (e.mem.getD i 0)).map Prod.fst).any fun w => c (i :: w)
def likeE (e e' : Ent) : Prop := e'.kind = sS ∧ e'.text = e.text ∧ e'.notes = e.notes ∧ e'.cause = e.cause ∧ e'.atw = e.atw
/-- r is the part of k at the leaves of which c tells -/
def PR (es fs : List Ent) (many : Nat) : Nat → (List Nat → Bool) → Nat → Option Nat → Prop
  | 0, _, _, _ => False
  | n + 1, c, k, r => ∃ e, es[k]? = some e ∧
      ((((∀ w ∈ (lvW es k).map Prod.fst, c w = false) ∧ r = none) ∨ ((∀ w ∈ (lvW es k).map Prod.fst, c w = true) ∧ r = some k)) ∨
        ((∃ w ∈ (lvW es k).map Prod.fst, c w = true) ∧ (∃ w ∈ (lvW es k).map Prod.fst, c w = false) ∧ ∃ (f : Nat) (e' : Ent), r = some f ∧ many ≤ f ∧ fs[f]? = some e' ∧ likeE e e' ∧
          e'.mem.length = (plcs es c e).length ∧ ∀ (t i m : Nat), (plcs es c e)[t]? = some i → e'.mem[t]? = some m → PR es fs many n (fun w => c (i :: w)) (e.mem.getD i 0) (some m)))
theorem PR.up {es fs fs' : List Ent} {many many' : Nat} (hm : many' ≤ many) (hf : ∀ f e, many ≤ f → fs[f]? = some e → fs'[f]? = some e) : ∀ {n : Nat} {c : List Nat → Bool} {k : Nat} {r : Option Nat}, PR es fs many n c k r → PR es fs' many' n c k r
  | 0, _, _, _, h => h.elim
  | n + 1, c, k, r, h => by
    obtain ⟨e, he, h⟩ := h
    refine ⟨e, he, ?_⟩
    rcases h with h | ⟨h1, h2, f, e', h3, h4, h5, h6, h7, h8⟩
    · exact .inl h
    · exact .inr ⟨h1, h2, f, e', h3, Nat.le_trans hm h4, hf f e' h4 h5, h6, h7, fun t i m ht hi => PR.up hm hf (h8 t i m ht hi)⟩
theorem plcs_two {es es' : List Ent} {c c' : List Nat → Bool} {e e' : Ent} (hm : e.mem = e'.mem) (hl : ∀ m ∈ e.mem, lvW es m = lvW es' m) (hc : ∀ i, i < e.mem.length → ∀ w ∈ (lvW es (e.mem.getD i 0)).map Prod.fst, c (i :: w) = c' (i :: w)) : plcs es c e = plcs es' c' e' := by
  unfold plcs
  rw [← hm]
  refine List.filter_congr fun i hi => ?_
  have hi := List.mem_range.mp hi
  rw [← hl _ (getD_mem hi)]
  rw [Bool.eq_iff_iff, List.any_eq_true, List.any_eq_true]
  constructor
  · rintro ⟨w, h1, h2⟩
    exact ⟨w, h1, by rw [← hc i hi w h1]; exact h2⟩
  · rintro ⟨w, h1, h2⟩
    exact ⟨w, h1, by rw [hc i hi w h1]; exact h2⟩
/-- by the first ones alone; by what it tells of the leaves alone -/
theorem PR.two {es es' fs : List Ent} {many : Nat} (B : Back es) {top : Nat} (hs : ∀ i, i ≤ top → es[i]? = es'[i]?) : ∀ {n : Nat} {c c' : List Nat → Bool} {k : Nat} {r : Option Nat}, k ≤ top → (∀ w ∈ (lvW es k).map Prod.fst, c w = c' w) → PR es fs many n c k r → PR es' fs many n c' k r
  | 0, _, _, _, _, _, _, h => h.elim
  | n + 1, c, c', k, r, hk, hc, h => by
    have lw : ∀ j, j ≤ top → lvW es j = lvW es' j := fun j hj => lvW_two B fun i hi => by rw [hs i (by omega)]
    obtain ⟨e, he, h⟩ := h
    refine ⟨e, by rw [← hs k hk]; exact he, ?_⟩
    rw [← lw k hk]
    have hb := B k e he
    rcases h with (⟨h, hr⟩ | ⟨h, hr⟩) | ⟨⟨w1, g1, g2⟩, ⟨w2, g3, g4⟩, f, e', h3, h4, h5, h6, h7, h8⟩
    · exact .inl (.inl ⟨fun w hw => by rw [← hc w hw]; exact h w hw, hr⟩)
    · exact .inl (.inr ⟨fun w hw => by rw [← hc w hw]; exact h w hw, hr⟩)
    · have hne : e.mem ≠ [] := fun z => by
        rw [lvW_leaf he z] at g1 g3
        have e1 : w1 = [] := by simpa using g1
        have e2 : w2 = [] := by simpa using g3
        rw [e1] at g2; rw [e2] at g4
        rw [g2] at g4; cases g4
      have hcc : ∀ i, i < e.mem.length → ∀ w ∈ (lvW es (e.mem.getD i 0)).map Prod.fst, c (i :: w) = c' (i :: w) := fun i hi w hw => hc _ ((way_nest B he hne).mpr ⟨i, w, rfl, hi, hw⟩)
      have hp : plcs es c e = plcs es' c' e := plcs_two rfl (fun m hm => lw m (by have := hb m hm; omega)) hcc
      refine .inr ⟨⟨w1, g1, by rw [← hc w1 g1]; exact g2⟩, ⟨w2, g3, by rw [← hc w2 g3]; exact g4⟩, f, e', h3, h4, h5, h6, by rw [← hp]; exact h7, fun t i m ht hi => ?_⟩
      rw [← hp] at ht
      have hi' : i < e.mem.length := by
        have := List.mem_of_getElem? ht
        unfold plcs at this
        exact List.mem_range.mp (List.mem_filter.mp this).1
      have := hb _ (getD_mem hi')
      exact PR.two B hs (by omega) (hcc i hi') (h8 t i m ht hi)
end Fs
/-! Of ways that are some of a fault's. -/
namespace Fs
open PySem L2 TL
theorem nd_all {L ws : List (List Nat)} (hw : ws.Nodup) (hs : ∀ w ∈ ws, w ∈ L) (hl : L.length ≤ ws.length) : ∀ w ∈ L, w ∈ ws := fun w hL => by
  by_cases h : w ∈ ws
  · exact h
  · have := fewer (l := w :: ws) (ts := L) (List.nodup_cons.mpr ⟨h, hw⟩) fun x hx => by
      rcases List.mem_cons.mp hx with z | z
      · rw [z]; exact hL
      · exact hs x z
    rw [List.length_cons] at this
    omega
theorem nd_out {L ws : List (List Nat)} (hL : L.Nodup) (hl : ws.length < L.length) : ∃ w ∈ L, w ∉ ws := by
  by_cases h : ∃ w ∈ L, w ∉ ws
  · exact h
  · have := fewer (l := L) (ts := ws) hL fun x hx => by
      by_cases q : x ∈ ws
      · exact q
      · exact absurd ⟨x, hx, q⟩ h
    omega
theorem sorted_ext : ∀ {a b : List Nat}, a.Pairwise (· < ·) → b.Pairwise (· < ·) → (∀ x, x ∈ a ↔ x ∈ b) → a = b
  | [], [], _, _, _ => rfl
  | [], y :: b, _, _, h => absurd ((h y).mpr List.mem_cons_self) List.not_mem_nil
  | x :: a, [], _, _, h => absurd ((h x).mp List.mem_cons_self) List.not_mem_nil
  | x :: a, y :: b, ha, hb, h => by
    obtain ⟨a1, a2⟩ := List.pairwise_cons.mp ha
    obtain ⟨b1, b2⟩ := List.pairwise_cons.mp hb
    have e : x = y := by
      rcases List.mem_cons.mp ((h x).mp List.mem_cons_self) with z | z
      · exact z
      · rcases List.mem_cons.mp ((h y).mpr List.mem_cons_self) with q | q
        · exact q.symm
        · have := b1 x z; have := a1 y q; omega
    subst e
    rw [sorted_ext a2 b2 fun z => ?_]
    constructor
    · intro hz
      rcases List.mem_cons.mp ((h z).mp (List.mem_cons_of_mem _ hz)) with q | q
      · have := a1 z hz; omega
      · exact q
    · intro hz
      rcases List.mem_cons.mp ((h z).mpr (List.mem_cons_of_mem _ hz)) with q | q
      · have := b1 z hz; omega
      · exact q
theorem plcs_lt (es : List Ent) (c : List Nat → Bool) (e : Ent) : (plcs es c e).Pairwise (· < ·) := List.Pairwise.filter _ List.pairwise_lt_range
theorem plcs_in {es : List Ent} {c : List Nat → Bool} {e : Ent} {i : Nat} : i ∈ plcs es c e ↔ i < e.mem.length ∧ ∃ w ∈ (lvW es (e.mem.getD i 0)).map Prod.fst, c (i :: w) = true := by
  unfold plcs
  rw [List.mem_filter, List.mem_range, List.any_eq_true]
abbrev inB (ws : List (List Nat)) : List Nat → Bool := fun w => decide (w ∈ ws)
theorem plcs_ways {es : List Ent} (B : Back es) {k : Nat} {e : Ent} (he : es[k]? = some e) (hne : e.mem ≠ []) {ws : List (List Nat)} (hs : ∀ w ∈ ws, w ∈ (lvW es k).map Prod.fst) {i : Nat} : i ∈ plcs es (inB ws) e ↔ ∃ w, i :: w ∈ ws := by
  rw [plcs_in]
  constructor
  · rintro ⟨_, w, _, h⟩
    exact ⟨w, of_decide_eq_true h⟩
  · rintro ⟨w, h⟩
    obtain ⟨j, w', e1, h2, h3⟩ := (way_nest B he hne).mp (hs _ h)
    obtain ⟨rfl, rfl⟩ := List.cons.inj e1
    exact ⟨h2, w, h3, decide_eq_true h⟩
theorem strip_sub {es : List Ent} (B : Back es) {k : Nat} {e : Ent} (he : es[k]? = some e) (hne : e.mem ≠ []) {ws : List (List Nat)} (hs : ∀ w ∈ ws, w ∈ (lvW es k).map Prod.fst) (i : Nat) : ∀ w ∈ strip i ws, i < e.mem.length ∧ w ∈ (lvW es (e.mem.getD i 0)).map Prod.fst := fun w hw => by
  obtain ⟨j, w', e1, h2, h3⟩ := (way_nest B he hne).mp (hs _ (mem_strip.mp hw))
  obtain ⟨rfl, rfl⟩ := List.cons.inj e1
  exact ⟨h2, h3⟩
theorem sum_bump (f : Nat → Nat) (h : Nat) : ∀ {P : List Nat}, P.Nodup → h ∈ P → (P.map fun i => f i + if h = i then 1 else 0).sum = (P.map f).sum + 1
  | [], _, q => absurd q List.not_mem_nil
  | i :: P, nd, q => by
    obtain ⟨n1, n2⟩ := List.nodup_cons.mp nd
    simp only [List.map_cons, List.sum_cons]
    by_cases z : h = i
    · subst z
      have e : (P.map fun i => f i + if h = i then 1 else 0) = P.map f := List.map_congr_left fun j hj => by
        rw [if_neg fun z => n1 (by rw [z]; exact hj)]; rfl
      rw [e, if_pos rfl]
      omega
    · have := sum_bump f h n2 (List.mem_of_ne_of_mem z q)
      rw [this, if_neg z]
      omega
theorem strip_len (i j : Nat) (w : List Nat) (ws : List (List Nat)) : (strip i ((j :: w) :: ws)).length = (strip i ws).length + if j = i then 1 else 0 := by
  have e : strip i ((j :: w) :: ws) = strip i [j :: w] ++ strip i ws := strip_app i [j :: w] ws
  rw [e, List.length_append]
  by_cases h : j = i
  · subst h
    rw [strip_one, if_pos rfl]
    show 1 + _ = _
    omega
  · rw [strip_none h, if_neg h]
    show 0 + _ = _
    omega
theorem sum_strip {P : List Nat} (nd : P.Nodup) : ∀ {ws : List (List Nat)}, (∀ w ∈ ws, ∃ i v, w = i :: v ∧ i ∈ P) → (P.map fun i => (strip i ws).length).sum = ws.length
  | [], _ => by
    have : (P.map fun i => (strip i []).length) = P.map fun _ => 0 := rfl
    rw [this]
    clear this nd
    induction P with
    | nil => rfl
    | cons x r ih => rw [List.map_cons, List.sum_cons, ih fun w h => absurd h List.not_mem_nil]; rfl
  | w :: ws, h => by
    obtain ⟨i, v, rfl, hi⟩ := h _ List.mem_cons_self
    have ih := sum_strip nd (ws := ws) fun x hx => h x (List.mem_cons_of_mem _ hx)
    rw [show (fun j => (strip j ((i :: v) :: ws)).length) = fun j => (strip j ws).length + if i = j then 1 else 0 from funext fun j => strip_len j i v ws, sum_bump _ _ nd hi, ih]
    rfl
theorem list_top {f : Nat → Nat} : ∀ {l : List Nat}, l ≠ [] → ∃ m ∈ l, ∀ x ∈ l, f x ≤ f m
  | [], h => absurd rfl h
  | [a], _ => ⟨a, List.mem_singleton.mpr rfl, fun x hx => by rw [List.mem_singleton.mp hx]; exact Nat.le_refl _⟩
  | a :: b :: r, _ => by
    obtain ⟨m, h1, h2⟩ := list_top (f := f) (l := b :: r) (fun z => nomatch z)
    by_cases h : f m ≤ f a
    · refine ⟨a, List.mem_cons_self, fun x hx => ?_⟩
      rcases List.mem_cons.mp hx with z | z
      · rw [z]; exact Nat.le_refl _
      · exact Nat.le_trans (h2 x z) h
    · refine ⟨m, List.mem_cons_of_mem _ h1, fun x hx => ?_⟩
      rcases List.mem_cons.mp hx with z | z
      · rw [z]; omega
      · exact h2 x z
end Fs
/-! sorted(d) of a dict whose keys are whole numbers, any number of them. -/
namespace Fs
open PySem PySem.Spec PyProof.Rows L2
section
variable {X : Cx}
theorem call_sortedDA (hcalm : X.calm = true) : CallR X (.builtin "sorted") (fun xs H Q => ∃ (a : Addr) (kvs : List (Key × V)) (ks : List Int), xs = [.ref a] ∧ Rd H a (.dK kvs) ∧ kvs.map (·.1) = ks.map Sum.inl ∧ ks.length ≤ 100000 ∧
    ∀ (ys : List Int) (p : Addr), ys.Perm ks → ys.Pairwise (· ≤ ·) → H p = none → Q (.ref p) (upd H p (.lst (ys.map V.int)))) := by
  intro pins s σ H xs us Q I r q
  obtain ⟨a, kvs, ks, ex, hd, hks, h64, q⟩ := q
  subst ex
  obtain ⟨u, eu, rx⟩ := vals1 r
  subst eu
  cases rx
  obtain ⟨z, lo, vs, rel, dd⟩ := dk_rd I.hok hd
  obtain ⟨ep, hat⟩ := dd.dictAt
  have hkeys : vs.map (·.1) = ks.map Sum.inl := rel.keys.symm.trans hks
  have hl : vs.length = ks.length := by
    have e := congrArg List.length hkeys
    rw [List.length_map, List.length_map] at e
    exact e
  have h16 : vs.length ≤ sizeLine := by rw [hl, sizeLine_eq]; omega
  refine Calls.call_function_entry PyProof.Rows.kind_sorted PyProof.Rows.plain_sorted PyProof.Rows.entry_sorted (PyProof.Rows.args_sorted1 _) ?_
  unfold Builtin.«sorted»
  refine wpAny_bind (m := checkCount "sorted" 1 1 _) (wpAny_pure ?_)
  refine wpAny_bind (PySem.W.kdu_collect (A := X.A.in1) (PySem.W.kdl_dict (knd := mixKind X.prog X.w) (kvs := vs) (ep := ep) lo) (I.ok.hd hcalm) hat h16 fun h' tk acc hk hacc => ?_)
  have hal : acc.toList.length = ks.length := by rw [Array.length_toList, hacc.1, hl]
  have hS : IntsAre acc.toList ks := ints_each hal fun j v e => by
    obtain ⟨k, x, e1, e2⟩ := hacc.2 j v (by rw [← Array.getElem?_toList]; exact e)
    have e3 : (vs.map (·.1))[j]? = some k := by rw [List.getElem?_map, e1]; rfl
    rw [hkeys, List.getElem?_map] at e3
    cases e4 : ks[j]? with
    | none => rw [e4] at e3; cases e3
    | some y =>
      rw [e4] at e3
      have e5 : Sum.inl y = k := Option.some.inj e3
      subst e5
      rcases keyIs_shape (show keyIs (Sum.inl y) v = true from e2) with ⟨i, t, ek, ev⟩ | ⟨z, t, ek, ev⟩
      · cases ek
        exact ⟨y, t, rfl, ev⟩
      · cases ek
  have I1 : Inv X pins σ H { s with heap := h', toks := tk } := I.kept hk
  refine wpAny_bind (wpAny_newList ?_ (by rw [hal, sizeLine_eq]; omega))
  have hoL : (h'.push (seqObj "list" acc.toList.toArray 0)).get? h'.objs.size = some (seqObj "list" acc.toList.toArray 0) := Heap.get?_push_size _ rfl
  show wpAny _ _ _ _ _ { s with heap := h'.push (seqObj "list" acc.toList.toArray 0), toks := tk }
  refine wpAny_bind (wpAny_holding (wpAny_call_entry PyProof.Rows.slot_list_sort ⟨_, hoL, rfl⟩ PyProof.Rows.entry_list_sort
    (SrtO.list_sort_ord (s := { s with heap := h'.push (seqObj "list" acc.toList.toArray 0), toks := tk }) SrtO.swo_int hoL (by rw [hal, sizeLine_eq]; omega) (fun h2 => SrtO.ints_sortable hS h2) fun out h1 h2 => ⟨_, rfl, ?_⟩) (PyProof.Rows.args_list_sort _)))
  obtain ⟨k1, k2, k3⟩ := SrtO.ints_out hS h1 h2
  obtain ⟨e', he'⟩ := PyProof.Rows.sortedHeap_at (vs := acc.toList) (out := out.toArray) hoL
  have hlen : ((out.map SrtO.iv).map V.int).length ≤ sizeLine := by
    rw [List.length_map, k2.length_eq, sizeLine_eq]
    omega
  refine wpAny_pure ⟨_, rfl, .ref h'.objs.size, upd H h'.objs.size (.lst ((out.map SrtO.iv).map V.int)), I1.laid (t' := tk) (fun b u e => ?_) (Nat.le_refl _)
    (show ObjOk X.prog X.w _ _ _ (.lst ((out.map SrtO.iv).map V.int)) from ⟨hlen, out, e', vals_of_ints k1, he'⟩), rfl, q _ _ k2 k3 (I1.hok.fresh (Nat.le_refl _))⟩
  have hb : b < h'.objs.size := Heap.lt_size e
  rw [PyProof.Rows.sortedHeap_old (Nat.ne_of_lt hb) (by rw [size_push']; exact Nat.lt_succ_of_lt hb)]
  exact Heap.get?_push_of_some _ e
end
end Fs
/-! A ledger that has more faults than the law's model: rows at work of the first ones. -/
namespace Fs
open PySem L2 TL
theorem Cut.app {k : Nat} {es : List Ent} {o : Option Nat} {a : List Ent} (xs : List Ent) (h : Cut k es o a) : Cut k (es ++ xs) o (a ++ xs) := by
  induction h with
  | nil => exact .nil
  | @hit hh e h1 h2 =>
    have hl := (List.getElem?_eq_some_iff.mp h1).1
    have := Cut.hit (k := k) (es := es ++ xs) (h := hh) (e := e) (by rw [List.getElem?_append_left hl]; exact h1) h2
    rw [List.set_append_left _ _ hl] at this
    exact this
  | step h1 h2 h3 ih =>
    have hl := (List.getElem?_eq_some_iff.mp h1).1
    exact .step (by rw [List.getElem?_append_left hl]; exact h1) h2 ih
theorem Risen.app {k : Nat} {es : List Ent} {o : Option Nat} {a : List Ent} (xs : List Ent) (h : Risen es k o a) : Risen (es ++ xs) k o (a ++ xs) := by
  cases h with
  | non => exact .non
  | own => exact .own
  | @new j e es2 n c q =>
    have hl := (List.getElem?_eq_some_iff.mp q).1
    have := Risen.new n (c.app xs) (e := e) (by rw [List.getElem?_append_left hl]; exact q)
    rw [List.set_append_left _ _ hl] at this
    exact this
end Fs
/-! A deed, where the ledger has more faults. -/
namespace Fs
open PySem L2 TL
structure StB (C CK : Addr) (ps : List (Str × Str)) (cap : Nat) (p : Addr) (H : Hp) (D : LDA) (es xs : List Ent) : Prop where
  led : LedAt C H D.q D.A D.ms D.ns (es ++ xs)
  kin : KindsAt CK H D.A.kd ps
  ent : H D.E = some (.lst (D.rs.map V.ref))
  rows : RowsAt (p :: D.E :: (D.A.ls ++ D.ns)) H D.rs es
  rnd : D.rs.Nodup
  nE : D.E ∉ D.A.ls ++ D.ns
  np : p ∉ D.E :: (D.A.ls ++ D.ns)
  tree : ∃ Lf Df Nf, Tree es Lf Df Nf
  sm : ∀ e ∈ es, SmC ps es.length cap e
  row : Row es
  rowX : Row (es ++ xs)
theorem StB.keepP {C CK : Addr} {ps : List (Str × Str)} {cap : Nat} {p : Addr} {H H' : Hp} {D : LDA} {es xs : List Ent} (S : StB C CK ps cap p H D es xs) (hp : ∃ xs, H p = some (.lst xs)) (k : Keep [p] H H') : StB C CK ps cap p H' D es xs := by
  have lp : ∀ b ∈ [p], ∃ xs, H b = some (.lst xs) := fun b hb => by rw [List.mem_singleton.mp hb]; exact hp
  refine ⟨S.led.keep k (fun b hb z => ?_) lp, kin_lists S.kin k lp, k.at S.ent (nin1 fun z => S.np (by rw [← z]; exact List.mem_cons_self)), S.rows.keep (k.more fun b hb => by rw [List.mem_singleton.mp hb]; exact List.mem_cons_self), S.rnd, S.nE, S.np, S.tree, S.sm, S.row, S.rowX⟩
  rw [List.mem_singleton.mp hb] at z
  exact S.np (List.mem_cons_of_mem _ z)
theorem StB.keep0 {C CK : Addr} {ps : List (Str × Str)} {cap : Nat} {p : Addr} {H H' : Hp} {D : LDA} {es xs : List Ent} (S : StB C CK ps cap p H D es xs) (k : Keep [] H H') : StB C CK ps cap p H' D es xs :=
  ⟨S.led.keep k (fun b z => absurd z nin0) (fun b z => absurd z nin0), kin_lists S.kin k (fun b z => absurd z nin0), k.at S.ent nin0, S.rows.keep (k.more fun b z => absurd z nin0), S.rnd, S.nE, S.np, S.tree, S.sm, S.row, S.rowX⟩
theorem StB.out {C CK : Addr} {ps : List (Str × Str)} {cap : Nat} {p : Addr} {H : Hp} {D : LDA} {es xs : List Ent} (S : StB C CK ps cap p H D es xs) {r : Addr} (hr : r ∈ D.rs) : r ∉ p :: D.E :: (D.A.ls ++ D.ns) := by
  obtain ⟨i, hi⟩ := List.mem_iff_getElem?.mp hr
  have hil : i < es.length := by rw [← S.rows.len]; exact (List.getElem?_eq_some_iff.mp hi).1
  obtain ⟨r', q1, _, _, b1, _⟩ := S.rows.at (List.getElem?_eq_getElem hil)
  rw [hi] at q1
  rw [Option.some.inj q1]; exact b1
theorem StB.cap {C CK : Addr} {ps : List (Str × Str)} {cap cap' : Nat} {p : Addr} {H : Hp} {D : LDA} {es xs : List Ent} (S : StB C CK ps cap p H D es xs) (h : cap ≤ cap') : StB C CK ps cap' p H D es xs :=
  ⟨S.led, S.kin, S.ent, S.rows, S.rnd, S.nE, S.np, S.tree, fun e he => ⟨(S.sm e he).1, Nat.le_trans (S.sm e he).2.1 h, (S.sm e he).2.2⟩, S.row, S.rowX⟩
def spDeB (C CK : Addr) : Sp := fun vs H Q _ => ∃ (ps : List (Str × Str)) (cap : Nat) (p X : Addr) (D : LDA) (es xs : List Ent) (tx : List Str) (n k : Nat), vs = [.ref p, .ref D.q, .ref D.E, .ref X, .int (k : Int)] ∧ PotAt H p n ∧ n < 2 ^ 30 ∧ StB C CK ps cap p H D es xs ∧ TxsOk tx ∧ H X = some (.lst (tx.map V.str)) ∧ X ≠ p ∧ k < es.length ∧ es.length ≤ 10000 ∧ cap ≤ 29 ∧
  ∀ (H' : Hp) (es' : List Ent), StB C CK ps (cap + 1) p H' D es' xs → es'.length = es.length → es'.map Ent.mem = es.map Ent.mem → Keep (p :: D.zs) H H' → PotAt H' p (n + 3) → Q .non H'
section
variable {P : Program} {w : World} {K : PySem.W.Frag} {mg : Str → Option Value} {base : Heap} {C CK fDg fRi fBl fNo fRs : Addr}
theorem ok_deB {dD dR dB dN dS fd : FuncData} {f : Addr} (F : Fun K "_law_deed" "_law_deed" sDeA f fd) (T : DATx K mg C fDg fRi fBl fNo fRs) (FD : FnOk P w K mg base CX0 1 fDg dD ["_law_pot_here", "_law_many"] spDigit) (bD : Binds K dD ["_law_pot_here", "_law_many"] [])
    (FR : FnOk P w K mg base CX0 1 fRi dR ["_law_faults_here", "_law_k", "_law_j"] spRiL) (bR : Binds K dR ["_law_faults_here", "_law_k", "_law_j"] []) (FB : FnOk P w K mg base CX0 4 fBl dB ["self", "k", "j"] (spBlame C)) (bB : Binds K dB ["self", "k", "j"] [])
    (FN : FnOk P w K mg base CX0 3 fNo dN ["self", "k", "text"] (spNote C)) (bN : Binds K dN ["self", "k", "text"] []) (FS : FnOk P w K mg base CX0 4 fRs dS ["self", "k", "j"] (spRise C)) (bS : Binds K dS ["self", "k", "j"] []) :
    FnOk P w K mg base CX0 5 f fd ["_law_pot_here", "_law_ledger_here", "_law_faults_here", "_law_texts_here", "_law_k"] (spDeB C CK) := by
  refine F.ok scDeA (fun vs H Q E h => ?_) (fun cdv A0 outer s H vs Q Es hr h => ?_)
  · obtain ⟨ps, cap, p, X, D, es, xs, tx, n, k, rfl, _⟩ := h
    rfl
  · obtain ⟨ps, cap, p, X, D, es, xs, tx, n, k, rfl, pot, hn, S, htx, hX, nXp, hk, h400, hcap, kk⟩ := h
    have hr1 : Room 1 _ := hr.mono (by decide)
    have hr3 : Room 3 _ := hr.mono (by decide)
    refine ⟨_, pss_cons (ps_set (i := 5) scDeA.nd rfl (Or.inl rfl) (pe_call FD hr1 rfl T.gD T.kD bD .nil pass0 (pa_cons (pv 0) (pa_cons pe_int pa_nil))))
      (pss_cons (ps_set (i := 6) scDeA.nd rfl (Or.inl rfl) (pe_call FD hr1 rfl T.gD T.kD bD .nil pass0 (pa_cons (pv 0) (pa_cons (pe_callB call_len_seq (by rfl) T.len PySem.boot_len (pa_cons (pv 2) pa_nil)) pa_nil))))
      (pss_cons (ps_set (i := 7) scDeA.nd rfl (Or.inl rfl) (pe_ix ix_list (pv 3) (pe_call FD hr1 rfl T.gD T.kD bD .nil pass0 (pa_cons (pv 0) (pa_cons pe_int pa_nil))) (fun _ _ => rfl)))
      (pss_one (ps_if (pt_cmpR op_lt (pv 5) pe_int (nomark _))
        (pss_cons (ps_expr (pe_meth (pv 1) T.cl T.mN FN hr3 bN .nil pass0 (pa_cons (pv 4) (pa_cons (pv 7) pa_nil))))
        (pss_one (ps_asg (pe_op op_cat (pe_ix ix_list (pe_ix ix_list (pv 2) (pv 4) (fun _ _ => rfl)) pe_int (fun _ _ => rfl)) (pe_lst (pa_cons (pv 7) pa_nil))) (pg_sub (pe_ix ix_list (pv 2) (pv 4) (fun _ _ => rfl)) pe_int set_list))))
        (pss_one (ps_if (pt_cmpR op_eq (pv 5) pe_int (nomark _))
          (pss_cons (ps_expr (pe_meth (pv 1) T.cl T.mB FB hr bB .nil pass0 (pa_cons (pv 4) (pa_cons (pv 6) pa_nil))))
          (pss_one (ps_asg (pv 6) (pg_sub (pe_ix ix_list (pv 2) (pv 4) (fun _ _ => rfl)) pe_int set_list))))
          (pss_one (ps_if (pt_cmpR op_eq (pv 5) pe_int (nomark _))
            (pss_cons (ps_expr (pe_meth (pv 1) T.cl T.mR FS hr bS .nil pass0 (pa_cons (pv 4) (pa_cons (pv 6) pa_nil))))
            (pss_one (ps_expr (pe_call FR hr1 rfl T.gR T.kR bR .nil pass0 (pa_cons (pv 2) (pa_cons (pv 4) (pa_cons (pv 6) pa_nil)))))))
            (pss_cons (ps_expr (pe_meth (pv 1) T.cl T.mB FB hr bB .nil pass0 (pa_cons (pv 4) (pa_cons pe_non pa_nil))))
            (pss_one (ps_asg pe_non (pg_sub (pe_ix ix_list (pv 2) (pv 4) (fun _ _ => rfl)) pe_int set_list)))))))))))), ?_⟩
    have lr : D.rs.length = es.length := S.rows.len
    refine ⟨_, rfl, p, n, 6, rfl, pot, by omega, by decide, by decide, fun wy H1 w0 w1 hk1 pot1 => ?_⟩
    have S1 := S.keepP pot.some (keep_of_dig hk1)
    refine ⟨_, rfl, _, rfl, D.E, _, rfl, .inl (SqL.of S1.ent), p, n + 1, _, rfl, pot1, by omega, by rw [List.length_map, lr]; omega, by rw [List.length_map, lr]; omega, fun j H2 d0 d1 hk2 pot2 => ?_⟩
    rw [List.length_map, lr] at d1
    obtain ⟨j, rfl⟩ : ∃ m : Nat, j = (m : Int) := ⟨j.toNat, by omega⟩
    have hj : j < es.length := by omega
    have S2 := S1.keepP pot1.some (keep_of_dig hk2)
    have k2 : Keep [p] H H2 := (keep_of_dig hk1).trans (keep_of_dig hk2)
    refine ⟨_, rfl, _, rfl, p, n + 1 + 1, 4, rfl, pot2, by omega, by decide, by decide, fun d G t0 t1 hk3 potG => ?_⟩
    have SG := S2.keepP pot2.some (keep_of_dig hk3)
    have kG : Keep [p] H G := k2.trans (keep_of_dig hk3)
    obtain ⟨t, ht, _, att⟩ := txs_at htx t0 (Int.lt_trans t1 (by decide))
    refine ⟨X, _, d, .str t, rfl, rfl, SqL.of (kG.at hX (nin1 nXp)), att, ?_⟩
    clear hk1 hk2 hk3 S1 S2 pot1 pot2
    have he := List.getElem?_eq_getElem hk
    generalize es[k] = e at he
    have hem := List.mem_of_getElem? he
    have heX : (es ++ xs)[k]? = some e := by rw [List.getElem?_append_left hk]; exact he
    obtain ⟨⟨s1, s2, s3, s4, s5, s6, s7, s8⟩, sc, sk⟩ := S.sm e hem
    have same : ∀ {e' : Ent}, SmC ps es.length (cap + 1) e' → ∀ f ∈ es.set k e', SmC ps (es.set k e').length (cap + 1) f := fun {e'} h f hf => by
      rw [List.length_set]
      rcases List.mem_or_eq_of_mem_set hf with z | z
      · exact ⟨(S.sm f z).1, Nat.le_succ_of_le (S.sm f z).2.1, (S.sm f z).2.2⟩
      · rw [z]; exact h
    have sA : ∀ b, b ∈ D.A.ls → b ∈ p :: D.zs := fun b hb => List.mem_cons_of_mem _ (List.mem_append_left _ hb)
    have sN : ∀ b, b ∈ D.ns → b ∈ p :: D.zs := fun b hb => List.mem_cons_of_mem _ (List.mem_append_right _ (List.mem_append_left _ hb))
    have sR : ∀ b, b ∈ D.rs → b ∈ p :: D.zs := fun b hb => List.mem_cons_of_mem _ (List.mem_append_right _ (List.mem_append_right _ hb))
    have sp : ∀ b, b ∈ [p] → b ∈ p :: D.zs := fun b hb => by rw [List.mem_singleton.mp hb]; exact List.mem_cons_self
    have tr : ∀ {es' : List Ent}, es.map Ent.mem = es'.map Ent.mem → ∃ Lf Df Nf, Tree es' Lf Df Nf := fun q => by
      obtain ⟨Lf, Df, Nf, T0⟩ := S.tree
      exact ⟨Lf, Df, Nf, T0.congr q⟩
    have l5 : ∀ b, b ∈ [D.A.l5] → b ∈ D.A.ls := fun b hb => by rw [List.mem_singleton.mp hb]; simp [LA.ls]
    have l6 : ∀ b, b ∈ [D.A.l6] → b ∈ D.A.ls := fun b hb => by rw [List.mem_singleton.mp hb]; simp [LA.ls]
    -- a cause
    have blamed : ∀ (o : Option Nat), (∀ j, o = some j → j < es.length) → ∀ G6 : Hp, Keep [D.A.l5] G G6 → LedAt C G6 D.q D.A D.ms D.ns ((es ++ xs).set k (byE e o)) → ∃ r m nk, D.rs[k]? = some r ∧ G6 D.E = some (.lst (D.rs.map V.ref)) ∧ G6 r = some (.lst (rowL e.kind e.text m nk (optV e.cause) (optV e.atw))) ∧ Q .non (upd G6 r (.lst (rowL e.kind e.text m nk (optV o) (optV e.atw)))) := fun o ho G6 k6 led6 => by
      have rows6 := SG.rows.keep (k6.more fun b hb => List.mem_cons_of_mem _ (List.mem_cons_of_mem _ (List.mem_append_left _ (l5 b hb))))
      have ent6 := k6.at SG.ent (fun z => S.nE (List.mem_append_left _ (l5 D.E z)))
      obtain ⟨r, q1, m, nk, b1, b2, b3, g4, g5, g6⟩ := rows6.at he
      have hr' : r ∈ D.rs := List.mem_of_getElem? q1
      refine ⟨r, m, nk, q1, ent6, g4, ?_⟩
      have kr : Keep [r] G6 (upd G6 r (.lst (rowL e.kind e.text m nk (optV o) (optV e.atw)))) := Keep.own in1
      have rows7 : RowsAt (p :: D.E :: (D.A.ls ++ D.ns)) (upd G6 r (.lst (rowL e.kind e.text m nk (optV o) (optV e.atw)))) D.rs (es.set k (byE e o)) := RowsAt.set (e := e) (e' := byE e o) rfl rfl rfl b2 b3 g4 g5 g6 rows6 S.rnd q1 he
      have nEr : D.E ≠ r := fun z => b1 (by rw [← z]; exact List.mem_cons_of_mem _ List.mem_cons_self)
      have npr : p ≠ r := fun z => b1 (by rw [← z]; exact List.mem_cons_self)
      have lr6 : ∀ b ∈ [r], ∃ xs, G6 b = some (.lst xs) := fun b hb => by rw [List.mem_singleton.mp hb]; exact ⟨_, g4⟩
      rw [List.set_append_left _ _ hk] at led6
      have led7 := led6.keep kr (fun b hb => by
        rw [List.mem_singleton.mp hb]
        exact fun z => b1 (List.mem_cons_of_mem _ (List.mem_cons_of_mem _ z))) lr6
      have mp := map_put (e := e) (e' := byE e o) Ent.mem he rfl
      refine kk _ _ ⟨led7, kin_lists (kin_lists SG.kin k6 fun b hb => SG.led.isl b (l5 b hb)) kr lr6, kr.at ent6 (nin1 nEr), rows7, S.rnd, S.nE, S.np, tr mp.symm, same ⟨⟨s1, s2, s3, s4, s5, s6, ho, s8⟩, Nat.le_succ_of_le sc, sk⟩, S.row.put he rfl, by rw [← List.set_append_left _ _ hk]; exact S.rowX.put heX rfl⟩ (List.length_set ..) mp
        (((kG.more sp).trans (k6.more fun b hb => sA b (l5 b hb))).trans (kr.more fun b hb => by rw [List.mem_singleton.mp hb]; exact sR r hr')) (((potG.keep k6 (fun z => S.np (List.mem_cons_of_mem _ (List.mem_append_left _ (l5 p z))))).keep kr (nin1 npr)).le (by omega))
    refine ⟨_, rfl, _, _, rfl, rfl, _, rfl, ?_⟩
    refine ite2 (fun _ => ?_) (fun _ => ?_)
    · -- note
      have hkl : k < D.ns.length := by rw [S.led.notes.len, List.length_append]; omega
      have hnk := List.getElem?_eq_getElem hkl
      generalize D.ns[k] = l at hnk
      have hlm := List.mem_of_getElem? hnk
      refine ⟨_, rfl, D.q, D.A.dx, _, rfl, SG.led.ins, fln D.A, _, rfl, _, rfl, D.q, D.A, D.ms, D.ns, es ++ xs, k, e, l, t, rfl, SG.led, heX, hnk, by omega, fun G4 k4 led4 => ?_⟩
      rw [List.set_append_left _ _ hk] at led4
      have ll : ∀ b ∈ [l], ∃ xs, G b = some (.lst xs) := fun b hb => by rw [List.mem_singleton.mp hb]; exact SG.led.notes.is l hlm
      have rows4 := SG.rows.keep (k4.more fun b hb => by rw [List.mem_singleton.mp hb]; exact List.mem_cons_of_mem _ (List.mem_cons_of_mem _ (List.mem_append_right _ hlm)))
      have nEl : D.E ≠ l := fun z => S.nE (by rw [z]; exact List.mem_append_right _ hlm)
      have ent4 := k4.at SG.ent (nin1 nEl)
      obtain ⟨r, q1, m, nk, b1, b2, b3, g4, g5, g6⟩ := rows4.at he
      have hr' : r ∈ D.rs := List.mem_of_getElem? q1
      refine ⟨_, rfl, _, rfl, D.E, _, _, V.ref r, rfl, rfl, SqL.of ent4, atI_nat (by rw [List.getElem?_map, q1]; rfl), r, _, _, V.ref nk, rfl, rfl, SqL.of g4, rfl, ?_⟩
      refine ⟨_, rfl, (by show 1 ≤ sizeLine; decide), fun a ha => ?_⟩
      have ka : Keep [] G4 (upd G4 a (.lst [.str t])) := Keep.new ha
      have ea : (upd G4 a (.lst [.str t])) a = some (.lst ([t].map V.str)) := upd_same
      generalize (upd G4 a (.lst [.str t])) = G5 at ka ea ⊢
      refine ⟨nk, a, _, _, rfl, rfl, ka.at g6 nin0, ea, Nat.le_trans (by rw [List.length_map]; show e.notes.length + 1 ≤ 1000; omega) (by decide), fun n' hn' => ?_⟩
      rw [flat_add]
      have kn : Keep [] G5 (upd G5 n' (.lst ((e.notes ++ [t]).map V.str))) := Keep.new hn'
      have en : (upd G5 n' (.lst ((e.notes ++ [t]).map V.str))) n' = some (.lst ((e.notes ++ [t]).map V.str)) := upd_same
      generalize (upd G5 n' (.lst ((e.notes ++ [t]).map V.str))) = G6 at kn en ⊢
      have k46 := ka.trans kn
      have n4' : G4 n' = none := Keep.free ka hn' nin0
      refine ⟨_, rfl, _, rfl, D.E, _, _, V.ref r, rfl, rfl, SqL.of (k46.at ent4 nin0), atI_nat (by rw [List.getElem?_map, q1]; rfl), r, _, _, 3, rfl, rfl, k46.at g4 nin0, rfl, ?_⟩
      have bn : n' ∉ p :: D.E :: (D.A.ls ++ D.ns) := fun z => by
        rcases List.mem_cons.mp z with z | z
        · obtain ⟨x, e⟩ := (potG.keep k4 (nin1 fun z => S.np (by rw [z]; exact List.mem_cons_of_mem _ (List.mem_append_right _ hlm)))).some
          rw [z, e] at n4'; cases n4'
        · rcases List.mem_cons.mp z with z | z
          · rw [z, ent4] at n4'; cases n4'
          · rcases List.mem_append.mp z with z | z
            · obtain ⟨xs, e⟩ := led4.isl _ z
              rw [e] at n4'; cases n4'
            · obtain ⟨xs, e⟩ := led4.notes.is _ z
              rw [e] at n4'; cases n4'
      have kr : Keep [r] G6 (upd G6 r (.lst (rowL e.kind e.text m n' (optV e.cause) (optV e.atw)))) := Keep.own in1
      have rows7 : RowsAt (p :: D.E :: (D.A.ls ++ D.ns)) (upd G6 r (.lst (rowL e.kind e.text m n' (optV e.cause) (optV e.atw)))) D.rs (es.set k (noteE e (e.notes ++ [t]))) := RowsAt.set (e := e) (e' := noteE e (e.notes ++ [t])) rfl rfl rfl b2 bn (k46.at g4 nin0) (k46.at g5 nin0) en (rows4.keep (k46.more fun b z => absurd z nin0)) S.rnd q1 he
      have nEr : D.E ≠ r := fun z => b1 (by rw [← z]; exact List.mem_cons_of_mem _ List.mem_cons_self)
      have npr : p ≠ r := fun z => b1 (by rw [← z]; exact List.mem_cons_self)
      have npl : p ≠ l := fun z => S.np (by rw [z]; exact List.mem_cons_of_mem _ (List.mem_append_right _ hlm))
      have lr6 : ∀ b ∈ [r], ∃ xs, G6 b = some (.lst xs) := fun b hb => by rw [List.mem_singleton.mp hb]; exact ⟨_, k46.at g4 nin0⟩
      have led7 := (led4.keep k46 (fun b z => absurd z nin0) (fun b z => absurd z nin0)).keep kr (fun b hb => by
        rw [List.mem_singleton.mp hb]
        exact fun z => b1 (List.mem_cons_of_mem _ (List.mem_cons_of_mem _ z))) lr6
      have mp := map_put (e := e) (e' := noteE e (e.notes ++ [t])) Ent.mem he rfl
      have nl : (e.notes ++ [t]).length ≤ cap + 1 := by rw [List.length_append]; show e.notes.length + 1 ≤ cap + 1; omega
      refine kk _ _ ⟨led7, kin_lists (kin_lists (kin_lists SG.kin k4 ll) k46 (fun b z => absurd z nin0)) kr lr6, kr.at (k46.at ent4 nin0) (nin1 nEr), rows7, S.rnd, S.nE, S.np, tr mp.symm, same ⟨⟨s1, s2, s3, s4, s5, ⟨by show (e.notes ++ [t]).length ≤ 30; omega, fun y hy => ?_⟩, s7, s8⟩, nl, sk⟩, S.row.put he rfl, by rw [← List.set_append_left _ _ hk]; exact S.rowX.put heX rfl⟩ (List.length_set ..) mp
        ((((kG.more sp).trans (k4.more fun b hb => by rw [List.mem_singleton.mp hb]; exact sN l hlm)).trans (k46.more fun b z => absurd z nin0)).trans (kr.more fun b hb => by rw [List.mem_singleton.mp hb]; exact sR r hr')) (((((potG.keep k4 (nin1 npl)).keep k46 nin0)).keep kr (nin1 npr)).le (by omega))
      rcases List.mem_append.mp hy with z | z
      · exact s6.2 y z
      · rw [List.mem_singleton.mp z]; exact ht
    · refine ⟨_, rfl, rfl, _, rfl, ?_⟩
      refine ite2 (fun _ => ?_) (fun _ => ?_)
      · -- blame
        refine ⟨_, rfl, D.q, D.A.dx, _, rfl, SG.led.ins, flb D.A, _, rfl, _, rfl, D.q, D.A, D.ms, D.ns, es ++ xs, k, e, some j, rfl, SG.led, heX, (fun y h => by rw [← Option.some.inj h, List.length_append]; omega), fun G6 k6 led6 => ?_⟩
        obtain ⟨r, m, nk, q1, ent6, g4, fin⟩ := blamed (some j) (fun y h => by rw [← Option.some.inj h]; exact hj) G6 k6 led6
        exact ⟨_, rfl, _, rfl, _, rfl, D.E, _, _, V.ref r, rfl, rfl, SqL.of ent6, atI_nat (by rw [List.getElem?_map, q1]; rfl), r, _, _, 4, rfl, rfl, g4, rfl, fin⟩
      · refine ⟨_, rfl, rfl, _, rfl, ?_⟩
        refine ite2 (fun _ => ?_) (fun _ => ?_)
        · -- rise
          have ho : ∀ y, some j = some y → y < es.length := fun y h => by rw [← Option.some.inj h]; exact hj
          refine ⟨_, rfl, D.q, D.A.dx, _, rfl, SG.led.ins, flr D.A, _, rfl, _, rfl, D.q, D.A, D.ms, D.ns, es ++ xs, k, some j, rfl, SG.led, (by rw [List.length_append]; omega), (fun y h => by have := ho y h; rw [List.length_append]; omega), S.rowX, fun G6 es1 ris k6 led6 => ?_⟩
          have rows6 := SG.rows.keep (k6.more fun b hb => List.mem_cons_of_mem _ (List.mem_cons_of_mem _ (List.mem_append_left _ (l6 b hb))))
          have ent6 := k6.at SG.ent (fun z => S.nE (List.mem_append_left _ (l6 D.E z)))
          refine ⟨_, rfl, _, rfl, _, rfl, D.E, k, j, _, D.rs, es, rfl, ent6, rows6, S.rnd, hk, hj, by omega, S.row, fun G7 es2 ris2 k7 rows7 => ?_⟩
          have e21 : es2 ++ xs = es1 := (ris2.app xs).one ris
          subst e21
          have lrs : ∀ b ∈ D.rs, ∃ xs, G6 b = some (.lst xs) := fun b hb => by
            obtain ⟨i, hi⟩ := List.mem_iff_getElem?.mp hb
            have hil : i < es.length := by rw [← lr]; exact (List.getElem?_eq_some_iff.mp hi).1
            obtain ⟨r', q1, _, _, _, _, _, g4, _⟩ := rows6.at (List.getElem?_eq_getElem hil)
            rw [hi] at q1
            rw [Option.some.inj q1]; exact ⟨_, g4⟩
          have led7 := led6.keep k7 (fun b hb z => S.out hb (List.mem_cons_of_mem _ (List.mem_cons_of_mem _ z))) lrs
          have ent7 := k7.at ent6 (fun z => S.out z (List.mem_cons_of_mem _ List.mem_cons_self))
          have len2 := ris2.len
          have sm2 : ∀ e ∈ es2, SmC ps es.length (cap + 1) e := Risen.all (p := SmC ps es.length (cap + 1)) ris2 (fun e y he hy => ⟨⟨he.1.1, he.1.2.1, he.1.2.2.1, he.1.2.2.2.1, he.1.2.2.2.2.1, he.1.2.2.2.2.2.1, he.1.2.2.2.2.2.2.1, fun x hx => by rw [← Option.some.inj hx]; exact ho y hy⟩, he.2⟩)
            (fun e he => ⟨⟨he.1.1, he.1.2.1, he.1.2.2.1, he.1.2.2.2.1, he.1.2.2.2.2.1, he.1.2.2.2.2.2.1, he.1.2.2.2.2.2.2.1, fun y hy => by cases hy⟩, he.2⟩) fun f hf => ⟨(S.sm f hf).1, Nat.le_succ_of_le (S.sm f hf).2.1, (S.sm f hf).2.2⟩
          exact kk _ _ ⟨led7, kin_lists (kin_lists SG.kin k6 fun b hb => SG.led.isl b (l6 b hb)) k7 lrs, ent7, rows7, S.rnd, S.nE, S.np, tr ris2.mems.symm, fun e he => by rw [len2]; exact sm2 e he, ris2.row S.row ho, (ris2.app xs).row S.rowX (fun y h => by have := ho y h; rw [List.length_append]; omega)⟩ len2 ris2.mems
            (((kG.more sp).trans (k6.more fun b hb => sA b (l6 b hb))).trans (k7.more sR)) (((potG.keep k6 (fun z => S.np (List.mem_cons_of_mem _ (List.mem_append_left _ (l6 p z))))).keep k7 (fun z => S.out z List.mem_cons_self)).le (by omega))
        · -- no cause
          refine ⟨_, rfl, D.q, D.A.dx, _, rfl, SG.led.ins, flb D.A, _, rfl, D.q, D.A, D.ms, D.ns, es ++ xs, k, e, none, rfl, SG.led, heX, (fun y h => by cases h), fun G6 k6 led6 => ?_⟩
          obtain ⟨r, m, nk, q1, ent6, g4, fin⟩ := blamed none (fun y h => by cases h) G6 k6 led6
          exact ⟨_, rfl, _, rfl, D.E, _, _, V.ref r, rfl, rfl, SqL.of ent6, atI_nat (by rw [List.getElem?_map, q1]; rfl), r, _, _, 4, rfl, rfl, g4, rfl, fin⟩
end
end Fs
/-! The scene. -/
namespace Fs
open PySem L2 TL
theorem tx_ok {z : Str} (h : IsTx z) : PyData.strOk z = true := by
  unfold PyData.strOk
  rw [Array.all_eq_true']
  intro c hc
  exact decide_eq_true (Nat.lt_trans (h.2 c (by simpa using hc)).1 (by decide))
theorem strs_lay (l : List Str) (h : ∀ z ∈ l, IsTx z) : PyData.canLayAll0 (l.map PyData.str) = true := by
  induction l with
  | nil => simp [PyData.canLayAll0]
  | cons x r ih => rw [List.map_cons]; simp only [PyData.canLayAll0, PyData.canLay0, ih (fun z hz => h z (List.mem_cons_of_mem _ hz)), tx_ok (h x List.mem_cons_self), Bool.and_self]
theorem sh_strs (l : List Str) (h : ∀ z ∈ l, IsTx z) : SeqAt.shaped (.list (l.map PyData.str)) = true := by
  have a1 : (PyData.list (l.map PyData.str)).canLay0 = true := by
    simp only [PyData.canLay0]
    exact strs_lay l h
  have a2 : (PyData.list (l.map PyData.str)).depth ≤ 64 := by
    have := (strs_ok l).2.2
    simp only [PyData.depth]
    omega
  unfold SeqAt.shaped
  rw [a1, decide_eq_true a2]
  rfl
theorem strs_nil (l : List Str) : (!PyData.eqv (.list (l.map PyData.str)) (.list [])) = !l.isEmpty := by
  cases l <;> simp [PyData.eqv, PyData.eqvAll]
theorem kind_all {ps : List (Str × Str)} {mem : List Nat} {z : Str} (h : KindOk ps mem z) : z ∈ allK ps := by
  by_cases q : mem = []
  · exact kept_all (h.1 q)
  · rw [h.2 q]; exact List.mem_cons_of_mem _ List.mem_cons_self
theorem RowsAt.isl {bad : List Addr} {H : Hp} : ∀ {as : List Addr} {es : List Ent}, RowsAt bad H as es → ∀ a ∈ as, ∃ xs, H a = some (.lst xs)
  | [], [], _, _, h => absurd h List.not_mem_nil
  | _ :: as, _ :: es, h, a, m => by
    rcases List.mem_cons.mp m with z | z
    · obtain ⟨m, n, _, _, _, e, _⟩ := h.1
      rw [z]; exact ⟨_, e⟩
    · exact RowsAt.isl h.2 a z
  | [], _ :: _, h, _, _ => h.elim
  | _ :: _, [], h, _, _ => h.elim
theorem StA.lists {C CK : Addr} {ps : List (Str × Str)} {cap : Nat} {p : Addr} {H : Hp} {D : LDA} {es : List Ent} (S : StA C CK ps cap p H D es) : ∀ b ∈ D.zs, ∃ xs, H b = some (.lst xs) := fun b hb => by
  rcases List.mem_append.mp hb with h | h
  · exact S.led.isl b h
  · rcases List.mem_append.mp h with h | h
    · exact S.led.notes.is b h
    · exact S.rows.isl b h
/-- where all stands that a round has -/
structure Sc (C CK : Addr) (ps : List (Str × Str)) (cap : Nat) (p l X : Addr) (tx : List Str) (H : Hp) (D : LDA) (es : List Ent) : Prop where
  st : StA C CK ps cap p H D es
  prs : PairsAt H l ps
  wf : Wf ps
  few : ps.length ≤ 100
  txs : TxsOk tx
  hX : H X = some (.lst (tx.map V.str))
  nl : l ∉ p :: D.zs
  nX : X ∉ p :: D.zs
  pos : 0 < es.length
  len : es.length ≤ 10000
section
variable {C CK : Addr} {ps : List (Str × Str)} {cap cap' : Nat} {p l X : Addr} {tx : List Str} {H H' : Hp} {D : LDA} {es es' : List Ent} {n : Nat}
theorem Sc.nXp (S : Sc C CK ps cap p l X tx H D es) : X ≠ p := fun z => S.nX (by rw [z]; exact List.mem_cons_self)
theorem Sc.nlp (S : Sc C CK ps cap p l X tx H D es) : l ≠ p := fun z => S.nl (by rw [z]; exact List.mem_cons_self)
theorem pot_lst (hp : PotAt H p n) : ∀ b ∈ [p], ∃ xs, H b = some (.lst xs) := fun b hb => by rw [List.mem_singleton.mp hb]; exact hp.some
theorem lst_no {ex : List Addr} (h : ∀ b ∈ ex, ∃ xs, H b = some (.lst xs)) : ∀ b ∈ ex, ∃ o, H b = some o ∧ ∀ xs, o ≠ .tup xs := fun b hb => by
  obtain ⟨xs, e⟩ := h b hb
  exact ⟨_, e, fun _ z => nomatch z⟩
theorem Sc.keepP (S : Sc C CK ps cap p l X tx H D es) (hp : PotAt H p n) (k : Keep [p] H H') : Sc C CK ps cap p l X tx H' D es :=
  ⟨S.st.keepP hp.some k, S.prs.keep k (nin1 S.nlp) (lst_no (pot_lst hp)), S.wf, S.few, S.txs, k.at S.hX (nin1 S.nXp), S.nl, S.nX, S.pos, S.len⟩
theorem Sc.keep0 (S : Sc C CK ps cap p l X tx H D es) (k : Keep [] H H') : Sc C CK ps cap p l X tx H' D es :=
  ⟨S.st.keep0 k, S.prs.keep k nin0 (fun b z => absurd z nin0), S.wf, S.few, S.txs, k.at S.hX nin0, S.nl, S.nX, S.pos, S.len⟩
theorem Sc.zlst (S : Sc C CK ps cap p l X tx H D es) (hp : PotAt H p n) : ∀ b ∈ p :: D.zs, ∃ xs, H b = some (.lst xs) := fun b hb => by
  rcases List.mem_cons.mp hb with h | h
  · rw [h]; exact hp.some
  · exact S.st.lists b h
/-- after deeds -/
theorem Sc.deed (S : Sc C CK ps cap p l X tx H D es) (hp : PotAt H p n) (S' : StA C CK ps cap' p H' D es') (hl : es'.length = es.length) (k : Keep (p :: D.zs) H H') : Sc C CK ps cap' p l X tx H' D es' :=
  ⟨S', S.prs.keep k S.nl (lst_no (S.zlst hp)), S.wf, S.few, S.txs, k.at S.hX S.nX, S.nl, S.nX, by rw [hl]; exact S.pos, by rw [hl]; exact S.len⟩
theorem Sc.lr (S : Sc C CK ps cap p l X tx H D es) : D.rs.length = es.length := S.st.rows.len
theorem Sc.lt (S : Sc C CK ps cap p l X tx H D es) : LT C CK ps H D.q D.A D.ms D.ns es := ⟨S.st.led, S.st.kin, S.wf, fun e he => kind_all (S.st.sm e he).2.2⟩
theorem Sc.mem101 (S : Sc C CK ps cap p l X tx H D es) : ∀ e ∈ es, e.mem.length ≤ 101 := fun e he => (S.st.sm e he).1.2.2.2.1
end
theorem Sm.more {n m : Nat} {e : Ent} (h : Sm n e) (l : n ≤ m) : Sm m e :=
  ⟨h.1, h.2.1, h.2.2.1, h.2.2.2.1, fun k hk => Nat.lt_of_lt_of_le (h.2.2.2.2.1 k hk) l, h.2.2.2.2.2.1, fun y hy => Nat.lt_of_lt_of_le (h.2.2.2.2.2.2.1 y hy) l, fun y hy => Nat.lt_of_lt_of_le (h.2.2.2.2.2.2.2 y hy) l⟩
theorem Sc.small {C CK : Addr} {ps : List (Str × Str)} {cap : Nat} {p l X : Addr} {tx : List Str} {H : Hp} {D : LDA} {es : List Ent} (S : Sc C CK ps cap p l X tx H D es) : AllSmall es := fun e he => (S.st.sm e he).1.more (Nat.le_trans S.len (by decide))
end Fs
/-! The scene, where the ledger has more faults. -/
namespace Fs
open PySem L2 TL
theorem StB.lists {C CK : Addr} {ps : List (Str × Str)} {cap : Nat} {p : Addr} {H : Hp} {D : LDA} {es xs : List Ent} (S : StB C CK ps cap p H D es xs) : ∀ b ∈ D.zs, ∃ xs, H b = some (.lst xs) := fun b hb => by
  rcases List.mem_append.mp hb with h | h
  · exact S.led.isl b h
  · rcases List.mem_append.mp h with h | h
    · exact S.led.notes.is b h
    · exact S.rows.isl b h
/-- where all stands that a round has -/
structure ScB (C CK : Addr) (ps : List (Str × Str)) (cap : Nat) (p l X : Addr) (tx : List Str) (H : Hp) (D : LDA) (es xs : List Ent) : Prop where
  st : StB C CK ps cap p H D es xs
  treeX : ∃ Lf Df Nf, Tree (es ++ xs) Lf Df Nf
  xk : ∀ e ∈ xs, e.kind = sS ∧ e.mem ≠ [] ∧ e.mem.length ≤ 101 ∧ ∀ m ∈ e.mem, m < (es ++ xs).length
  prs : PairsAt H l ps
  wf : Wf ps
  few : ps.length ≤ 100
  txs : TxsOk tx
  hX : H X = some (.lst (tx.map V.str))
  nl : l ∉ p :: D.zs
  nX : X ∉ p :: D.zs
  pos : 0 < es.length
  len : es.length ≤ 10000
section
variable {C CK : Addr} {ps : List (Str × Str)} {cap cap' : Nat} {p l X : Addr} {tx : List Str} {H H' : Hp} {D : LDA} {es es' xs : List Ent} {n : Nat}
theorem ScB.nXp (S : ScB C CK ps cap p l X tx H D es xs) : X ≠ p := fun z => S.nX (by rw [z]; exact List.mem_cons_self)
theorem ScB.nlp (S : ScB C CK ps cap p l X tx H D es xs) : l ≠ p := fun z => S.nl (by rw [z]; exact List.mem_cons_self)
theorem ScB.keepP (S : ScB C CK ps cap p l X tx H D es xs) (hp : PotAt H p n) (k : Keep [p] H H') : ScB C CK ps cap p l X tx H' D es xs :=
  ⟨S.st.keepP hp.some k, S.treeX, S.xk, S.prs.keep k (nin1 S.nlp) (lst_no (pot_lst hp)), S.wf, S.few, S.txs, k.at S.hX (nin1 S.nXp), S.nl, S.nX, S.pos, S.len⟩
theorem ScB.keep0 (S : ScB C CK ps cap p l X tx H D es xs) (k : Keep [] H H') : ScB C CK ps cap p l X tx H' D es xs :=
  ⟨S.st.keep0 k, S.treeX, S.xk, S.prs.keep k nin0 (fun b z => absurd z nin0), S.wf, S.few, S.txs, k.at S.hX nin0, S.nl, S.nX, S.pos, S.len⟩
theorem ScB.zlst (S : ScB C CK ps cap p l X tx H D es xs) (hp : PotAt H p n) : ∀ b ∈ p :: D.zs, ∃ xs, H b = some (.lst xs) := fun b hb => by
  rcases List.mem_cons.mp hb with h | h
  · rw [h]; exact hp.some
  · exact S.st.lists b h
/-- after deeds -/
theorem ScB.deed (S : ScB C CK ps cap p l X tx H D es xs) (hp : PotAt H p n) (S' : StB C CK ps cap' p H' D es' xs) (hm : es'.map Ent.mem = es.map Ent.mem) (hl : es'.length = es.length) (k : Keep (p :: D.zs) H H') : ScB C CK ps cap' p l X tx H' D es' xs :=
  ⟨S', by
      obtain ⟨Lf, Df, Nf, T⟩ := S.treeX
      exact ⟨Lf, Df, Nf, T.congr (by rw [List.map_append, List.map_append, hm])⟩, fun e he => by
      obtain ⟨a, b, c, d⟩ := S.xk e he
      exact ⟨a, b, c, fun m hm' => by have := d m hm'; rw [List.length_append] at this ⊢; omega⟩, S.prs.keep k S.nl (lst_no (S.zlst hp)), S.wf, S.few, S.txs, k.at S.hX S.nX, S.nl, S.nX, by rw [hl]; exact S.pos, by rw [hl]; exact S.len⟩
theorem ScB.lr (S : ScB C CK ps cap p l X tx H D es xs) : D.rs.length = es.length := S.st.rows.len
theorem ScB.lt (S : ScB C CK ps cap p l X tx H D es xs) : LT C CK ps H D.q D.A D.ms D.ns (es ++ xs) := ⟨S.st.led, S.st.kin, S.wf, fun e he => by
    rcases List.mem_append.mp he with h | h
    · exact kind_all (S.st.sm e h).2.2
    · rw [(S.xk e h).1]; exact List.mem_cons_of_mem _ List.mem_cons_self⟩
theorem ScB.mem101 (S : ScB C CK ps cap p l X tx H D es xs) : ∀ e ∈ es ++ xs, e.mem.length ≤ 101 := fun e he => by
  rcases List.mem_append.mp he with h | h
  · exact (S.st.sm e h).1.2.2.2.1
  · exact (S.xk e h).2.2.1
end
end Fs
/-! A sheaf like another one. -/
namespace Fs
open PySem L2 TL
def spLike (K : PySem.W.Frag) (C : Addr) : Sp := fun vs H Q _ => ∃ (p m : Addr) (A : LA) (ms ns : List Addr) (es : List Ent) (k : Nat) (e : Ent) (mem : List Nat), vs = [.ref p, .int (k : Int), .ref m] ∧ LedAt C H p A ms ns es ∧ es[k]? = some e ∧ e.kind = sS ∧ SqL K H m (mem.map fun k : Nat => V.int (k : Int)) ∧ m ∉ A.ls ∧ mem ≠ [] ∧ (∀ k ∈ mem, k < es.length) ∧ es.length < 100000 ∧
  ∀ (H' : Hp) (t' n' : Addr), Keep A.ls H H' → LedAt C H' p A (ms ++ [t']) (ns ++ [n']) (es ++ [⟨sS, e.text, mem, e.notes, e.cause, e.atw⟩]) → H n' = none → Q (.int (es.length : Int)) H'
section
variable {P : Program} {w : World} {K : PySem.W.Frag} {mg : Str → Option Value} {base : Heap} {C fA fCF fCT fCM : Addr}
theorem ok_like {f : Addr} {fd fdF fdM fdA : FuncData} (F : Fun K "like" "Ledger.like" sLike f fd) (T : LTxt K mg C fA fCF fCT fCM) (FF : FnOk P w K mg base CX0 2 fCF fdF ["self", "k"] (spChkF C)) (bF : Binds K fdF ["self", "k"] []) (FM : FnOk P w K mg base CX0 3 fCM fdM ["self", "members"] (spChkM K C)) (bM : Binds K fdM ["self", "members"] [])
    (FA : FnOk P w K mg base CX0 1 fA fdA ["self", "kind", "text", "members"] (spAdd K C)) (bA : Binds K fdA ["self", "kind", "text", "members"] []) : FnOk P w K mg base CX0 4 f fd ["self", "k", "members"] (spLike K C) := by
  refine F.ok scLike (fun vs H Q E h => ?_) (fun cdv A outer s H vs Q E hr h => ?_)
  · obtain ⟨p, m, L, ms, ns, es, k, e, mem, rfl, _⟩ := h
    rfl
  · obtain ⟨p, m, L, ms, ns, es, k, e, mem, rfl, hL, he, hkd, hm, hmn, hne, hall, hlen, kk⟩ := h
    have hk := (List.getElem?_eq_some_iff.mp he).1
    have hr1 : Room 1 _ := hr.mono (by decide)
    have hr2 : Room 2 _ := hr.mono (by decide)
    refine ⟨_, pss_cons (ps_expr (pe_meth (pv 0) T.cl T.mF FF hr2 bF .nil pass0 (pa_cons (pv 1) pa_nil)))
      (pss_cons (ps_if (pt_cmpR op_ne (pe_ix ix_list (pe_fld (pv 0) rfl) (pv 1) (fun _ _ => rfl)) pe_str (nomark _)) (pss_one ps_never) pss_nil)
      (pss_cons (ps_expr (pe_meth (pv 0) T.cl T.mM FM hr bM .nil pass0 (pa_cons (pv 2) pa_nil)))
      (pss_cons (ps_set (i := 3) scLike.nd rfl (Or.inl rfl) (pe_meth (pv 0) T.cl T.mA FA hr1 bA .nil pass0 (pa_cons pe_str (pa_cons (pe_ix ix_list (pe_fld (pv 0) rfl) (pv 1) (fun _ _ => rfl)) (pa_cons (pv 2) pa_nil)))))
      (pss_cons (ps_asg (pe_callTy call_list_of (by rfl) T.lst (by decide +kernel) (pa_cons (pe_ix ix_list (pe_fld (pv 0) rfl) (pv 1) (fun _ _ => rfl)) pa_nil)) (pg_sub (pe_fld (pv 0) rfl) (pv 3) set_list))
      (pss_cons (ps_asg (pe_ix ix_list (pe_fld (pv 0) rfl) (pv 1) (fun _ _ => rfl)) (pg_sub (pe_fld (pv 0) rfl) (pv 3) set_list))
      (pss_cons (ps_asg (pe_ix ix_list (pe_fld (pv 0) rfl) (pv 1) (fun _ _ => rfl)) (pg_sub (pe_fld (pv 0) rfl) (pv 3) set_list))
      (pss_one (ps_ret (pv 3))))))))), ?_⟩
    refine ⟨_, rfl, p, L.dx, _, rfl, hL.ins, flno L, _, rfl, p, L, ms, ns, es, k, rfl, hL, hk, ?_⟩
    refine ⟨_, rfl, p, C, L.dx, _, _, rfl, hL.ins, T.cl, T.n1, fl1 L, _, rfl, L.l1, _, _, V.str e.kind, rfl, rfl, SqL.of hL.h1, atI_nat (by rw [List.getElem?_map, he]; rfl), rfl, _, rfl, ?_⟩
    refine iteNS (by rw [hkd]) ?_
    refine ⟨_, rfl, p, L.dx, _, rfl, hL.ins, flnoM L, _, rfl, p, m, L, ms, ns, es, mem, rfl, hL, hm, hne, hall, ?_⟩
    refine ⟨_, rfl, p, L.dx, _, rfl, hL.ins, flnoA L, _, rfl, p, C, L.dx, _, _, rfl, hL.ins, T.cl, T.n2, fl2 L, _, rfl, L.l2, _, _, V.str e.text, rfl, rfl, SqL.of hL.h2, atI_nat (by rw [List.getElem?_map, he]; rfl), _, rfl, ?_⟩
    refine ⟨p, m, L, ms, ns, es, sS, e.text, mem, rfl, hL, hm, hmn, hlen, fun H1 t' n' k1 hL1 hn1 => ?_⟩
    have he1 : (es ++ [(⟨sS, e.text, mem, [], none, none⟩ : Ent)])[k]? = some e := by rw [List.getElem?_append_left hk]; exact he
    have lns : ns.length = es.length := hL.notes.len
    -- notes
    obtain ⟨nk, hnk, hnc⟩ := hL1.notes.at he1
    refine ⟨_, rfl, p, C, L.dx, _, _, rfl, hL1.ins, T.cl, T.n4, fl4 L, _, rfl, L.l4, _, _, V.ref nk, rfl, rfl, SqL.of hL1.h4, atI_nat (by rw [List.getElem?_map, hnk]; rfl), nk, _, rfl, .inl (SqL.of hnc), fun l2 hl2 => ?_⟩
    have k2 : Keep [] H1 (upd H1 l2 (.lst (e.notes.map V.str))) := Keep.new hl2
    have el2 : (upd H1 l2 (.lst (e.notes.map V.str))) l2 = some (.lst (e.notes.map V.str)) := upd_same
    generalize (upd H1 l2 (.lst (e.notes.map V.str))) = H2 at k2 el2 ⊢
    have hL2 := hL1.keep k2 (fun b z => absurd z nin0) (fun b z => absurd z nin0)
    have hlo : l2 ∉ L.ls ++ (ns ++ [n']) := fun z => by
      rcases List.mem_append.mp z with z | z
      · obtain ⟨xs, q⟩ := hL1.isl l2 z
        rw [q] at hl2; cases hl2
      · obtain ⟨xs, q⟩ := hL1.notes.is l2 z
        rw [q] at hl2; cases hl2
    have l4n : ((ns ++ [n']).map V.ref).length = es.length + 1 := by rw [List.length_map, List.length_append, lns]; rfl
    refine ⟨_, rfl, p, C, L.dx, _, _, rfl, hL2.ins, T.cl, T.n4, fl4 L, _, rfl, L.l4, _, _, es.length, rfl, rfl, hL2.h4, ixN_nat (by rw [l4n]; omega), ?_⟩
    have e4 : ((ns ++ [n']).map V.ref).set es.length (.ref l2) = (ns ++ [l2]).map V.ref := by
      rw [← List.map_set, ← lns, set_last]
    rw [e4]
    have hL3 := hL2.last el2 hlo
    have k3 : Keep L.ls H2 (upd H2 L.l4 (.lst ((ns ++ [l2]).map V.ref))) := Keep.own (by simp [LA.ls])
    generalize (upd H2 L.l4 (.lst ((ns ++ [l2]).map V.ref))) = H3 at hL3 k3 ⊢
    -- cause
    have he3 : (es ++ [noteE (⟨sS, e.text, mem, [], none, none⟩ : Ent) e.notes])[k]? = some e := by rw [List.getElem?_append_left hk]; exact he
    have hx3 : (es ++ [noteE (⟨sS, e.text, mem, [], none, none⟩ : Ent) e.notes])[es.length]? = some (noteE (⟨sS, e.text, mem, [], none, none⟩ : Ent) e.notes) := by rw [List.getElem?_append_right (Nat.le_refl _), Nat.sub_self]; rfl
    refine ⟨_, rfl, p, C, L.dx, _, _, rfl, hL3.ins, T.cl, T.n5, fl5 L, _, rfl, L.l5, _, _, optV e.cause, rfl, rfl, SqL.of hL3.h5, atI_nat (by rw [List.getElem?_map, he3]; rfl), ?_⟩
    refine ⟨_, rfl, p, C, L.dx, _, _, rfl, hL3.ins, T.cl, T.n5, fl5 L, _, rfl, L.l5, _, _, es.length, rfl, rfl, hL3.h5, ixN_nat (by rw [List.length_map, List.length_append]; exact Nat.lt_succ_self _), ?_⟩
    have hL4 := hL3.by' e.cause hx3
    rw [set_last] at hL4
    have k4 : Keep L.ls H3 (upd H3 L.l5 (.lst (((es ++ [noteE (⟨sS, e.text, mem, [], none, none⟩ : Ent) e.notes]).map fun e => optV e.cause).set es.length (optV e.cause)))) := Keep.own (by simp [LA.ls])
    generalize (upd H3 L.l5 (.lst (((es ++ [noteE (⟨sS, e.text, mem, [], none, none⟩ : Ent) e.notes]).map fun e => optV e.cause).set es.length (optV e.cause)))) = H4 at hL4 k4 ⊢
    -- at work
    have he4 : (es ++ [byE (noteE (⟨sS, e.text, mem, [], none, none⟩ : Ent) e.notes) e.cause])[k]? = some e := by rw [List.getElem?_append_left hk]; exact he
    have hx4 : (es ++ [byE (noteE (⟨sS, e.text, mem, [], none, none⟩ : Ent) e.notes) e.cause])[es.length]? = some (byE (noteE (⟨sS, e.text, mem, [], none, none⟩ : Ent) e.notes) e.cause) := by rw [List.getElem?_append_right (Nat.le_refl _), Nat.sub_self]; rfl
    refine ⟨_, rfl, p, C, L.dx, _, _, rfl, hL4.ins, T.cl, T.n6, fl6 L, _, rfl, L.l6, _, _, optV e.atw, rfl, rfl, SqL.of hL4.h6, atI_nat (by rw [List.getElem?_map, he4]; rfl), ?_⟩
    refine ⟨_, rfl, p, C, L.dx, _, _, rfl, hL4.ins, T.cl, T.n6, fl6 L, _, rfl, L.l6, _, _, es.length, rfl, rfl, hL4.h6, ixN_nat (by rw [List.length_map, List.length_append]; exact Nat.lt_succ_self _), ?_⟩
    have hL5 := hL4.off e.atw hx4
    rw [set_last] at hL5
    refine ⟨_, rfl, ?_⟩
    refine kk _ t' l2 ((((k1.trans (k2.more fun b z => absurd z nin0)).trans k3).trans k4).trans (Keep.own (by simp [LA.ls]))) hL5 ?_
    exact Keep.free k1 hl2 fun z => hlo (List.mem_append_left _ z)
end
end Fs
/-! Ways by their first places. -/
namespace Fs
open PySem L2 TL
/-- tuples of places -/
def TwsAt (H : Hp) : List Addr → List (List Nat) → Prop
  | [], [] => True
  | t :: ts, w :: ws => H t = some (.tup (memV w)) ∧ TwsAt H ts ws
  | _, _ => False
theorem TwsAt.map {H H' : Hp} (k : ∀ a xs, H a = some (.tup xs) → H' a = some (.tup xs)) : ∀ {ts : List Addr} {ws : List (List Nat)}, TwsAt H ts ws → TwsAt H' ts ws
  | [], [], _ => True.intro
  | _ :: ts, _ :: ws, ⟨h1, h2⟩ => ⟨k _ _ h1, TwsAt.map k h2⟩
  | [], _ :: _, h => h.elim
  | _ :: _, [], h => h.elim
theorem TwsAt.len {H : Hp} : ∀ {ts : List Addr} {ws : List (List Nat)}, TwsAt H ts ws → ts.length = ws.length
  | [], [], _ => rfl
  | _ :: ts, _ :: ws, h => by rw [List.length_cons, List.length_cons, TwsAt.len h.2]
  | [], _ :: _, h => h.elim
  | _ :: _, [], h => h.elim
theorem TwsAt.snoc {H : Hp} {t : Addr} {w : List Nat} (hb : H t = some (.tup (memV w))) : ∀ {ts : List Addr} {ws : List (List Nat)}, TwsAt H ts ws → TwsAt H (ts ++ [t]) (ws ++ [w])
  | [], [], _ => ⟨hb, True.intro⟩
  | _ :: ts, _ :: ws, h => ⟨h.1, TwsAt.snoc hb h.2⟩
  | [], _ :: _, h => h.elim
  | _ :: _, [], h => h.elim
theorem TwsAt.at {H : Hp} : ∀ {ts : List Addr} {ws : List (List Nat)} {i : Nat} {w : List Nat}, TwsAt H ts ws → ws[i]? = some w → ∃ t, ts[i]? = some t ∧ H t = some (.tup (memV w))
  | _ :: _, _ :: _, 0, _, h, e => ⟨_, rfl, by rw [← Option.some.inj e]; exact h.1⟩
  | _ :: _, _ :: _, i + 1, _, h, e => TwsAt.at h.2 (i := i) e
  | [], [], _, _, _, e => by cases e
  | [], _ :: _, _, _, h, _ => h.elim
  | _ :: _, [], _, _, h, _ => h.elim
/-- the dict's entries -/
def behK (bs : List (Nat × Addr)) : List (Key × V) := bs.map fun b => (Sum.inl (b.1 : Int), V.ref b.2)
theorem behK_some : ∀ {bs : List (Nat × Addr)} {i : Nat} {a : Addr}, (bs.map Prod.fst).Nodup → (i, a) ∈ bs → valV (behK bs) (Sum.inl (i : Int)) = some (.ref a)
  | [], _, _, _, h => absurd h List.not_mem_nil
  | b :: bs, i, a, nd, h => by
    have nd' := List.nodup_cons.mp nd
    unfold behK valV
    rw [List.map_cons, List.find?_cons]
    by_cases z : b.1 = i
    · have e : b = (i, a) := by
        rcases List.mem_cons.mp h with q | q
        · exact q.symm
        · exact absurd (List.mem_map_of_mem (f := Prod.fst) q) (by rw [← z]; exact nd'.1)
      rw [e, decide_eq_true rfl]; rfl
    · have e : (decide ((Sum.inl (b.1 : Int) : Key) = Sum.inl (i : Int))) = false := decide_eq_false fun q => z (by have := Sum.inl.inj q; omega)
      rw [e]
      have q : (i, a) ∈ bs := by
        rcases List.mem_cons.mp h with q | q
        · exact absurd (by rw [← q]) z
        · exact q
      exact behK_some (bs := bs) nd'.2 q
theorem behK_none : ∀ {bs : List (Nat × Addr)} {i : Nat}, i ∉ bs.map Prod.fst → valV (behK bs) (Sum.inl (i : Int)) = none
  | [], _, _ => rfl
  | b :: bs, i, h => by
    unfold behK valV
    rw [List.map_cons, List.find?_cons]
    have e : (decide ((Sum.inl (b.1 : Int) : Key) = Sum.inl (i : Int))) = false := decide_eq_false fun q => h (by
      have : b.1 = i := by have := Sum.inl.inj q; omega
      rw [← this]; exact List.mem_cons_self)
    rw [e]
    exact behK_none (bs := bs) fun q => h (List.mem_cons_of_mem _ q)
theorem behK_put {bs : List (Nat × Addr)} {i : Nat} {a : Addr} (h : i ∉ bs.map Prod.fst) : putK (behK bs) (Sum.inl (i : Int)) (.ref a) = behK (bs ++ [(i, a)]) := by
  unfold putK
  have e : ((behK bs).any fun kv => decide (kv.1 = Sum.inl (i : Int))) = false := by
    rw [List.any_eq_false]
    intro x hx
    unfold behK at hx
    obtain ⟨b, hb, rfl⟩ := List.mem_map.mp hx
    rw [decide_eq_true_eq]
    intro q
    have : b.1 = i := by have := Sum.inl.inj q; omega
    exact h (by rw [← this]; exact List.mem_map_of_mem hb)
  rw [e]
  show behK bs ++ _ = _
  unfold behK
  rw [List.map_append]; rfl
theorem behK_len (bs : List (Nat × Addr)) : (behK bs).length = bs.length := by unfold behK; rw [List.length_map]
theorem behK_keys (bs : List (Nat × Addr)) : (behK bs).map (·.1) = (bs.map fun b => (b.1 : Int)).map Sum.inl := by
  unfold behK
  rw [List.map_map, List.map_map]; rfl
structure BehAt (H0 H : Hp) (B : Addr) (bs : List (Nat × Addr)) (ws : List (List Nat)) : Prop where
  dict : H B = some (.dK (behK bs))
  nd1 : (bs.map Prod.fst).Nodup
  nd2 : (bs.map Prod.snd).Nodup
  lists : ∀ b ∈ bs, ∃ ts : List Addr, H b.2 = some (.lst (ts.map V.ref)) ∧ TwsAt H ts (strip b.1 ws)
  all : ∀ i, i ∈ bs.map Prod.fst ↔ ∃ w, i :: w ∈ ws
  new : ∀ b ∈ bs, H0 b.2 = none
theorem nodup_more {l : List Nat} {x : Nat} (h : l.Nodup) (hx : x ∉ l) : (l ++ [x]).Nodup := by
  rw [List.nodup_append]
  exact ⟨h, by simp, fun a ha b hb z => hx (by rw [← List.mem_singleton.mp hb, ← z]; exact ha)⟩
theorem fst_of {bs : List (Nat × Addr)} (nd : (bs.map Prod.fst).Nodup) {i : Nat} {a b : Addr} (h1 : (i, a) ∈ bs) (h2 : (i, b) ∈ bs) : a = b := by
  have e1 := behK_some nd h1
  have e2 := behK_some nd h2
  rw [e1] at e2
  exact V.ref.inj (Option.some.inj e2)
theorem snd_of : ∀ {bs : List (Nat × Addr)}, (bs.map Prod.snd).Nodup → ∀ {x y : Nat × Addr}, x ∈ bs → y ∈ bs → x.2 = y.2 → x = y
  | [], _, _, _, h, _, _ => absurd h List.not_mem_nil
  | b :: bs, nd, x, y, hx, hy, e => by
    obtain ⟨n1, n2⟩ := List.nodup_cons.mp nd
    rcases List.mem_cons.mp hx with q | q <;> rcases List.mem_cons.mp hy with q2 | q2
    · rw [q, q2]
    · exact absurd (by rw [← q, e]; exact List.mem_map_of_mem q2) n1
    · exact absurd (by rw [← q2, ← e]; exact List.mem_map_of_mem q) n1
    · exact snd_of n2 q q2 e
/-- one more behind a place that there is -/
theorem BehAt.more {H0 G G1 : Hp} {B a t : Addr} {bs : List (Nat × Addr)} {ws : List (List Nat)} {i : Nat} {v : List Nat} {ts : List Addr} (h : BehAt H0 G B bs ws) (hb : (i, a) ∈ bs) (k : Keep [] G G1) (ea : G a = some (.lst (ts.map V.ref))) (ta : TwsAt G ts (strip i ws)) (ht : G1 t = some (.tup (memV v))) :
    BehAt H0 (upd G1 a (.lst (ts.map V.ref ++ [.ref t]))) B bs (ws ++ [i :: v]) := by
  have ea1 := k.at ea nin0
  have up : ∀ {b o}, G1 b = some o → (∀ xs, o ≠ .lst xs) → (upd G1 a (.lst (ts.map V.ref ++ [.ref t]))) b = some o := fun {b o} e n => by
    rw [upd_ne fun z => by rw [z, ea1] at e; exact n _ (Option.some.inj e).symm]; exact e
  have upt : ∀ (b : Addr) (xs : List V), G b = some (.tup xs) → (upd G1 a (.lst (ts.map V.ref ++ [.ref t]))) b = some (.tup xs) := fun b xs e => up (k.at e nin0) fun ys z => by cases z
  refine ⟨up (k.at h.dict nin0) (fun ys z => by cases z), h.nd1, h.nd2, fun b hbm => ?_, fun j => ?_, h.new⟩
  · by_cases z : b.2 = a
    · have e : b = (i, a) := snd_of h.nd2 hbm hb z
      subst e
      refine ⟨ts ++ [t], by rw [upd_same, List.map_append]; rfl, ?_⟩
      rw [strip_app, strip_one]
      exact (ta.map upt).snoc (up ht fun ys z => by cases z)
    · obtain ⟨tb, eb, tb'⟩ := h.lists b hbm
      refine ⟨tb, by rw [upd_ne z]; exact k.at eb nin0, ?_⟩
      have ne : i ≠ b.1 := fun q => z (fst_of h.nd1 (i := i) (by rw [show (i, b.2) = b by rw [q]]; exact hbm) hb)
      rw [strip_app, strip_none ne, List.append_nil]
      exact tb'.map upt
  · rw [h.all j]
    constructor
    · rintro ⟨w, hw⟩
      exact ⟨w, List.mem_append_left _ hw⟩
    · rintro ⟨w, hw⟩
      rcases List.mem_append.mp hw with q | q
      · exact ⟨w, q⟩
      · have e := List.mem_singleton.mp q
        have := (List.cons.inj e).1
        rw [this]
        exact (h.all i).mp (List.mem_map_of_mem (f := Prod.fst) hb)
/-- one more behind a new place -/
theorem BehAt.born {H0 G G1 : Hp} {B z t : Addr} {bs : List (Nat × Addr)} {ws : List (List Nat)} {i : Nat} {v : List Nat} (h : BehAt H0 G B bs ws) (hi : i ∉ bs.map Prod.fst) (hz : G z = none) (hz0 : H0 z = none) (k : Keep [B] G G1) (eB : G1 B = some (.dK (behK (bs ++ [(i, z)])))) (ez : G1 z = some (.lst [])) (ht : G1 t = some (.tup (memV v))) :
    BehAt H0 (upd G1 z (.lst [.ref t])) B (bs ++ [(i, z)]) (ws ++ [i :: v]) := by
  have up : ∀ {b o}, G1 b = some o → (∀ xs, o ≠ .lst xs) → (upd G1 z (.lst [.ref t])) b = some o := fun {b o} e n => by
    rw [upd_ne fun q => by rw [q, ez] at e; exact n _ (Option.some.inj e).symm]; exact e
  have nB : ∀ {b : Addr} {xs : List V}, G b = some (.tup xs) → b ∉ [B] := fun e => nin1 (ne_of e h.dict fun z => by cases z)
  have nBl : ∀ {b : Addr} {xs : List V}, G b = some (.lst xs) → b ∉ [B] := fun e => nin1 (ne_of e h.dict fun z => by cases z)
  have upt : ∀ (b : Addr) (xs : List V), G b = some (.tup xs) → (upd G1 z (.lst [.ref t])) b = some (.tup xs) := fun b xs e => up (k.at e (nB e)) fun ys z => by cases z
  have old : ∀ b ∈ bs, b.2 ≠ z := fun b hb q => by
    obtain ⟨_, e, _⟩ := h.lists b hb
    rw [q, hz] at e; cases e
  have no : strip i ws = [] := by
    cases q : strip i ws with
    | nil => rfl
    | cons x r =>
      have : x ∈ strip i ws := by rw [q]; exact List.mem_cons_self
      exact absurd ((h.all i).mpr ⟨x, mem_strip.mp this⟩) hi
  refine ⟨up eB (fun ys z => by cases z), ?_, ?_, fun b hbm => ?_, fun j => ?_, fun b hbm => ?_⟩
  · rw [List.map_append]
    exact nodup_more h.nd1 hi
  · rw [List.map_append]
    rw [List.nodup_append]
    refine ⟨h.nd2, by simp, fun a ha b hb q => ?_⟩
    obtain ⟨x, hx, rfl⟩ := List.mem_map.mp ha
    have : b = z := by simpa using hb
    exact old x hx (by rw [q, this])
  · rcases List.mem_append.mp hbm with q | q
    · obtain ⟨tb, eb, tb'⟩ := h.lists b q
      refine ⟨tb, by rw [upd_ne (old b q)]; exact k.at eb (nBl eb), ?_⟩
      have ne : i ≠ b.1 := fun z => hi (by rw [z]; exact List.mem_map_of_mem q)
      rw [strip_app, strip_none ne, List.append_nil]
      exact tb'.map upt
    · have e := List.mem_singleton.mp q
      subst e
      refine ⟨[t], by rw [upd_same]; rfl, ?_⟩
      rw [strip_app, strip_one, no]
      exact ⟨up ht (fun ys z => by cases z), True.intro⟩
  · rw [List.map_append, List.mem_append, h.all j]
    constructor
    · rintro (⟨w, hw⟩ | q)
      · exact ⟨w, List.mem_append_left _ hw⟩
      · have : j = i := by simpa using q
        rw [this]
        exact ⟨v, List.mem_append_right _ (List.mem_singleton.mpr rfl)⟩
    · rintro ⟨w, hw⟩
      rcases List.mem_append.mp hw with q | q
      · exact .inl ⟨w, q⟩
      · have := (List.cons.inj (List.mem_singleton.mp q)).1
        exact .inr (by rw [this]; simp)
  · rcases List.mem_append.mp hbm with q | q
    · exact h.new b q
    · rw [List.mem_singleton.mp q]; exact hz0
end Fs
/-! The program: part_at. -/
namespace Fs
open PySem L2 TL
/-- new sheaves, each like one that was there -/
def Parts (es xs : List Ent) : Prop := ∀ (i : Nat) (e : Ent), xs[i]? = some e → e.kind = sS ∧ e.mem ≠ [] ∧ e.mem.length ≤ 101 ∧ (∀ m ∈ e.mem, m < es.length + i) ∧ ∃ e0 ∈ es, e0.mem ≠ [] ∧ e.text = e0.text ∧ e.notes = e0.notes ∧ e.cause = e0.cause ∧ e.atw = e0.atw
theorem Parts.nil (es : List Ent) : Parts es [] := fun i e h => by simp at h
theorem Parts.app {es xs ys : List Ent} (h1 : Parts es xs) (h2 : Parts (es ++ xs) ys) : Parts es (xs ++ ys) := fun i e h => by
  by_cases hi : i < xs.length
  · rw [List.getElem?_append_left hi] at h
    exact h1 i e h
  · rw [List.getElem?_append_right (by omega)] at h
    obtain ⟨a, b, c, d, e0, m0, f⟩ := h2 _ e h
    refine ⟨a, b, c, fun m hm => ?_, ?_⟩
    · have := d m hm
      rw [List.length_append] at this
      omega
    · rcases List.mem_append.mp m0 with q | q
      · exact ⟨e0, q, f⟩
      · obtain ⟨j, hj⟩ := List.mem_iff_getElem?.mp q
        obtain ⟨_, _, _, _, e1, m1, g0, g1, g2, g3, g4⟩ := h1 j e0 hj
        obtain ⟨f0, f1, f2, f3, f4⟩ := f
        exact ⟨e1, m1, g0, f1.trans g1, f2.trans g2, f3.trans g3, f4.trans g4⟩
theorem Parts.one {es : List Ent} {k : Nat} {e0 e : Ent} (h0 : es[k]? = some e0) (a : e.kind = sS) (b : e.mem ≠ []) (c : e.mem.length ≤ 101) (d : ∀ m ∈ e.mem, m < es.length) (f : e0.mem ≠ [] ∧ e.text = e0.text ∧ e.notes = e0.notes ∧ e.cause = e0.cause ∧ e.atw = e0.atw) : Parts es [e] := fun i e' h => by
  have hi : i = 0 := by
    have := (List.getElem?_eq_some_iff.mp h).1
    simp at this; exact this
  subst hi
  have : e = e' := by simpa using h
  subst this
  exact ⟨a, b, c, fun m hm => by have := d m hm; omega, e0, List.mem_of_getElem? h0, f⟩
theorem Parts.all {p : Ent → Prop} {es xs : List Ent} (h : Parts es xs) (h1 : ∀ e ∈ es, p e) (h2 : ∀ e : Ent, e.kind = sS → e.mem ≠ [] → e.mem.length ≤ 101 → p e) : ∀ e ∈ es ++ xs, p e := fun e he => by
  rcases List.mem_append.mp he with q | q
  · exact h1 e q
  · obtain ⟨j, hj⟩ := List.mem_iff_getElem?.mp q
    obtain ⟨a, b, c, _⟩ := h j e hj
    exact h2 e a b c
theorem ys_plcs {ys : List Int} {bs : List (Nat × Addr)} (nd : (bs.map Prod.fst).Nodup) (pm : ys.Perm (bs.map fun b => (b.1 : Int))) (pw : ys.Pairwise (· ≤ ·)) {P : List Nat} (hP : P.Pairwise (· < ·)) (h : ∀ i, i ∈ P ↔ i ∈ bs.map Prod.fst) : ys = P.map fun n : Nat => (n : Int) := by
  have e1 : (bs.map fun b => (b.1 : Int)) = (bs.map Prod.fst).map fun n : Nat => (n : Int) := by rw [List.map_map]; rfl
  rw [e1] at pm
  have ndI : ((bs.map Prod.fst).map fun n : Nat => (n : Int)).Nodup := by
    refine List.Pairwise.map _ (fun a b hab q => hab (by omega)) nd
  have ndy : ys.Nodup := pm.nodup_iff.mpr ndI
  have pos : ∀ y ∈ ys, 0 ≤ y := fun y hy => by
    obtain ⟨n, _, rfl⟩ := List.mem_map.mp (pm.mem_iff.mp hy)
    omega
  have back : ys = (ys.map Int.toNat).map fun n : Nat => (n : Int) := by
    rw [List.map_map]
    conv => lhs; rw [← List.map_id ys]
    refine List.map_congr_left fun y hy => ?_
    have := pos y hy
    show y = ((y.toNat : Nat) : Int)
    omega
  have hz : (ys.map Int.toNat).Pairwise (· < ·) := by
    rw [List.pairwise_map]
    have both : ys.Pairwise fun a b => a ≤ b ∧ a ≠ b := pw.imp₂ (fun a b c d => ⟨c, d⟩) ndy
    refine both.imp_of_mem fun {a b} ha hb hab => ?_
    have := pos a ha
    have := pos b hb
    obtain ⟨c, d⟩ := hab
    omega
  rw [back]
  refine congrArg _ (sorted_ext hz hP fun x => ?_)
  rw [h x]
  constructor
  · intro hx
    obtain ⟨y, hy, rfl⟩ := List.mem_map.mp hx
    obtain ⟨n, hn, rfl⟩ := List.mem_map.mp (pm.mem_iff.mp hy)
    rw [Int.toNat_natCast]; exact hn
  · intro hx
    refine List.mem_map.mpr ⟨(x : Int), pm.mem_iff.mpr (List.mem_map_of_mem hx), Int.toNat_natCast x⟩
theorem sum_take_le : ∀ (l : List Nat) (n : Nat), (l.take n).sum ≤ l.sum
  | [], n => by rw [List.take_nil]; exact Nat.le_refl _
  | x :: r, 0 => Nat.zero_le _
  | x :: r, n + 1 => by
    have := sum_take_le r n
    rw [List.take_succ_cons, List.sum_cons, List.sum_cons]
    omega
abbrev sPat : Stmt := top 19 --def part_at
abbrev nPat : List Str := ["ledger", "k", "ways", "behind", "way", "members", "place"]
abbrev aPat : List Str := ["ledger", "k", "ways"]
theorem scPat : FnScope nPat aPat (defScope sPat) := ⟨rfl, rfl, rfl, by decide +kernel, rfl, by decide +kernel, by decide +kernel⟩
theorem cut_one (x : V) (xs : List V) : cutV (x :: xs) (some 1) none = xs := by
  unfold cutV
  rw [show HT.sIx (x :: xs).length 0 (some 1) = 1 from by rw [show (1 : Int) = ((1 : Nat) : Int) from rfl, HT.sIx_nat, List.length_cons]; omega, HT.sIx_none, List.drop_succ_cons, List.drop_zero, List.length_cons, Nat.add_sub_cancel, List.take_length]
theorem PR.none {es fs : List Ent} {many n k : Nat} {e : Ent} (he : es[k]? = some e) : PR es fs many (n + 1) (inB []) k none := ⟨e, he, .inl (.inl ⟨fun w _ => rfl, rfl⟩)⟩
theorem PR.whole {es fs : List Ent} {many n k : Nat} {e : Ent} (he : es[k]? = some e) {ws : List (List Nat)} (h : ∀ w ∈ (lvW es k).map Prod.fst, w ∈ ws) : PR es fs many (n + 1) (inB ws) k (some k) := ⟨e, he, .inl (.inr ⟨fun w hw => decide_eq_true (h w hw), rfl⟩)⟩
structure Done (C : Addr) (d : Nat) (H H' : Hp) (p : Addr) (A : LA) (ms ns : List Addr) (es : List Ent) (Lf Df : Nat → Nat) (k : Nat) (ws : List (List Nat)) (mm nn : List Addr) (xs : List Ent) (Lf' Df' Nf' : Nat → Nat) (r : Option Nat) : Prop where
  keep : Keep A.ls H H'
  led : LedAt C H' p A (ms ++ mm) (ns ++ nn) (es ++ xs)
  new : ∀ b ∈ nn, H b = none
  tree : Tree (es ++ xs) Lf' Df' Nf'
  same : ∀ i, i < es.length → Lf' i = Lf i ∧ Df' i = Df i
  parts : Parts es xs
  few : xs.length ≤ ws.length * (Df k + 1)
  right : PR es (es ++ xs) es.length d (inB ws) k r
  some : ∀ f, r = some f → f < (es ++ xs).length ∧ Lf' f = ws.length ∧ Df' f ≤ Df k
  none : r = none → ws = []
def spPat (C : Addr) (d : Nat) : Sp := fun vs H Q _ => ∃ (p L : Addr) (k : Nat) (A : LA) (ms ns : List Addr) (es : List Ent) (ts : List Addr) (ws : List (List Nat)) (Lf Df Nf : Nat → Nat), vs = [.ref p, .int (k : Int), .ref L] ∧ Df k < d ∧ LedAt C H p A ms ns es ∧ Tree es Lf Df Nf ∧ (∀ e ∈ es, e.mem.length ≤ 101) ∧ (∀ e ∈ es, e.mem ≠ [] → e.kind = sS) ∧ k < es.length ∧ H L = some (.lst (ts.map V.ref)) ∧ TwsAt H ts ws ∧ ws.Nodup ∧ (∀ w ∈ ws, w ∈ (lvW es k).map Prod.fst) ∧ es.length + ws.length * (Df k + 1) ≤ 90000 ∧
  ∀ (H' : Hp) (mm nn : List Addr) (xs : List Ent) (Lf' Df' Nf' : Nat → Nat) (r : Option Nat), Done C d H H' p A ms ns es Lf Df k ws mm nn xs Lf' Df' Nf' r → Q (optV r) H'
section
variable {P : Program} {w : World} {K : PySem.W.Frag} {mg : Str → Option Value} {base : Heap} {C fLv fMb fLk : Addr}
theorem pat0 {f : Addr} {fd : FuncData} {k : Nat} : FnOk P w K mg base CX0 k f fd aPat (spPat C 0) :=
  ⟨fun vs H Q E h => by obtain ⟨_, _, _, _, _, _, _, _, _, _, _, _, _, h, _⟩ := h; omega, fun A outer s H args us vs Q E _ _ _ _ h => by obtain ⟨_, _, _, _, _, _, _, _, _, _, _, _, _, h, _⟩ := h; omega⟩
structure PTx (K : PySem.W.Frag) (mg : Str → Option Value) (C fLv fMb fLk f : Addr) : Prop where
  cl : Cls K C
  mLv : Meth K C "leaves" fLv
  mMb : Meth K C "members" fMb
  mLk : Meth K C "like" fLk
  gR : mg "part_at" = some (.ref f)
  kR : PySem.W.keepIn K (.ref f) = true
  len : mg "len" = none
  srt : mg "sorted" = none
theorem patS {f : Addr} {fd dLv dMb dLk : FuncData} (F : Fun K "part_at" "part_at" sPat f fd) (T : PTx K mg C fLv fMb fLk f) (bR : Binds K fd aPat [])
    (FV : FnOk P w K mg base CX0 3 fLv dLv ["self", "k"] (spLvp C)) (bV : Binds K dLv ["self", "k"] []) (FM : FnOk P w K mg base CX0 3 fMb dMb ["self", "k"] (spGetL C fun e => memV e.mem)) (bM : Binds K dMb ["self", "k"] []) (FL : FnOk P w K mg base CX0 4 fLk dLk ["self", "k", "members"] (spLike K C)) (bL : Binds K dLk ["self", "k", "members"] [])
    {d : Nat} (FR : FnOk P w K mg base CX0 (4 + d) f fd aPat (spPat C d)) : FnOk P w K mg base CX0 (4 + d + 1) f fd aPat (spPat C (d + 1)) := by
  refine F.ok scPat (fun vs H Q E h => ?_) (fun cdv A0 outer s H vs Q Es hr h => ?_)
  · obtain ⟨p, L, k, A, ms, ns, es, ts, ws, Lf, Df, Nf, rfl, _⟩ := h
    rfl
  · obtain ⟨p, L, k, A, ms, ns, es, ts, ws, Lf, Df, Nf, rfl, hd, hL, T', h101, hsf, hk, eL, tw, wnd, wsub, hroom, kk⟩ := h
    have hr3 : Room 3 _ := hr.mono (by omega)
    have hr4 : Room 4 _ := hr.mono (by omega)
    have hu := hu_of hr
    refine ⟨_, pss_cons (ps_if (pt_not (pt_truth (pv 2) (fun _ => rfl))) (pss_one (ps_ret pe_non)) pss_nil)
      (pss_cons (ps_if (pt_cmpR op_eq (pe_callB call_len_seq (by rfl) T.len PySem.boot_len (pa_cons (pv 2) pa_nil)) (pe_callB call_len_seq (by rfl) T.len PySem.boot_len (pa_cons (pe_meth (pv 0) T.cl T.mLv FV hr3 bV .nil pass0 (pa_cons (pv 1) pa_nil)) pa_nil)) (nomark _)) (pss_one (ps_ret (pv 1))) pss_nil)
      (pss_cons (ps_set (i := 3) scPat.nd rfl (Or.inr rfl) pe_dnewK)
      (pss_cons (ps_for PassesOwn.never rfl (pi_list (pv 2)) (pg_name (i := 4) scPat.nd rfl (Or.inl rfl))
        (pss_one (ps_expr (pe_bm PySem.F.plainAttrs_list PySem.F.slot_list_append PySem.F.type_list_append mt_append (pe_dsetd (pv 3) (pe_ix ix_tup (pv 4) pe_int (fun _ _ => rfl)) (pe_lst pa_nil) ⟨by rfl, by rfl, by rfl, by rfl⟩) (pa_cons (pe_slice sl_tupA (pv 4) (po_some pe_int) po_none) pa_nil)))))
      (pss_cons (ps_set (i := 5) scPat.nd rfl (Or.inr rfl) (pe_meth (pv 0) T.cl T.mMb FM hr3 bM .nil pass0 (pa_cons (pv 1) pa_nil)))
      (pss_one (ps_ret (pe_meth (pv 0) T.cl T.mLk FL hr4 bL .nil pass0 (pa_cons (pv 1) (pa_cons (pe_lc (own := [("place", 6)]) (g := gName 6) (tt := tYes) (te := tCall (spPat C d) [] E0 (tCons (tVar 0) (tCons (tOp (rIxL K) (tVar 5) (tVar 6)) (tCons (tDGet (tVar 3) (tVar 6)) tNil)))) rfl scPat.nd
        (pi_list (pe_callB (call_sortedDA rfl) (by rfl) T.srt (by decide +kernel) (pa_cons (pv 3) pa_nil)))
        (blkOk_by (N := nPat) (sc := defScope sPat) (by decide +kernel)) (fun _ _ _ _ _ => pg_name (i := 6) scPat.nd rfl (Or.inl rfl)) (fun _ _ _ _ _ => pts_nil)
        (fun _ _ _ _ _ => by exact (pe_call FR hr rfl T.gR T.kR bR .nil pass0 (pa_cons (pv 0) (pa_cons (pe_ix ix_list (pv 5) (pv 6) (fun _ _ => rfl)) (pa_cons (pe_dget hu (pv 3) (pv 6) (fun _ _ => rfl)) pa_nil)))))) pa_nil))))))))), ?_⟩
    obtain ⟨f1, f2⟩ := T'.few k _ (List.getElem?_eq_getElem hk)
    have B0 := T'.back'
    have lvl : (lvW es k).length = Lf k := lvW_len T' (k + 1) k (Nat.lt_succ_self _) hk
    have lnd := lvW_nd B0 k
    have lml : ((lvW es k).map Prod.fst).length = Lf k := by rw [List.length_map, lvl]
    have ws101 : ws.length ≤ Lf k := by have := fewer wnd wsub; omega
    have ltw := tw.len
    have he := List.getElem?_eq_getElem hk
    generalize es[k] = e at he
    have lvp : 1 ≤ Lf k := (T'.pos k k (Nat.le_refl _) hk).1
    refine ⟨_, rfl, !(ts.map V.ref).isEmpty, .inl ⟨_, SqL.of eL, rfl⟩, ?_⟩
    by_cases z : ws = []
    · subst z
      have ets : ts = [] := List.length_eq_zero_iff.mp ltw
      rw [show (ts.map V.ref).isEmpty = true by rw [ets]; rfl]
      refine iteT ?_
      exact kk H [] [] [] Lf Df Nf none ⟨Keep.refl _ _, by rw [List.append_nil, List.append_nil, List.append_nil]; exact hL, fun b h => absurd h List.not_mem_nil, by rw [List.append_nil]; exact T', fun i _ => ⟨rfl, rfl⟩, Parts.nil es, Nat.zero_le _, PR.none he, (fun f h => by cases h), fun _ => rfl⟩
    have wpos : 1 ≤ ws.length := List.length_pos_iff.mpr z
    rw [show (ts.map V.ref).isEmpty = false by
      cases q : ts with
      | nil => rw [q] at ltw; simp at ltw; omega
      | cons a r => rfl]
    refine iteF ?_
    refine ⟨_, rfl, L, _, rfl, .inl (SqL.of eL), ?_⟩
    refine ⟨_, rfl, p, A.dx, _, rfl, hL.ins, flno A, _, rfl, p, A, ms, ns, es, k, Lf, Df, Nf, rfl, hL, T', hk, h101, fun H1 F ts1 fs k1 hF eF wF lv => ?_⟩
    refine ⟨F, _, rfl, .inl (SqL.of eF), rfl, _, rfl, ?_⟩
    have lF : ts1.length = Lf k := by rw [wF.len, lv.len]
    rw [List.length_map, List.length_map, lF, ltw]
    have hL1 := hL.keep k1 (fun b z => absurd z nin0) (fun b z => absurd z nin0)
    by_cases q : ws.length = Lf k
    · rw [decide_eq_true (show V.int (ws.length : Int) = V.int (Lf k : Int) by rw [q])]
      refine iteT ⟨_, rfl, ?_⟩
      exact kk H1 [] [] [] Lf Df Nf (some k) ⟨k1.more fun b z => absurd z nin0, by rw [List.append_nil, List.append_nil, List.append_nil]; exact hL1, fun b h => absurd h List.not_mem_nil, by rw [List.append_nil]; exact T', fun i _ => ⟨rfl, rfl⟩, Parts.nil es, Nat.zero_le _, PR.whole he (nd_all wnd wsub (by omega)), fun f h => by rw [← Option.some.inj h]; exact ⟨by rw [List.append_nil]; exact hk, q.symm, Nat.le_refl _⟩, fun h => by cases h⟩
    rw [decide_eq_false (show ¬ V.int (ws.length : Int) = V.int (Lf k : Int) from fun h => q (by have := V.int.inj h; omega))]
    refine iteF ?_
    have hne : e.mem ≠ [] := fun h => by
      have := (T'.leaf k e he h).1
      omega
    obtain ⟨n1, n2, n3, _⟩ := T'.nest k e he hne
    have hek := hsf e (List.mem_of_getElem? he) hne
    have bfew : ∀ {H0 G : Hp} {Bd : Addr} {bs : List (Nat × Addr)} {us : List (List Nat)}, (∀ w ∈ us, w ∈ ws) → BehAt H0 G Bd bs us → bs.length ≤ 101 := fun {H0 G Bd bs us} hu bh => by
      have := fewN (n := e.mem.length) bh.nd1 fun x hx => by
        obtain ⟨w, hw⟩ := (bh.all x).mp hx
        obtain ⟨j', v', e1, h2, _⟩ := (way_nest B0 he hne).mp (wsub _ (hu _ hw))
        rw [(List.cons.inj e1).1]; exact h2
      rw [List.length_map] at this
      have := h101 e (List.mem_of_getElem? he)
      omega
    intro Bd hBd
    refine ⟨_, rfl, L, rfl, ⟨_, SqL.of ((k1.newTo hBd).at eL nin0)⟩, ?_⟩
    refine for_list (xs := ts.map V.ref) (fun i σ G => ∃ (v4 : Option V) (bs : List (Nat × Addr)), σ = [some (.ref p), some (.int (k : Int)), some (.ref L), some (.ref Bd), v4, none, none] ∧ Keep [] H1 G ∧ BehAt H1 G Bd bs (ws.take i))
      ⟨none, [], rfl, Keep.new hBd, ⟨upd_same, List.nodup_nil, List.nodup_nil, fun b h => absurd h List.not_mem_nil, fun i => by simp, fun b h => absurd h List.not_mem_nil⟩⟩ ?_ ?_ ?_
    · rintro i σ G hi ⟨v4, bs, rfl, kG, bh⟩
      exact SqL.of ((k1.trans kG).at eL nin0)
    · rintro i x σ G hx ⟨v4, bs, rfl, kG, bh⟩
      rw [List.getElem?_map] at hx
      obtain ⟨t, ht, rfl⟩ := Option.map_eq_some_iff.mp hx
      have hil : i < ws.length := by rw [← ltw]; exact (List.getElem?_eq_some_iff.mp ht).1
      have hw := List.getElem?_eq_getElem hil
      generalize ws[i] = w0 at hw
      obtain ⟨t', ht', et⟩ := tw.at hw
      rw [ht] at ht'
      cases ht'
      have hwm := List.mem_of_getElem? hw
      obtain ⟨j, v, rfl, hj, hv⟩ := (way_nest B0 he hne).mp (wsub _ hwm)
      have etG := (k1.trans kG).at et nin0
      have blen := bfew (fun w hw => List.mem_of_mem_take hw) bh
      have wtk : ws.take (i + 1) = ws.take i ++ [j :: v] := by rw [List.take_add_one, hw]; rfl
      refine ⟨_, rfl, Bd, rfl, .inl ⟨_, .inl bh.dict⟩, _, rfl, t, _, _, .int (j : Int), rfl, rfl, SqT.of etG, (show atI (memV (j :: v)) ((0 : Nat) : Int) = some (V.int (j : Int)) from atI_nat rfl), Nat.zero_le _, fun y hy => ?_⟩
      have ky : Keep [] G (upd G y (.lst [])) := Keep.new hy
      have ey : (upd G y (.lst [])) y = some (.lst []) := upd_same
      generalize (upd G y (.lst [])) = G2 at ky ey ⊢
      have hy1 : H1 y = none := Keep.free kG hy nin0
      refine ⟨_, Sum.inl (j : Int), ky.at bh.dict nin0, rfl, Nat.lt_of_le_of_lt (by rw [behK_len]; omega : _ ≤ 1000) (by decide), fun v' hv' => ?_, fun hn => ?_⟩
      · by_cases hj : j ∈ bs.map Prod.fst
        · obtain ⟨b, hb, eb⟩ := List.mem_map.mp hj
          obtain ⟨b1, a⟩ := b
          obtain rfl : b1 = j := eb
          rw [behK_some bh.nd1 hb] at hv'
          obtain rfl := Option.some.inj hv'
          obtain ⟨tb, etb, wtb⟩ := bh.lists _ hb
          have etb : G a = some (.lst (tb.map V.ref)) := etb
          have wtb : TwsAt G tb (strip b1 (ws.take i)) := wtb
          refine ⟨.inl ⟨rfl, _, SqL.of (ky.at etb nin0)⟩, _, rfl, _, rfl, ?_⟩
          dsimp only [tNoPart]
          refine slA_one (ky.at etG nin0) fun c G3 k3 ec => ?_
          rw [show memV (b1 :: v) = V.int (b1 : Int) :: memV v from rfl, cut_one] at ec
          have k23 := ky.trans k3
          have ltb : tb.length ≤ 101 := by
            have h1 := wtb.len
            have h2 : (strip b1 (ws.take i)).length ≤ (ws.take i).length := by unfold strip; exact List.length_filterMap_le _ _
            rw [List.length_take] at h2
            omega
          refine ⟨a, _, _, rfl, rfl, k23.at etb nin0, Nat.lt_of_le_of_lt (by rw [List.length_map]; omega : (tb.map V.ref).length ≤ 1000) (by decide), ?_⟩
          refine ⟨_, bs, rfl, (kG.trans k23).freshTo (bh.new _ hb), ?_⟩
          rw [wtk]
          exact bh.more hb k23 etb wtb ec
        · rw [behK_none hj] at hv'
          cases hv'
      · have hj : j ∉ bs.map Prod.fst := fun hj => by
          obtain ⟨b, hb, eb⟩ := List.mem_map.mp hj
          obtain ⟨b1, a⟩ := b
          obtain rfl : b1 = j := eb
          rw [behK_some bh.nd1 hb] at hn
          cases hn
        rw [behK_put hj]
        have eB2 := ky.at bh.dict nin0
        have nyB : y ≠ Bd := ne_of ey eB2 (fun z => by cases z)
        have kB : Keep [Bd] G2 (upd G2 Bd (.dK (behK (bs ++ [(j, y)])))) := Keep.own in1
        have eB3 : (upd G2 Bd (.dK (behK (bs ++ [(j, y)])))) Bd = some (.dK (behK (bs ++ [(j, y)]))) := upd_same
        have hB1 : H1 Bd = none := hBd
        have kH : Keep [] H1 (upd G2 Bd (.dK (behK (bs ++ [(j, y)])))) := (kG.trans ky).freshTo hB1
        have ey3 := kB.at ey (nin1 nyB)
        have et3 := kB.at (ky.at etG nin0) (nin1 (ne_of (ky.at etG nin0) eB2 (fun z => by cases z)))
        generalize (upd G2 Bd (.dK (behK (bs ++ [(j, y)])))) = G3 at kB eB3 kH ey3 et3 ⊢
        refine ⟨.inl ⟨rfl, _, SqL.of ey3⟩, _, rfl, _, rfl, ?_⟩
        dsimp only [tNoPart]
        refine slA_one et3 fun c G4 k4 ec => ?_
        rw [show memV (j :: v) = V.int (j : Int) :: memV v from rfl, cut_one] at ec
        refine ⟨y, _, _, rfl, rfl, k4.at ey3 nin0, (by decide : 0 < sizeLine), ?_⟩
        refine ⟨_, bs ++ [(j, y)], rfl, (kH.trans k4).freshTo hy1, ?_⟩
        rw [wtk]
        exact bh.born hj hy hy1 (((ky.more fun b z => absurd z nin0).trans kB).trans (k4.more fun b z => absurd z nin0)) (k4.at eB3 nin0) (k4.at ey3 nin0) ec
    · rintro σ Gw ⟨v4, bs, rfl, kG, bh⟩
      rw [List.length_map, ltw, List.take_length] at bh
      have k1G := k1.trans kG
      have hLG := hL.keep k1G (fun b z => absurd z nin0) (fun b z => absurd z nin0)
      refine ⟨_, rfl, p, A.dx, _, rfl, hLG.ins, flno A, _, rfl, p, A, ms, ns, es, k, e, rfl, hLG, he, fun M hM => ?_⟩
      have kM : Keep [] Gw (upd Gw M (.lst (memV e.mem))) := Keep.new hM
      have eM : (upd Gw M (.lst (memV e.mem))) M = some (.lst (memV e.mem)) := upd_same
      generalize (upd Gw M (.lst (memV e.mem))) = G2 at kM eM ⊢
      have k12 := k1G.trans kM
      have hL2 := hL.keep k12 (fun b z => absurd z nin0) (fun b z => absurd z nin0)
      have eB2 := kM.at bh.dict nin0
      refine ⟨_, rfl, p, A.dx, _, rfl, hL2.ins, flno A, _, rfl, _, rfl, Bd, behK bs, bs.map fun b => (b.1 : Int), rfl, .inl eB2, behK_keys bs, ?_, fun ys Y pm pw hY => ?_⟩
      · have := bfew (fun w hw => hw) bh
        rw [List.length_map]
        omega
      have eP : ∀ i, i ∈ plcs es (inB ws) e ↔ i ∈ bs.map Prod.fst := fun i => (plcs_ways B0 he hne wsub).trans (bh.all i).symm
      have eys := ys_plcs bh.nd1 pm pw (plcs_lt es (inB ws) e) eP
      have Plt := plcs_lt es (inB ws) e
      have Pw : ∀ i, i ∈ plcs es (inB ws) e ↔ ∃ w, i :: w ∈ ws := fun i => plcs_ways B0 he hne wsub
      have hplc : plcs es (inB ws) e = plcs es (inB ws) e := rfl
      generalize hPs : plcs es (inB ws) e = Ps at eP eys Plt Pw
      subst eys
      have Pnd : Ps.Nodup := Plt.imp fun h => Nat.ne_of_lt h
      have Psub : ∀ i ∈ Ps, i < e.mem.length := fun i hi => by
        obtain ⟨w, hw⟩ := (Pw i).mp hi
        exact (strip_sub B0 he hne wsub i w (mem_strip.mpr hw)).1
      have Psum : (Ps.map fun i => (strip i ws).length).sum = ws.length := sum_strip Pnd fun w hw => by
        obtain ⟨i, v, e1, _, _⟩ := (way_nest B0 he hne).mp (wsub w hw)
        exact ⟨i, v, e1, (Pw i).mpr ⟨v, by rw [← e1]; exact hw⟩⟩
      have Pne : Ps ≠ [] := fun h => by rw [h] at Psum; simp at Psum; omega
      have kY : Keep [] G2 (upd G2 Y (.lst ((Ps.map fun n : Nat => (n : Int)).map V.int))) := Keep.new hY
      have eY : (upd G2 Y (.lst ((Ps.map fun n : Nat => (n : Int)).map V.int))) Y = some (.lst ((Ps.map fun n : Nat => (n : Int)).map V.int)) := upd_same
      generalize (upd G2 Y (.lst ((Ps.map fun n : Nat => (n : Int)).map V.int))) = G3 at kY eY ⊢
      have kG3 := k12.trans kY
      have hL3 := hL.keep kG3 (fun b z => absurd z nin0) (fun b z => absurd z nin0)
      have eM3 := kY.at eM nin0
      have bh3 := (kM.trans kY)
      have eB3 := kY.at eB2 nin0
      have offA : ∀ {G : Hp} {b : Addr}, LedAt C H p A ms ns es → H b = none → b ∉ A.ls := fun {G b} l hb z => by
        obtain ⟨xs, q⟩ := l.isl b z
        rw [hb] at q; cases q
      have nA : ∀ {b : Addr}, H b = none → b ∉ A.ls := fun hb => offA (G := H) hL hb
      refine ⟨Y, rfl, ⟨_, SqL.of eY⟩, fun D hD => ?_⟩
      have hD0 : H D = none := Keep.free kG3 hD nin0
      have old : ∀ {b : Addr}, G3 b = none → H b = none := fun hb => Keep.free kG3 hb nin0
      refine lc_list (K := K) (a := Y) (xs := (Ps.map fun n : Nat => (n : Int)).map V.int) (fun t G => ∃ (mm nn : List Addr) (xs : List Ent) (Lf' Df' Nf' : Nat → Nat) (acc : List Nat), G D = some (.lst (memV acc)) ∧ Keep A.ls G3 G ∧ LedAt C G p A (ms ++ mm) (ns ++ nn) (es ++ xs) ∧ (∀ b ∈ nn, H b = none ∧ b ≠ D) ∧ Tree (es ++ xs) Lf' Df' Nf' ∧ (∀ i, i < es.length → Lf' i = Lf i ∧ Df' i = Df i) ∧ Parts es xs ∧
          xs.length ≤ (((Ps.map fun i => (strip i ws).length).take t).sum) * Df k ∧ acc.length = t ∧ ∀ (j i m : Nat), Ps[j]? = some i → acc[j]? = some m → PR es (es ++ xs) es.length d (inB (strip i ws)) (e.mem.getD i 0) (some m) ∧ m < (es ++ xs).length ∧ Lf' m = (strip i ws).length ∧ Df' m + 1 ≤ Df k)
        ⟨[], [], [], Lf, Df, Nf, [], upd_same, Keep.new hD, by rw [List.append_nil, List.append_nil, List.append_nil]; exact hL3.keep (Keep.new hD) (fun b z => absurd z nin0) (fun b z => absurd z nin0), fun b h => absurd h List.not_mem_nil, by rw [List.append_nil]; exact T', fun i _ => ⟨rfl, rfl⟩, Parts.nil es, Nat.zero_le _, rfl, fun j i m _ h => by simp at h⟩ (fun t G _ hI => ?_) (fun t x G hx hI => ?_) (fun G hI => ?_)
      · obtain ⟨mm, nn, xs, Lf', Df', Nf', acc, _, kG', _⟩ := hI
        exact SqL.of (kG'.at eY (nA (Keep.free k12 hY nin0)))
      · obtain ⟨mm, nn, xs, Lf', Df', Nf', acc, eD, kG', led, fr, Tr, sm, pt, xl, al, res⟩ := hI
        rw [List.map_map, List.getElem?_map] at hx
        obtain ⟨i, hi, rfl⟩ := Option.map_eq_some_iff.mp hx
        have him := List.mem_of_getElem? hi
        have hil := Psub i him
        have hk' := getD_mem hil
        generalize hkk : e.mem.getD i 0 = k' at hk'
        have hkl : k' < k := T'.back k e he k' hk'
        have hdk := n3 k' hk'
        have hem := List.getElem?_eq_getElem hil
        have hgd : e.mem[i] = k' := by rw [← hkk, List.getD_eq_getElem?_getD, hem]; rfl
        rw [hgd] at hem
        obtain ⟨b, hb, hbi⟩ := List.mem_map.mp ((eP i).mp him)
        obtain ⟨b1, a⟩ := b
        obtain rfl : b1 = i := hbi
        obtain ⟨ta, eta, wta⟩ := bh.lists _ hb
        have eta : Gw a = some (.lst (ta.map V.ref)) := eta
        have hM0 : H M = none := Keep.free k1G hM nin0
        have hB0 : H Bd = none := Keep.free k1 hBd nin0
        have ha0 : H a = none := Keep.free k1 (bh.new _ hb) nin0
        have eMG := kG'.at eM3 (nA hM0)
        have eBG := kG'.at eB3 (nA hB0)
        have eaG := kG'.at (bh3.at eta nin0) (nA ha0)
        have tupG : ∀ (b : Addr) (ys : List V), Gw b = some (.tup ys) → G b = some (.tup ys) := fun b ys q => kG'.at (bh3.at q nin0) fun z => by
          obtain ⟨zs, q2⟩ := hL3.isl b z
          rw [bh3.at q nin0] at q2; cases q2
        have wtaG := TwsAt.map tupG wta
        have nDA : D ∉ A.ls := nA hD0
        have hkX : k' < (es ++ xs).length := by rw [List.length_append]; omega
        have hB' : Back (es ++ xs) := Tr.back'
        have lvk : lvW (es ++ xs) k' = lvW es k' := lvW_app B0 (by omega)
        obtain ⟨s1, s2⟩ := sm k' (by omega)
        have sne : strip b1 ws ≠ [] := fun h => by
          obtain ⟨w, hw⟩ := (Pw b1).mp him
          have := mem_strip.mpr hw
          rw [h] at this; exact absurd this List.not_mem_nil
        have lsn : ((Ps.map fun i => (strip i ws).length).take (t + 1)) = ((Ps.map fun i => (strip i ws).length).take t) ++ [(strip b1 ws).length] := by
          rw [List.take_add_one, List.getElem?_map, hi]; rfl
        have stk := sum_take_le (Ps.map fun i => (strip i ws).length) (t + 1)
        rw [lsn, List.sum_append, List.sum_singleton, Psum] at stk
        have room2 : (((Ps.map fun i => (strip i ws).length).take t).sum + (strip b1 ws).length) * Df k ≤ ws.length * Df k := Nat.mul_le_mul_right _ stk
        rw [Nat.add_mul] at room2
        have room3 : (strip b1 ws).length * (Df' k' + 1) ≤ (strip b1 ws).length * Df k := Nat.mul_le_mul_left _ (by rw [s2]; exact hdk)
        have room4 : ws.length * (Df k + 1) = ws.length * Df k + ws.length := by rw [Nat.mul_add, Nat.mul_one]
        refine ⟨rfl, tyes ?_⟩
        refine ⟨_, rfl, _, rfl, _, rfl, M, memV e.mem, (b1 : Int), .int (k' : Int), rfl, rfl, SqL.of eMG, atI_nat (by rw [List.getElem?_map, hem]; rfl), _, rfl, _, rfl, Bd, .ref a, rfl, ?_, ?_⟩
        · have := DGet.k (k := Sum.inl (b1 : Int)) eBG
          rw [behK_some bh.nd1 hb] at this
          exact this
        refine ⟨p, a, k', A, ms ++ mm, ns ++ nn, es ++ xs, ta, strip b1 ws, Lf', Df', Nf', rfl, by omega, led, Tr, pt.all (p := fun e => e.mem.length ≤ 101) h101 (fun e _ _ h => h), pt.all (p := fun e => e.mem ≠ [] → e.kind = sS) hsf (fun e h _ _ _ => h), hkX, eaG, wtaG, strip_nd wnd, fun w hw => by
          rw [lvk]
          have := (strip_sub B0 he hne wsub b1 w hw).2
          rw [hkk] at this; exact this, by rw [List.length_append]; omega, fun H' mm' nn' xs' Lf2 Df2 Nf2 r dn => ?_⟩
        cases r with
        | none => exact absurd (dn.none rfl) sne
        | some m' =>
          obtain ⟨d1, d2, d3⟩ := dn.some m' rfl
          have eD' := dn.keep.at eD nDA
          have kD : Keep [D] H' (upd H' D (.lst (memV acc ++ [optV (some m')]))) := Keep.own in1
          have lacc : acc.length ≤ 101 := by
            have h1 := (List.getElem?_eq_some_iff.mp hi).1
            have h2 := fewN (n := e.mem.length) Pnd Psub
            have h3 := h101 e (List.mem_of_getElem? he)
            omega
          have nDn : D ∉ A.ls ++ (ns ++ nn ++ nn') := fun z => by
            rcases List.mem_append.mp z with z | z
            · exact nDA z
            · rcases List.mem_append.mp z with z | z
              · rcases List.mem_append.mp z with z | z
                · obtain ⟨ys, q⟩ := hL.notes.is D z
                  rw [hD0] at q; cases q
                · exact (fr D z).2 rfl
              · have := dn.new D z
                rw [eD] at this; cases this
          have led2 := dn.led.keep kD (fun b hb => by rw [List.mem_singleton.mp hb]; exact nDn) (fun b hb => by rw [List.mem_singleton.mp hb]; exact ⟨_, eD'⟩)
          have GA : ∀ {b : Addr}, G b = none → b ∉ A.ls := fun {b} hb z => by
            obtain ⟨ys, q⟩ := led.isl b z
            rw [hb] at q; cases q
          have kHG : Keep A.ls H G := (kG3.more fun b z => absurd z nin0).trans kG'
          refine ⟨_, eD', Nat.lt_of_le_of_lt (by rw [List.length_map]; omega : (memV acc).length ≤ 1000) (by decide), mm ++ mm', nn ++ nn', xs ++ xs', Lf2, Df2, Nf2, acc ++ [m'], ?_, (kG'.trans dn.keep).freshTo hD, ?_, fun b hb => ?_, ?_, fun i hi => ?_, pt.app dn.parts, ?_, by rw [List.length_append, al]; rfl, fun j i m hj hm => ?_⟩
          · rw [upd_same]; unfold memV; rw [List.map_append]; rfl
          · rw [← List.append_assoc, ← List.append_assoc, ← List.append_assoc]; exact led2
          · rcases List.mem_append.mp hb with z | z
            · exact fr b z
            · have hbG := dn.new b z
              exact ⟨Keep.free kHG hbG (GA hbG), fun q => by rw [q, eD] at hbG; cases hbG⟩
          · rw [← List.append_assoc]; exact dn.tree
          · obtain ⟨g1, g2⟩ := sm i hi
            obtain ⟨g3, g4⟩ := dn.same i (by rw [List.length_append]; omega)
            exact ⟨g3.trans g1, g4.trans g2⟩
          · rw [lsn, List.sum_append, List.sum_singleton, List.length_append, Nat.add_mul]
            have := dn.few
            omega
          · by_cases hjt : j < acc.length
            · rw [List.getElem?_append_left hjt] at hm
              obtain ⟨r1, r2, r3, r4⟩ := res j i m hj hm
              obtain ⟨g3, g4⟩ := dn.same m r2
              refine ⟨PR.up (Nat.le_refl _) (fun f e' _ hf => ?_) r1, ?_, g3.trans r3, by rw [g4]; exact r4⟩
              · rw [← List.append_assoc, List.getElem?_append_left (List.getElem?_eq_some_iff.mp hf).1]; exact hf
              · rw [← List.append_assoc, List.length_append]; omega
            · rw [List.getElem?_append_right (by omega)] at hm
              have hj0 : j = t := by
                have := (List.getElem?_eq_some_iff.mp hm).1
                simp at this
                omega
              subst hj0
              rw [hi] at hj
              obtain rfl := Option.some.inj hj
              have em : m' = m := by rw [al, Nat.sub_self] at hm; simpa using hm
              subst em
              rw [← List.append_assoc]
              refine ⟨?_, d1, d2, by rw [s2] at d3; omega⟩
              rw [hkk]
              refine PR.up (by rw [List.length_append]; omega) (fun f e' _ h => h) (PR.two hB' (top := k') (fun i hi => List.getElem?_append_left (by omega)) (Nat.le_refl _) (fun w _ => rfl) dn.right)
      · obtain ⟨mm, nn, xs, Lf', Df', Nf', acc, eD, kG', led, fr, Tr, sm, pt, xl, al, res⟩ := hI
        rw [List.length_map, List.length_map] at al xl
        rw [List.take_of_length_le (by rw [List.length_map]; exact Nat.le_refl _), Psum] at xl
        have lres : ∀ m ∈ acc, m < (es ++ xs).length ∧ Df' m + 1 ≤ Df k := fun m hm => by
          obtain ⟨j, hj⟩ := List.mem_iff_getElem?.mp hm
          have hjl : j < Ps.length := by rw [← al]; exact (List.getElem?_eq_some_iff.mp hj).1
          obtain ⟨_, r2, _, r4⟩ := res j _ m (List.getElem?_eq_getElem hjl) hj
          exact ⟨r2, r4⟩
        have ane : acc ≠ [] := fun h => by rw [h] at al; exact Pne (List.length_eq_zero_iff.mp al.symm)
        have heX : (es ++ xs)[k]? = some e := by rw [List.getElem?_append_left hk]; exact he
        have room4 : ws.length * (Df k + 1) = ws.length * Df k + ws.length := by rw [Nat.mul_add, Nat.mul_one]
        have lX : (es ++ xs).length ≤ 90000 := by rw [List.length_append]; omega
        have lacc : acc.length ≤ 101 := by
          have h2 := fewN (n := e.mem.length) Pnd Psub
          have h3 := h101 e (List.mem_of_getElem? he)
          omega
        refine ⟨p, D, A, ms ++ mm, ns ++ nn, es ++ xs, k, e, acc, rfl, led, heX, hek, SqL.of eD, nA hD0, ane, fun m hm => (lres m hm).1, by omega, fun H' t' n' kL ledL hn' => ?_⟩
        have kHG : Keep A.ls H G := (kG3.more fun b z => absurd z nin0).trans kG'
        have GA : ∀ {b : Addr}, G b = none → b ∉ A.ls := fun {b} hb z => by
          obtain ⟨ys, q⟩ := led.isl b z
          rw [hb] at q; cases q
        obtain ⟨mt, hmt, htop⟩ := list_top (f := Df') ane
        have hdt := (lres mt hmt).2
        have sums : (acc.map Lf').sum = ws.length := by
          rw [← Psum]
          refine congrArg List.sum (List.ext_getElem (by rw [List.length_map, List.length_map, al]) fun j h1 h2 => ?_)
          rw [List.length_map] at h1 h2
          rw [List.getElem_map, List.getElem_map]
          exact (res j _ _ (List.getElem?_eq_getElem h2) (List.getElem?_eq_getElem h1)).2.2.1
        have Tn := Tr.snoc (e := ⟨sS, e.text, acc, e.notes, e.cause, e.atw⟩) (a := ws.length) (d := Df' mt + 1) (fun m hm => (lres m hm).1) (by rw [if_neg ane]; exact sums.symm) (by omega) (by omega) (fun h => absurd h ane) (fun m hm => by have := htop m hm; omega) (fun _ => ⟨mt, hmt, rfl⟩)
        refine kk H' (mm ++ [t']) (nn ++ [n']) (xs ++ [⟨sS, e.text, acc, e.notes, e.cause, e.atw⟩]) _ _ _ (some (es ++ xs).length) ⟨kHG.trans kL, ?_, fun b hb => ?_, by rw [← List.append_assoc]; exact Tn, fun i hi => ?_, ?_, ?_, ?_, fun f hf => ?_, fun h => by cases h⟩
        · rw [← List.append_assoc, ← List.append_assoc, ← List.append_assoc]; exact ledL
        · rcases List.mem_append.mp hb with z | z
          · exact (fr b z).1
          · rw [List.mem_singleton.mp z]; exact Keep.free kHG hn' (GA hn')
        · have hi2 : i < (es ++ xs).length := by rw [List.length_append]; omega
          rw [put_old hi2, put_old hi2]
          exact sm i hi
        · exact pt.app (Parts.one heX rfl ane lacc (fun m hm => (lres m hm).1) ⟨hne, rfl, rfl, rfl, rfl⟩)
        · rw [List.length_append, List.length_singleton]; omega
        · refine ⟨e, he, .inr ⟨?_, ?_, (es ++ xs).length, (⟨sS, e.text, acc, e.notes, e.cause, e.atw⟩ : Ent), rfl, by rw [List.length_append]; omega, by rw [← List.append_assoc, List.getElem?_append_right (Nat.le_refl _), Nat.sub_self]; rfl, ⟨rfl, rfl, rfl, rfl, rfl⟩, ?_, fun t i m ht hm => ?_⟩⟩
          · obtain ⟨w, hw⟩ := List.exists_mem_of_ne_nil _ z
            exact ⟨w, wsub w hw, decide_eq_true hw⟩
          · obtain ⟨w, h1, h2⟩ := nd_out lnd (ws := ws) (by omega)
            exact ⟨w, h1, decide_eq_false h2⟩
          · rw [hPs]; exact al
          · rw [hPs] at ht
            have r1 := (res t i m ht hm).1
            refine PR.up (Nat.le_refl _) (fun f e' _ hf => ?_) (PR.two B0 (top := k) (fun i _ => rfl) (Nat.le_of_lt (T'.back k e he _ (getD_mem (Psub i (List.mem_of_getElem? ht))))) (fun w _ => ?_) r1)
            · rw [← List.append_assoc, List.getElem?_append_left (List.getElem?_eq_some_iff.mp hf).1]; exact hf
            · show decide (w ∈ strip i ws) = decide (i :: w ∈ ws)
              exact decide_eq_decide.mpr mem_strip
        · rw [← Option.some.inj hf, put_same, put_same]
          refine ⟨?_, rfl, hdt⟩
          rw [← List.append_assoc, List.length_append (as := es ++ xs), List.length_singleton]
          exact Nat.lt_succ_self _
theorem ok_pat {f : Addr} {fd dLv dMb dLk : FuncData} (F : Fun K "part_at" "part_at" sPat f fd) (T : PTx K mg C fLv fMb fLk f) (bR : Binds K fd aPat [])
    (FV : FnOk P w K mg base CX0 3 fLv dLv ["self", "k"] (spLvp C)) (bV : Binds K dLv ["self", "k"] []) (FM : FnOk P w K mg base CX0 3 fMb dMb ["self", "k"] (spGetL C fun e => memV e.mem)) (bM : Binds K dMb ["self", "k"] []) (FL : FnOk P w K mg base CX0 4 fLk dLk ["self", "k", "members"] (spLike K C)) (bL : Binds K dLk ["self", "k", "members"] []) : ∀ d : Nat, FnOk P w K mg base CX0 (4 + d) f fd aPat (spPat C d)
  | 0 => pat0
  | d + 1 => patS F T bR FV bV FM bM FL bL (ok_pat F T bR FV bV FM bM FL bL d)
end
end Fs
/-! The scene, when the ledger has been made. -/
namespace Fs
open PySem L2 TL
theorem IsNm.short {z : Str} (h : IsNm z) : z.cps.toList.length ≤ 8 ∧ ∀ c ∈ z.cps.toList, c < 128 := ⟨h.2.1, fun c hc => by
  have := h.2.2 c hc
  unfold small at this
  simp only [Bool.and_eq_true, decide_eq_true_eq] at this
  omega⟩
theorem Wf.short {ps : List (Str × Str)} (h : Wf ps) : ∀ x ∈ ps.map Prod.fst, x.cps.toList.length ≤ 8 ∧ ∀ c ∈ x.cps.toList, c < 128 := by
  induction h with
  | nil => exact fun x h => absurd h List.not_mem_nil
  | @snoc ps z y hw hz hn hy ih =>
    intro x hx
    rw [List.map_append] at hx
    rcases List.mem_append.mp hx with v | v
    · exact ih x v
    · have e : x = z := by simpa using v
      rw [e]; exact hz.short
theorem allK_short {ps : List (Str × Str)} (h : Wf ps) {x : Str} (hx : x ∈ allK ps) : x.cps.toList.length ≤ 8 ∧ ∀ c ∈ x.cps.toList, c < 128 := by
  rcases List.mem_cons.mp hx with z | z
  · rw [z]; decide +kernel
  · rcases List.mem_cons.mp z with z | z
    · rw [z]; decide +kernel
    · exact h.short x z
theorem Fresh.sm {ps : List (Str × Str)} {i n : Nat} {e : Ent} (hw : Wf ps) (h : Fresh ps i e) (hn : i ≤ n) : SmC ps n 0 e := by
  obtain ⟨h1, h2, h3, h4, h5, h6, h7⟩ := h
  obtain ⟨a, b⟩ := allK_short hw (kind_all h7)
  exact ⟨⟨a, b, h1, h2, fun k hk => Nat.lt_of_lt_of_le (h3 k hk) hn, ⟨by rw [h4]; exact Nat.zero_le _, fun z hz => by rw [h4] at hz; exact absurd hz List.not_mem_nil⟩, (fun y hy => by rw [h5] at hy; cases hy), fun y hy => by rw [h6] at hy; cases hy⟩, by rw [h4]; exact Nat.le_refl _, h7⟩
theorem Built.sm {ps : List (Str × Str)} {es : List Ent} (hw : Wf ps) (h : Built ps es) : ∀ e ∈ es, SmC ps es.length 0 e := fun e he => by
  obtain ⟨i, hi⟩ := List.mem_iff_getElem?.mp he
  exact (h i e hi).sm hw (Nat.le_of_lt (List.getElem?_eq_some_iff.mp hi).1)
theorem Built.row {ps : List (Str × Str)} {es : List Ent} (h : Built ps es) : Row es :=
  ⟨⟨fun _ => 0, fun x e y he a => by rw [(h x e he).2.2.2.2.2.1] at a; cases a⟩, fun x e y he a => by rw [(h x e he).2.2.2.2.2.1] at a; cases a⟩
/-- no row's list is what isn't a list -/
theorem RowsAt.also {bad : List Addr} {H : Hp} {q : Addr} (hq : ∀ xs, H q ≠ some (.lst xs)) : ∀ {as : List Addr} {es : List Ent}, RowsAt bad H as es → RowsAt (q :: bad) H as es
  | [], [], _ => True.intro
  | _ :: as, _ :: es, h => by
    obtain ⟨⟨m, n, b1, b2, b3, e1, e2, e3⟩, t⟩ := h
    have no : ∀ {a xs}, H a = some (.lst xs) → a ∉ bad → a ∉ q :: bad := fun e b z => by
      rcases List.mem_cons.mp z with z | z
      · rw [z] at e; exact hq _ e
      · exact b z
    exact ⟨⟨m, n, no e1 b1, no e2 b2, no e3 b3, e1, e2, e3⟩, RowsAt.also hq t⟩
  | [], _ :: _, h => h.elim
  | _ :: _, [], h => h.elim
/-- nor what wasn't there -/
theorem RowsAt.alsoN {bad : List Addr} {H : Hp} {as : List Addr} {es : List Ent} (h : RowsAt bad H as es) : ∀ l : List Addr, (∀ b ∈ l, H b = none) → RowsAt (l ++ bad) H as es
  | [], _ => h
  | b :: l, hl => (RowsAt.alsoN h l fun x hx => hl x (List.mem_cons_of_mem _ hx)).also fun xs e => by rw [hl b List.mem_cons_self] at e; cases e
section
variable {C CK : Addr} {ps : List (Str × Str)} {p l X E q Pt : Addr} {tx : List Str} {H2 H3 H4 : Hp} {es : List Ent} {rs ms ns : List Addr} {A : LA} {Lf Df Nf : Nat → Nat} {n : Nat} {tb : Array Value}
theorem Sc.make (pot2 : PotAt H2 p n) (prs2 : PairsAt H2 l ps) (hw : Wf ps) (few : ps.length ≤ 100) (nlp : l ≠ p) (htx : TxsOk tx) (hX2 : H2 X = some (.lst (tx.map V.str))) (nXp : X ≠ p) (fa : FaAt ps Lf Df Nf H2 H3 p E es rs) (pos : 0 < es.length) (len : es.length ≤ 10000)
    {m : Nat} (pot3 : PotAt H3 p m) (hPt : H3 Pt = some (.tbl tb)) (kL : Keep [Pt] H3 H4) (fA : ∀ b ∈ A.ls, H3 b = none) (led : LedAt C H4 q A ms ns es) (fN : ∀ b ∈ ns, H3 b = none) (kin : KindsAt CK H4 A.kd ps) : Sc C CK ps 0 p l X tx H4 ⟨q, A, ms, ns, E, rs⟩ es := by
  obtain ⟨xp, ep2⟩ := pot2.some
  have nEp : E ≠ p := fun z => by have := fa.E0; rw [z, ep2] at this; cases this
  have lst : ∀ {b xs}, H3 b = some (.lst xs) → b ≠ Pt := fun e z => by rw [z, hPt] at e; cases e
  have k23 := fa.keep
  have fAN : ∀ b ∈ A.ls ++ ns, H3 b = none := fun b hb => by
    rcases List.mem_append.mp hb with z | z
    · exact fA b z
    · exact fN b z
  have tabno : ∀ xs, H3 Pt ≠ some (.lst xs) := fun xs z => by rw [hPt] at z; cases z
  have hl2 := prs2
  obtain ⟨xl, el2⟩ := prs2.some
  have el3 := k23.at el2 (nin1 nlp)
  have eX3 := k23.at hX2 (nin1 nXp)
  -- p, in the heap H3
  have prs3 : PairsAt H3 l ps := prs2.keep k23 (nin1 nlp) (lst_no (pot_lst pot2))
  have prs4 : PairsAt H4 l ps := prs3.keep kL (nin1 (lst el3)) fun b hb => by rw [List.mem_singleton.mp hb]; exact ⟨_, hPt, fun _ z => nomatch z⟩
  have free : ∀ b, H3 b = none → b ≠ p → H2 b = none := fun b hb np => Keep.free k23 hb (nin1 np)
  have rows4 : RowsAt (p :: E :: (A.ls ++ ns)) H4 rs es := by
    have h := ((fa.rows.alsoN (A.ls ++ ns) fAN).also tabno).keep (kL.more fun b hb => by rw [List.mem_singleton.mp hb]; exact List.mem_cons_self)
    refine h.less fun a ha => ?_
    simp only [List.mem_cons, List.mem_append] at ha ⊢
    rcases ha with z | z | z | z <;> simp [z]
  obtain ⟨x3, ep3⟩ := pot3.some
  have no : ∀ {b xs}, H3 b = some (.lst xs) → b ∉ A.ls ++ ns := fun e z => by rw [fAN _ z] at e; cases e
  have noR : ∀ {b xs}, H2 b = some (.lst xs) → b ∉ rs := fun e z => by rw [fa.fresh _ z] at e; cases e
  have ent4 := kL.at fa.ent (nin1 (lst fa.ent))
  have nz : ∀ {b xs ys}, H2 b = some (.lst xs) → H3 b = some (.lst ys) → b ≠ p → b ∉ p :: (A.ls ++ (ns ++ rs)) := fun e2 e3 np z => by
    rcases List.mem_cons.mp z with z | z
    · exact np z
    · rcases List.mem_append.mp z with z | z
      · exact no e3 (List.mem_append_left _ z)
      · rcases List.mem_append.mp z with z | z
        · exact no e3 (List.mem_append_right _ z)
        · exact noR e2 z
  have nE : E ∉ A.ls ++ ns := no fa.ent
  have np : p ∉ E :: (A.ls ++ ns) := fun z => by
    rcases List.mem_cons.mp z with z | z
    · exact nEp z.symm
    · exact no ep3 z
  exact ⟨⟨led, kin, ent4, rows4, fa.nd, nE, np, ⟨Lf, Df, Nf, fa.tree⟩, fa.built.sm hw, fa.built.row⟩, prs4, hw, few, htx, kL.at eX3 (nin1 (lst eX3)), nz el2 el3 nlp, nz hX2 eX3 nXp, pos, len⟩
end
end Fs
/-! The leaves of a fault, as the law finds them. -/
namespace Fs
open PySem L2 TL
abbrev sLvs : Stmt := top 46 --def _law_leaves
abbrev nLvs : List Str := ["_law_faults_here", "_law_k", "_law_found", "_law_waiting", "_law_way", "_law_here", "_law_members_here", "_law_steps", "_law_place", "_law_one"]
theorem scLvs : FnScope nLvs ["_law_faults_here", "_law_k"] (defScope sLvs) := ⟨rfl, rfl, rfl, by decide +kernel, rfl, by decide +kernel, by decide +kernel⟩
abbrev bLvs : List Stmt := inWhile ((defBody sLvs).getD 2 (.Pass ⟨0, 0, 0, 0⟩))
def spLvs : Sp := fun vs H Q _ => ∃ (E : Addr) (k : Nat) (bad rs : List Addr) (es : List Ent) (Lf Df Nf : Nat → Nat), vs = [.ref E, .int (k : Int)] ∧ H E = some (.lst (rs.map V.ref)) ∧ RowsAt bad H rs es ∧ Tree es Lf Df Nf ∧ k < es.length ∧ (∀ e ∈ es, e.mem.length ≤ 101) ∧
  ∀ (H' : Hp) (F : Addr) (ts : List Addr) (fs : List WH), Keep [] H H' → H F = none → H' F = some (.lst (ts.map V.ref)) → WaysAt H' ts fs → LvsAt es Lf Df k fs → Q (.ref F) H'
section
variable {P : Program} {w : World} {K : PySem.W.Frag} {mg : Str → Option Value} {base : Heap}
theorem ok_lvs {f : Addr} {fd : FuncData} (F : Fun K "_law_leaves" "_law_leaves" sLvs f fd) (mE : mg "enumerate" = none) : FnOk P w K mg base CX0 1 f fd ["_law_faults_here", "_law_k"] spLvs := by
  refine F.ok scLvs (fun vs H Q E h => ?_) (fun cdv A outer s H vs Q Es hr h => ?_)
  · obtain ⟨E, k, bad, rs, es, Lf, Df, Nf, rfl, _⟩ := h
    rfl
  · obtain ⟨E, k, bad, rs, es, Lf, Df, Nf, rfl, hE, hR, T, hk, h6, kk⟩ := h
    obtain ⟨tt, htt, rtt⟩ : ∃ t, PSs (cxOf CX0 P w K mg base nLvs "_law_leaves" (defScope sLvs) f cdv A outer s H Es).nox (bLvs.drop 3) t ∧ ∀ (De : Ends) (v0 v1 v2 v5 v7 v8 v9 : Option V) (W a mm : Addr) (wy mem : List Nat) (ts' : List Addr) (G : Hp), G a = some (.tup (memV wy)) → G mm = some (.lst (memV mem)) → G W = some (.lst (ts'.map V.ref)) → wy.length ≤ 100 → mem.length ≤ 101 → ts'.length ≤ 5000 →
        (∀ (v7 v8 v9 : Option V) (Gm : Hp) (tsK : List Addr), Keep [] G Gm → WaysAt Gm tsK (kidsN wy mem mem.length) → De.nx [v0, v1, v2, some (.ref W), some (.ref a), v5, some (.ref mm), v7, v8, v9] (upd Gm W (.lst ((ts' ++ tsK).map V.ref)))) → t De [v0, v1, v2, some (.ref W), some (.ref a), v5, some (.ref mm), v7, v8, v9] G := by
      refine ⟨_, pss_cons (ps_setLc (i := 7) (own := [("_law_place", 8), ("_law_one", 9)]) (g := gTup K 2 (gCons (gName 8) (gCons (gName 9) gNil))) (tt := tYes) (te := tTup (tCons (tOp (rCatA K) (tVar 4) (tTup (tCons (tVar 8) tNil))) (tCons (tVar 9) tNil))) rfl scLvs.nd rfl rfl (sw_true rfl rfl rfl (by decide +kernel)) (pi_enum rfl mE (pa_cons (pv 6) pa_nil))
          (blkOk_by (N := nLvs) (sc := defScope sLvs) (by decide +kernel)) (fun _ _ _ _ _ => by exact (pg_tup rfl (pgs_cons (pg_name (i := 8) scLvs.nd rfl (Or.inl rfl)) (pgs_cons (pg_name (i := 9) scLvs.nd rfl (Or.inl rfl)) pgs_nil)))) (fun _ _ _ _ _ => pts_nil) (fun _ _ _ _ _ => by exact (pe_tup (pa_cons (pe_op op_catA (pv 4) (pe_tup (pa_cons (pv 8) pa_nil))) (pa_cons (pv 9) pa_nil)))))
        (pss_one (ps_expr (pe_bm PySem.F.plainAttrs_list PySem.F.slot_list_extend PySem.F.type_list_extend mt_extend (pv 3) (pa_cons (pe_revL (pv 7)) pa_nil)))), ?_⟩
      intro De v0 v1 v2 v5 v7 v8 v9 W a mm wy mem ts' G ea em eW hwy hmem hts fin
      refine ⟨_, rfl, mm, _, rfl, SqL.of em, fun D hD => ?_⟩
      refine lc_it (walk_enum (K := K) (a := mm) (xs := memV mem)) (fun i H' => Keep [] G H' ∧ ∃ tsK : List Addr, H' D = some (.lst (tsK.map V.ref)) ∧ WaysAt H' tsK (kidsUp wy mem i)) ⟨Keep.new hD, [], upd_same, True.intro⟩ (fun i H' _ hI => SqL.of (hI.1.at em nin0)) ?_ ?_
      · rintro i x H1 H2 hi ⟨k1, tsK, eD, wK⟩ ⟨T, y1, y2, rfl, hT, rfl, q1, q2⟩
        rw [List.length_map] at hi
        have hz := List.getElem?_eq_getElem hi
        have ks := kidsUp_succ (w := wy) hi
        generalize mem[i] = z at hz ks
        have q2 : (memV mem)[i]? = some y2 := q2
        rw [List.getElem?_map, hz] at q2
        cases q1
        obtain rfl : V.int (z : Int) = y2 := Option.some.inj q2
        have kT : Keep [] H1 (upd H1 T (.tup [.int (i : Int), .int (z : Int)])) := Keep.new hT
        have eD2 := kT.at eD nin0
        have ea2 := kT.at (k1.at ea nin0) nin0
        have wK2 : WaysAt (upd H1 T (.tup [.int (i : Int), .int (z : Int)])) tsK (kidsUp wy mem i) := wK.map fun a xs q => kT.at q nin0
        refine ⟨T, _, rfl, SqT.of upd_same, rfl, _, _, rfl, _, _, rfl, rfl, rfl, tyes ?_⟩
        have kG2 := k1.trans kT
        generalize (upd H1 T (.tup [.int (i : Int), .int (z : Int)])) = H2 at kG2 eD2 ea2 wK2 ⊢
        refine ⟨_, rfl, _, rfl, (by show 1 ≤ sizeLine; decide), fun b hb => ?_⟩
        have kb : Keep [] H2 (upd H2 b (.tup [.int (i : Int)])) := Keep.new hb
        refine catA_one (kb.at ea2 nin0) upd_same (by rw [List.length_map]; exact Nat.le_trans (by show wy.length + 1 ≤ 1000; omega) (by decide)) fun c H3 k3 ec => ?_
        have ec : H3 c = some (.tup (memV (wy ++ [i]))) := by rw [ec]; unfold memV; rw [List.map_append]; rfl
        refine ⟨_, rfl, (by show 2 ≤ sizeLine; decide), fun t ht => ?_⟩
        have kt : Keep [] H3 (upd H3 t (.tup [.ref c, .int (z : Int)])) := Keep.new ht
        have k24 := (kb.trans k3).trans kt
        have lK := wK2.len
        have lK2 : tsK.length = i := by rw [lK]; unfold kidsUp; simp
        refine ⟨_, k24.at eD2 nin0, Nat.lt_of_le_of_lt (by rw [List.length_map]; omega : (tsK.map V.ref).length ≤ 1000) (by decide), ?_, tsK ++ [t], ?_, ?_⟩
        · exact (kG2.trans k24).freshTo hD
        · rw [upd_same, List.map_append]; rfl
        · rw [ks]
          have kD : ∀ a xs, (upd H3 t (.tup [.ref c, .int (z : Int)])) a = some (.tup xs) → (upd (upd H3 t (.tup [.ref c, .int (z : Int)])) D (.lst (tsK.map V.ref ++ [.ref t]))) a = some (.tup xs) := fun a xs q => by
            rw [upd_ne (ne_of q (k24.at eD2 nin0) (fun z => by cases z))]; exact q
          exact WaysAt.snoc ⟨c, kD _ _ upd_same, kD _ _ (kt.at ec nin0)⟩ (wK2.map fun a xs q => kD _ _ (k24.at q nin0))
      · rintro H1 ⟨k1, tsK, eD, wK⟩
        rw [List.length_map] at wK
        have lK : tsK.length = mem.length := by rw [wK.len]; unfold kidsUp; simp
        refine ⟨_, rfl, .inl ⟨rfl, _, SqL.of (k1.at eW nin0)⟩, _, rfl, D, _, rfl, SqL.of eD, fun R hR => ?_⟩
        have kR : Keep [] H1 (upd H1 R (.lst (tsK.map V.ref).reverse)) := Keep.new hR
        refine ⟨W, R, _, _, rfl, rfl, kR.at (k1.at eW nin0) nin0, upd_same, ?_, ?_⟩
        · rw [List.length_reverse, List.length_map, List.length_map]
          exact Nat.le_trans (by omega : ts'.length + tsK.length ≤ 10000) (by decide)
        rw [← List.map_reverse] at kR ⊢
        rw [← List.map_append]
        refine fin _ _ _ _ tsK.reverse (k1.trans kR) ?_
        rw [← kids_rev]
        exact (wK.map fun a xs q => kR.at q nin0).rev
    refine ⟨_, pss_cons (ps_set (i := 2) scLvs.nd rfl (Or.inl rfl) (pe_lst pa_nil))
      (pss_cons (ps_set (i := 3) scLvs.nd rfl (Or.inl rfl) (pe_lst (pa_cons (pe_tup (pa_cons (pe_tup pa_nil) (pa_cons (pv 1) pa_nil))) pa_nil)))
      (pss_cons (ps_while PassesOwn.never (pt_cmpR (op_neD hr.units) (pv 3) (pe_lst pa_nil) (nomark _))
        (pss_cons (ps_asg (pe_bm0 PySem.F.plainAttrs_list PySem.F.slot_list_pop PySem.F.type_list_pop mt_pop (pv 3)) (pg_tup rfl (pgs_cons (pg_name (i := 4) scLvs.nd rfl (Or.inr rfl)) (pgs_cons (pg_name (i := 5) scLvs.nd rfl (Or.inl rfl)) pgs_nil))))
        (pss_cons (ps_set (i := 6) scLvs.nd rfl (Or.inl rfl) (pe_ix ix_list (pe_ix ix_list (pv 0) (pv 5) (fun _ _ => rfl)) pe_int (fun _ _ => rfl)))
        (pss_cons (ps_if (pt_cmpR (op_eqD hr.units) (pv 6) (pe_lst pa_nil) (nomark _)) (pss_one (ps_expr (pe_bm PySem.F.plainAttrs_list PySem.F.slot_list_append PySem.F.type_list_append mt_append (pv 2) (pa_cons (pe_tup (pa_cons (pv 4) (pa_cons (pv 5) pa_nil))) pa_nil)))) pss_nil)
        htt))))
      (pss_one (ps_ret (pv 2))))), ?_⟩
    refine ⟨Nat.zero_le _, fun F hF => ?_⟩
    refine ⟨Nat.zero_le _, fun a0 ha0 => ?_⟩
    refine ⟨_, rfl, (by show 2 ≤ sizeLine; decide), fun t0 ht0 => ?_⟩
    refine ⟨(by show 1 ≤ sizeLine; decide), fun W hW => ?_⟩
    have k0 : Keep [] H (upd (upd (upd (upd H F (.lst [])) a0 (.tup [])) t0 (.tup [.ref a0, .int (k : Int)])) W (.lst [.ref t0])) := (((Keep.new hF).newTo ha0).newTo ht0).newTo hW
    have eF0 : (upd (upd (upd (upd H F (.lst [])) a0 (.tup [])) t0 (.tup [.ref a0, .int (k : Int)])) W (.lst [.ref t0])) F = some (.lst []) := (((Keep.new ha0 (ex := [])).newTo ht0).newTo hW).at upd_same nin0
    have ea0 : (upd (upd (upd (upd H F (.lst [])) a0 (.tup [])) t0 (.tup [.ref a0, .int (k : Int)])) W (.lst [.ref t0])) a0 = some (.tup []) := ((Keep.new ht0 (ex := [])).newTo hW).at upd_same nin0
    have et0 : (upd (upd (upd (upd H F (.lst [])) a0 (.tup [])) t0 (.tup [.ref a0, .int (k : Int)])) W (.lst [.ref t0])) t0 = some (.tup [.ref a0, .int (k : Int)]) := (Keep.new hW (ex := [])).at upd_same nin0
    have eW0 : (upd (upd (upd (upd H F (.lst [])) a0 (.tup [])) t0 (.tup [.ref a0, .int (k : Int)])) W (.lst [.ref t0])) W = some (.lst [.ref t0]) := upd_same
    have hW0 : H W = none := Keep.free (((Keep.new hF (ex := [])).newTo ha0).newTo ht0) hW nin0
    have nFW : F ≠ W := ne_of_none (((Keep.new ha0 (ex := [])).newTo ht0).at (show upd H F (.lst []) F = some (.lst []) from upd_same) nin0) hW
    generalize (upd (upd (upd (upd H F (.lst [])) a0 (.tup [])) t0 (.tup [.ref a0, .int (k : Int)])) W (.lst [.ref t0])) = G0 at k0 eF0 ea0 et0 eW0 ⊢
    have dk := (T.few k _ (List.getElem?_eq_getElem hk)).2
    have own : ∀ {G : Hp} {o : HO}, Keep [] H G → Keep [] H (upd G W o) := fun k => k.freshTo hW0
    have tups : ∀ {G : Hp} {xs : List V} {o : HO} {ts : List Addr} {zs : List WH}, G W = some (.lst xs) → WaysAt G ts zs → WaysAt (upd G W o) ts zs := fun eW h => h.map fun a ys q => by rw [upd_ne (ne_of q eW (fun z => by cases z))]; exact q
    have tupsF : ∀ {G : Hp} {xs : List V} {o : HO} {ts : List Addr} {zs : List WH}, G F = some (.lst xs) → WaysAt G ts zs → WaysAt (upd G F o) ts zs := fun eF h => h.map fun a ys q => by rw [upd_ne (ne_of q eF (fun z => by cases z))]; exact q
    have tupsN : ∀ {G G' : Hp} {ts : List Addr} {zs : List WH}, Keep [] G G' → WaysAt G ts zs → WaysAt G' ts zs := fun k h => h.map fun a ys q => k.at q nin0
    let Inv : Nat → L2.St → Hp → Prop := fun m σ G => ∃ (fs st : List WH) (tsF tsW : List Addr) (v4 v5 v6 v7 v8 v9 : Option V), σ = [some (.ref E), some (.int (k : Int)), some (.ref F), some (.ref W), v4, v5, v6, v7, v8, v9] ∧ Keep [] H G ∧ G F = some (.lst (tsF.map V.ref)) ∧ G W = some (.lst (tsW.map V.ref)) ∧ WaysAt G tsF fs ∧ WaysAt G tsW st ∧
      (∀ x ∈ st, x.2 < es.length) ∧ (∀ x ∈ fs, x.2 < es.length) ∧ fs.length + tot Lf st = Lf k ∧ (∀ b, (∀ x ∈ fs, x.1.length ≤ b) → (∀ x ∈ st, x.1.length + Df x.2 ≤ b) → Df k ≤ b) ∧ (∀ x ∈ fs, x.1.length ≤ Df k) ∧ (∀ x ∈ st, x.1.length + Df x.2 ≤ Df k) ∧ tot Nf st ≤ 1616 ∧ m = tot Nf st ∧ ∀ r, Run es fs st r → Run es [] [([], k)] r
    refine ⟨Inv, ⟨_, [], [([], k)], [], [t0], none, none, none, none, none, none, rfl, k0, eF0, eW0, True.intro, ⟨⟨a0, et0, ea0⟩, True.intro⟩, fun x hx => ?_, (fun x hx => absurd hx List.not_mem_nil), ?_, fun b _ hb => ?_, (fun x hx => absurd hx List.not_mem_nil), fun x hx => ?_, ?_, rfl, fun r h => h⟩, ?_⟩
    · rw [List.mem_singleton.mp hx]; exact hk
    · simp [tot]
    · have := hb _ List.mem_cons_self
      simpa using this
    · rw [List.mem_singleton.mp hx]; simp
    · have := T.nodes hk
      simpa [tot] using this
    rintro m σ G ⟨fs, st, tsF, tsW, v4, v5, v6, v7, v8, v9, rfl, kG, eF, eW, wF, wW, hin, hfin, hsum, hdeep, hf12, hs12, hn, rfl, hrun⟩
    refine ⟨_, rfl, Nat.zero_le _, fun e2 he2 => ?_⟩
    have k1 : Keep [] G (upd G e2 (.lst [])) := Keep.new he2
    have a1 : (upd G e2 (.lst [])) e2 = some (.lst []) := upd_same
    generalize (upd G e2 (.lst [])) = G1 at k1 a1 ⊢
    have kG1 : Keep [] H G1 := kG.trans k1
    have eF1 := k1.at eF nin0
    have eW1 := k1.at eW nin0
    have wF1 := tupsN k1 wF
    have wW1 := tupsN k1 wW
    refine ⟨waysD st, waysD [], .lst (SqL.of eW1) wW1.dp, .lst (SqL.of a1) .nil, ways_shaped _, ways_shaped _, _, rfl, ?_⟩
    rw [ways_nil]
    rcases List.eq_nil_or_concat st with hst | ⟨l0, x, hst⟩
    · subst hst
      refine iteF ?_
      exact ⟨_, rfl, kk G1 F tsF fs kG1 hF eF1 wF1 ⟨by simpa [tot] using hsum, (fun b hb => hdeep b hb fun x hx => absurd hx List.not_mem_nil), hf12, hrun _ .done, hfin⟩⟩
    · rw [List.concat_eq_append] at hst
      subst hst
      have ene : (l0 ++ [x]).isEmpty = false := by cases l0 <;> rfl
      rw [ene]
      refine iteT ⟨fun σ' H' => ∃ m', m' < tot Nf (l0 ++ [x]) ∧ Inv m' σ' H', fun σ' H' h => h, ?_⟩
      obtain ⟨t, ts', rfl, ⟨a, et, ea⟩, wl⟩ := WaysAt.unsnoc wW1
      have hx := hin x (List.mem_append_right _ List.mem_cons_self)
      have hx12 := hs12 x (List.mem_append_right _ List.mem_cons_self)
      -- pop
      have get : ((ts' ++ [t]).map V.ref)[((ts' ++ [t]).map V.ref).length - 1]? = some (V.ref t) := by
        rw [List.map_append, List.length_append, List.getElem?_append_right (by simp)]
        simp
      refine ⟨_, rfl, .inl ⟨rfl, _, SqL.of eW1⟩, W, _, V.ref t, rfl, rfl, eW1, get, ?_⟩
      have edr : ((ts' ++ [t]).map V.ref).dropLast = ts'.map V.ref := by rw [List.map_append]; simp
      rw [edr]
      have kG2 : Keep [] H (upd G1 W (.lst (ts'.map V.ref))) := own kG1
      have et2 : (upd G1 W (.lst (ts'.map V.ref))) t = some (.tup [.ref a, .int (x.2 : Int)]) := by rw [upd_ne (ne_of et eW1 (fun z => by cases z))]; exact et
      have ea2 : (upd G1 W (.lst (ts'.map V.ref))) a = some (.tup (memV x.1)) := by rw [upd_ne (ne_of ea eW1 (fun z => by cases z))]; exact ea
      have eF2 : (upd G1 W (.lst (ts'.map V.ref))) F = some (.lst (tsF.map V.ref)) := by rw [upd_ne nFW]; exact eF1
      have eW2 : (upd G1 W (.lst (ts'.map V.ref))) W = some (.lst (ts'.map V.ref)) := upd_same
      have wF2 := tups (o := .lst (ts'.map V.ref)) eW1 wF1
      have wl2 := tups (o := .lst (ts'.map V.ref)) eW1 wl
      generalize (upd G1 W (.lst (ts'.map V.ref))) = G2 at kG2 et2 ea2 eF2 eW2 wF2 wl2 ⊢
      refine ⟨t, _, rfl, SqT.of et2, rfl, _, _, rfl, _, _, rfl, rfl, ?_⟩
      -- members
      have he := List.getElem?_eq_getElem hx
      generalize es[x.2] = e at he
      obtain ⟨r, hq, mm, nn, _, _, _, g40, g50, g60⟩ := hR.at he
      have g4 := kG2.at g40 nin0
      have g5 := kG2.at g50 nin0
      refine ⟨_, rfl, _, rfl, E, _, _, V.ref r, rfl, rfl, SqL.of (kG2.at hE nin0), atI_nat (by rw [List.getElem?_map, hq]; rfl), r, _, _, V.ref mm, rfl, rfl, SqL.of g4, rfl, ?_⟩
      refine ⟨_, rfl, Nat.zero_le _, fun e3 he3 => ?_⟩
      have k3 : Keep [] G2 (upd G2 e3 (.lst [])) := Keep.new he3
      have a3 : (upd G2 e3 (.lst [])) e3 = some (.lst []) := upd_same
      generalize (upd G2 e3 (.lst [])) = G3 at k3 a3 ⊢
      have kG3 := kG2.trans k3
      have g53 := k3.at g5 nin0
      have ea3 := k3.at ea2 nin0
      have eF3 := k3.at eF2 nin0
      have eW3 := k3.at eW2 nin0
      have wF3 := tupsN k3 wF2
      have wl3 := tupsN k3 wl2
      refine ⟨intsD e.mem, intsD [], dp_intsD g53, dp_intsD (l := []) a3, ints_shaped _, ints_shaped _, _, rfl, ?_⟩
      rw [ints_nil]
      have hl6 := h6 e (List.mem_of_getElem? he)
      rw [tot_snoc] at hsum hn ⊢
      have lF : tsF.length ≤ 110 := by
        have h1 := wF.len
        have h2 := (T.few k _ (List.getElem?_eq_getElem hk)).1
        omega
      have nW : (l0.length : Nat) ≤ 1616 := by
        have h1 := tot_len (f := Nf) (xs := l0) fun y hy => T.node1 (hin y (List.mem_append_left _ hy))
        omega
      have lts : ts'.length = l0.length := wl.len
      have bk := T.back x.2 e he
      by_cases hm : e.mem = []
      · obtain ⟨q1, q2, q3⟩ := T.leaf x.2 e he hm
        rw [show e.mem.isEmpty = true by rw [hm]; rfl]
        refine iteT ?_
        refine ⟨_, rfl, .inl ⟨rfl, _, SqL.of eF3⟩, _, rfl, _, rfl, (by show 2 ≤ sizeLine; decide), fun t4 ht4 => ?_⟩
        have k4 : Keep [] G3 (upd G3 t4 (.tup [.ref a, .int (x.2 : Int)])) := Keep.new ht4
        have et4 : (upd G3 t4 (.tup [.ref a, .int (x.2 : Int)])) t4 = some (.tup [.ref a, .int (x.2 : Int)]) := upd_same
        generalize (upd G3 t4 (.tup [.ref a, .int (x.2 : Int)])) = G4 at k4 et4 ⊢
        have eF4 := k4.at eF3 nin0
        refine ⟨F, _, _, rfl, rfl, eF4, Nat.lt_of_le_of_lt (by rw [List.length_map]; omega : (tsF.map V.ref).length ≤ 1000) (by decide), ?_⟩
        have k5 : Keep [] H (upd G4 F (.lst (tsF.map V.ref ++ [.ref t4]))) := (kG3.trans k4).freshTo hF
        have eF5 : (upd G4 F (.lst (tsF.map V.ref ++ [.ref t4]))) F = some (.lst ((tsF ++ [t4]).map V.ref)) := by rw [upd_same, List.map_append]; rfl
        have eW5 : (upd G4 F (.lst (tsF.map V.ref ++ [.ref t4]))) W = some (.lst (ts'.map V.ref)) := by rw [upd_ne nFW.symm]; exact k4.at eW3 nin0
        have ea5 : (upd G4 F (.lst (tsF.map V.ref ++ [.ref t4]))) a = some (.tup (memV x.1)) := by rw [upd_ne (ne_of (k4.at ea3 nin0) eF4 (fun z => by cases z))]; exact k4.at ea3 nin0
        have wF5 : WaysAt (upd G4 F (.lst (tsF.map V.ref ++ [.ref t4]))) (tsF ++ [t4]) (fs ++ [x]) := tupsF eF4 (WaysAt.snoc ⟨a, et4, k4.at ea3 nin0⟩ (tupsN k4 wF3))
        have wl5 : WaysAt (upd G4 F (.lst (tsF.map V.ref ++ [.ref t4]))) ts' l0 := tupsF eF4 (tupsN k4 wl3)
        generalize (upd G4 F (.lst (tsF.map V.ref ++ [.ref t4]))) = G5 at k5 eF5 eW5 ea5 wF5 wl5 ⊢
        refine rtt _ _ _ _ _ _ _ _ W a mm x.1 e.mem ts' G5 ea5 (k5.at g50 nin0) eW5 (by omega) hl6 (by omega) fun w7 w8 w9 Gm tsK kM wK => ?_
        have lK := wK.len
        rw [kids_len, hm] at lK
        have lK : tsK = [] := List.eq_nil_of_length_eq_zero lK
        subst lK
        rw [List.append_nil]
        have eWm := kM.at eW5 nin0
        refine ⟨_, ?_, fs ++ [x], l0, tsF ++ [t4], ts', _, _, _, _, _, _, rfl, own (k5.trans kM), by rw [upd_ne nFW]; exact kM.at eF5 nin0, upd_same, tups eWm (tupsN kM wF5), tups eWm (tupsN kM wl5), fun y hy => hin y (List.mem_append_left _ hy), fun y hy => ?_, ?_, fun b h1 h2 => ?_, fun y hy => ?_, fun y hy => hs12 y (List.mem_append_left _ hy), by omega, rfl, fun r hr => hrun r (.leaf rfl he hm hr)⟩
        · rw [q2]; omega
        · rcases List.mem_append.mp hy with z | z
          · exact hfin y z
          · rw [List.mem_singleton.mp z]; exact hx
        · rw [List.length_append]; show fs.length + 1 + tot Lf l0 = Lf k; omega
        · refine hdeep b (fun y hy => h1 y (List.mem_append_left _ hy)) fun y hy => ?_
          rcases List.mem_append.mp hy with z | z
          · exact h2 y z
          · rw [List.mem_singleton.mp z, q3]
            exact h1 x (List.mem_append_right _ List.mem_cons_self)
        · rcases List.mem_append.mp hy with z | z
          · exact hf12 y z
          · rw [List.mem_singleton.mp z]; omega
      · obtain ⟨q1, q2, q3, m0, hm0, q4⟩ := T.nest x.2 e he hm
        rw [show e.mem.isEmpty = false by cases h : e.mem with | nil => exact absurd h hm | cons y ys => rfl]
        refine iteF ?_
        refine rtt _ _ _ _ _ _ _ _ W a mm x.1 e.mem ts' G3 ea3 g53 eW3 (by omega) hl6 (by omega) fun w7 w8 w9 Gm tsK kM wK => ?_
        have eWm := kM.at eW3 nin0
        have tl : ∀ f, tot f (l0 ++ kidsN x.1 e.mem e.mem.length) = tot f l0 + (e.mem.map f).sum := fun f => by
          rw [← kids_tot f x.1 e.mem]
          unfold tot
          rw [List.map_append, List.sum_append]
        refine ⟨_, ?_, fs, l0 ++ kidsN x.1 e.mem e.mem.length, tsF, ts' ++ tsK, _, _, _, _, _, _, rfl, own (kG3.trans kM), by rw [upd_ne nFW]; exact kM.at eF3 nin0, upd_same, tups eWm (tupsN kM wF3), tups eWm ((tupsN kM wl3).append wK), fun y hy => ?_, hfin, ?_, fun b h1 h2 => ?_, hf12, fun y hy => ?_, ?_, rfl, fun r hr => hrun r (.nest rfl he hm hr)⟩
        · rw [tl, q2]; omega
        · rcases List.mem_append.mp hy with q | q
          · exact hin y (List.mem_append_left _ q)
          · have := bk y.2 (kids_in y q).1
            omega
        · rw [tl, ← q1]; omega
        · refine hdeep b h1 fun y hy => ?_
          rcases List.mem_append.mp hy with q | q
          · exact h2 y (List.mem_append_left _ q)
          · obtain ⟨y', h3, h4⟩ := kids_all (w := x.1) m0 hm0
            have h5 := h2 y' (List.mem_append_right _ h3)
            rw [List.mem_singleton.mp q, q4]
            rw [h4, (kids_in y' h3).2] at h5
            omega
        · rcases List.mem_append.mp hy with q | q
          · exact hs12 y (List.mem_append_left _ q)
          · obtain ⟨h3, h4⟩ := kids_in y q
            have := q3 y.2 h3
            omega
        · rw [tl]; omega
end
end Fs
/-! One number. -/
namespace Fs
open PySem L2 TL
abbrev sTop : Stmt := top 52 --def _law_top
abbrev nTop : List Str := ["_law_pot_here", "_law_faults_here"]
theorem scTop : FnScope nTop ["_law_pot_here", "_law_faults_here"] (defScope sTop) := ⟨rfl, rfl, rfl, by decide +kernel, rfl, by decide +kernel, by decide +kernel⟩
def spTop : Sp := fun vs H Q _ => ∃ (p E : Addr) (xs : List V) (n : Nat), vs = [.ref p, .ref E] ∧ PotAt H p n ∧ n < 2 ^ 31 ∧ H E = some (.lst xs) ∧ E ≠ p ∧ 0 < xs.length ∧ xs.length ≤ 1000 ∧ ∀ (H' : Hp) (k : Nat), k < xs.length → Keep [p] H H' → PotAt H' p (n + 2) → Q (.int (k : Int)) H'
section
variable {P : Program} {w : World} {K : PySem.W.Frag} {mg : Str → Option Value} {base : Heap} {C CK fDg : Addr}
theorem ok_top {f : Addr} {fd dD : FuncData} (F : Fun K "_law_top" "_law_top" sTop f fd) (FD : FnOk P w K mg base CX0 1 fDg dD ["_law_pot_here", "_law_many"] spDigit) (gD : mg "_law_digit" = some (.ref fDg)) (kD : PySem.W.keepIn K (.ref fDg) = true) (bD : Binds K dD ["_law_pot_here", "_law_many"] []) (mL : mg "len" = none) :
    FnOk P w K mg base CX0 2 f fd ["_law_pot_here", "_law_faults_here"] spTop := by
  refine F.ok scTop (fun vs H Q E h => ?_) (fun cdv A0 outer s H vs Q Es hr h => ?_)
  · obtain ⟨p, E, xs, n, rfl, _⟩ := h
    rfl
  · obtain ⟨p, E, xs, n, rfl, pot, hn, hE, nE, x0, x1, kk⟩ := h
    refine ⟨_, pss_cons (ps_if (pt_cmpR op_eq (pe_call FD hr rfl gD kD bD .nil pass0 (pa_cons (pv 0) (pa_cons pe_int pa_nil))) pe_int (nomark _)) (pss_one (ps_ret (pe_op op_sub (pe_callB call_len_seq (by rfl) mL PySem.boot_len (pa_cons (pv 1) pa_nil)) pe_int))) pss_nil)
      (pss_one (ps_ret (pe_call FD hr rfl gD kD bD .nil pass0 (pa_cons (pv 0) (pa_cons (pe_callB call_len_seq (by rfl) mL PySem.boot_len (pa_cons (pv 1) pa_nil)) pa_nil))))), ?_⟩
    refine ⟨_, rfl, p, n, 2, rfl, pot, by omega, by decide, by decide, fun d H1 d0 d1 hk1 pot1 => ?_⟩
    have k1 := keep_of_dig hk1
    have hE1 := k1.at hE (nin1 nE)
    refine ⟨rfl, _, rfl, ite2 (fun _ => ?_) (fun _ => ?_)⟩
    · refine ⟨_, rfl, E, _, rfl, .inl (SqL.of hE1), _, _, rfl, rfl, ?_⟩
      have fin := kk H1 (xs.length - 1) (by omega) k1 (pot1.le (by omega))
      rw [show ((xs.length - 1 : Nat) : Int) = ((xs.length : Nat) : Int) - 1 by omega] at fin
      exact fin
    · refine ⟨_, rfl, _, rfl, E, _, rfl, .inl (SqL.of hE1), p, n + 1, _, rfl, pot1, by omega, by omega, by omega, fun d H2 e0 e1 hk2 pot2 => ?_⟩
      obtain ⟨d, rfl⟩ : ∃ m : Nat, d = (m : Int) := ⟨d.toNat, by omega⟩
      exact kk H2 d (by omega) (k1.trans (keep_of_dig hk2)) pot2
end
end Fs
/-! The scene behind parts. -/
namespace Fs
open PySem L2 TL
theorem top_of (r : Nat → Nat) : ∀ n : Nat, ∃ M, ∀ x, x < n → r x ≤ M
  | 0 => ⟨0, fun x h => absurd h (Nat.not_lt_zero x)⟩
  | n + 1 => by
    obtain ⟨M, h⟩ := top_of r n
    refine ⟨M + r n, fun x hx => ?_⟩
    by_cases q : x < n
    · have := h x q; omega
    · have : x = n := by omega
      rw [this]; omega
theorem Row.parts {es xs : List Ent} (R : Row es) (h : Parts es xs) : Row (es ++ xs) := by
  obtain ⟨r, hr⟩ := R.fell
  obtain ⟨M, hM⟩ := top_of r es.length
  have back : ∀ (x : Nat) (f : Ent) (y : Nat), (es ++ xs)[x]? = some f → f.atw = some y → y < es.length ∧ (x < es.length → r y < r x) := fun x f y q a => by
    by_cases hx : x < es.length
    · rw [List.getElem?_append_left hx] at q
      exact ⟨R.there x f y q a, fun _ => hr x f y q a⟩
    · rw [List.getElem?_append_right (by omega)] at q
      obtain ⟨_, _, _, _, e0, m0, _, _, _, _, g⟩ := h _ f q
      obtain ⟨j, hj⟩ := List.mem_iff_getElem?.mp m0
      rw [g] at a
      exact ⟨R.there j e0 y hj a, fun z => absurd z hx⟩
  refine ⟨⟨fun x => if x < es.length then r x else M + 1, fun x f y q a => ?_⟩, fun x f y q a => ?_⟩
  · obtain ⟨h1, h2⟩ := back x f y q a
    show (if y < es.length then r y else M + 1) < (if x < es.length then r x else M + 1)
    rw [if_pos h1]
    by_cases hx : x < es.length
    · rw [if_pos hx]; exact h2 hx
    · rw [if_neg hx]
      have := hM y h1
      omega
  · have := (back x f y q a).1
    rw [List.length_append]; omega
/-- the same, with more faults -/
def LDA.more (D : LDA) (mm nn : List Addr) : LDA := { D with ms := D.ms ++ mm, ns := D.ns ++ nn }
theorem LDA.more_zs (D : LDA) (mm nn : List Addr) {b : Addr} : b ∈ (D.more mm nn).zs ↔ b ∈ D.zs ∨ b ∈ nn := by
  unfold LDA.zs LDA.more
  simp only [List.mem_append]
  constructor
  · rintro (h | (h | h) | h)
    · exact .inl (.inl h)
    · exact .inl (.inr (.inl h))
    · exact .inr h
    · exact .inl (.inr (.inr h))
  · rintro ((h | h | h) | h)
    · exact .inl h
    · exact .inr (.inl (.inl h))
    · exact .inr (.inr h)
    · exact .inr (.inl (.inr h))
section
variable {C CK : Addr} {ps : List (Str × Str)} {cap cap' : Nat} {p l X : Addr} {tx : List Str} {H H' : Hp} {D : LDA} {es es' xs ys : List Ent} {n : Nat}
theorem Sc.toB (S : Sc C CK ps cap p l X tx H D es) : ScB C CK ps cap p l X tx H D es [] := by
  have e : es ++ [] = es := List.append_nil es
  refine ⟨⟨by rw [e]; exact S.st.led, S.st.kin, S.st.ent, S.st.rows, S.st.rnd, S.st.nE, S.st.np, S.st.tree, S.st.sm, S.st.row, by rw [e]; exact S.st.row⟩, by rw [e]; exact S.st.tree, fun e he => absurd he List.not_mem_nil, S.prs, S.wf, S.few, S.txs, S.hX, S.nl, S.nX, S.pos, S.len⟩
/-- more faults behind: lists and notes are new -/
theorem ScB.grow (S : ScB C CK ps cap p l X tx H D es xs) (hp : PotAt H p n) {mm nn : List Addr} {Lf' Df' Nf' : Nat → Nat} (k : Keep D.A.ls H H') (led : LedAt C H' D.q D.A (D.ms ++ mm) (D.ns ++ nn) (es ++ xs ++ ys)) (new : ∀ b ∈ nn, H b = none) (T : Tree (es ++ xs ++ ys) Lf' Df' Nf') (row : Row (es ++ xs ++ ys))
    (hy : ∀ e ∈ ys, e.kind = sS ∧ e.mem ≠ [] ∧ e.mem.length ≤ 101 ∧ ∀ m ∈ e.mem, m < (es ++ xs ++ ys).length) : ScB C CK ps cap p l X tx H' (D.more mm nn) es (xs ++ ys) := by
  have as : es ++ (xs ++ ys) = es ++ xs ++ ys := (List.append_assoc ..).symm
  have lA : ∀ b ∈ D.A.ls, ∃ xs, H b = some (.lst xs) := S.st.led.isl
  have isn : ∀ {b : Addr}, (∃ o, H b = some o) → b ∉ nn := fun {b} ⟨o, e⟩ z => by rw [new b z] at e; cases e
  have pA : p ∉ D.A.ls := fun z => S.st.np (List.mem_cons_of_mem _ (List.mem_append_left _ z))
  have eA : D.E ∉ D.A.ls := fun z => S.st.nE (List.mem_append_left _ z)
  have zA : ∀ {b : Addr}, b ∈ D.A.ls → b ∈ p :: D.zs := fun z => List.mem_cons_of_mem _ (List.mem_append_left _ z)
  refine ⟨⟨by rw [as]; exact led, kin_lists S.st.kin k lA, k.at S.st.ent eA, ?_, S.st.rnd, ?_, ?_, S.st.tree, S.st.sm, S.st.row, by rw [as]; exact row⟩, ⟨Lf', Df', Nf', by rw [as]; exact T⟩, fun e he => ?_, S.prs.keep k (fun z => S.nl (zA z)) (lst_no lA), S.wf, S.few, S.txs, k.at S.hX (fun z => S.nX (zA z)), ?_, ?_, S.pos, S.len⟩
  · have h := S.st.rows.alsoN nn new
    refine ((h.keep (k.more fun b hb => List.mem_append_right _ (List.mem_cons_of_mem _ (List.mem_cons_of_mem _ (List.mem_append_left _ hb))))).less fun a ha => ?_)
    have ha : a ∈ p :: D.E :: (D.A.ls ++ (D.ns ++ nn)) := ha
    simp only [List.mem_cons, List.mem_append] at ha ⊢
    rcases ha with h | h | h | h | h
    · exact .inr (.inl h)
    · exact .inr (.inr (.inl h))
    · exact .inr (.inr (.inr (.inl h)))
    · exact .inr (.inr (.inr (.inr h)))
    · exact .inl h
  · intro z
    have z : D.E ∈ D.A.ls ++ (D.ns ++ nn) := z
    rw [← List.append_assoc] at z
    rcases List.mem_append.mp z with z | z
    · exact S.st.nE z
    · exact isn ⟨_, S.st.ent⟩ z
  · intro z
    have z : p ∈ D.E :: (D.A.ls ++ (D.ns ++ nn)) := z
    rw [← List.append_assoc, ← List.cons_append] at z
    rcases List.mem_append.mp z with z | z
    · exact S.st.np z
    · obtain ⟨_, e⟩ := hp.some
      exact isn ⟨_, e⟩ z
  · rw [as]
    rcases List.mem_append.mp he with z | z
    · obtain ⟨a, b, c, d⟩ := S.xk e z
      exact ⟨a, b, c, fun m hm => by have := d m hm; rw [List.length_append (bs := ys)]; omega⟩
    · exact hy e z
  · intro z
    rcases List.mem_cons.mp z with z | z
    · exact S.nlp z
    · rcases (LDA.more_zs D mm nn).mp z with z | z
      · exact S.nl (List.mem_cons_of_mem _ z)
      · obtain ⟨_, e⟩ := S.prs.some
        exact isn ⟨_, e⟩ z
  · intro z
    rcases List.mem_cons.mp z with z | z
    · exact S.nXp z
    · rcases (LDA.more_zs D mm nn).mp z with z | z
      · exact S.nX (List.mem_cons_of_mem _ z)
      · exact isn ⟨_, S.hX⟩ z
theorem ScB.parts (S : ScB C CK ps cap p l X tx H D es xs) (hp : PotAt H p n) {mm nn : List Addr} {Lf' Df' Nf' : Nat → Nat} (k : Keep D.A.ls H H') (led : LedAt C H' D.q D.A (D.ms ++ mm) (D.ns ++ nn) (es ++ xs ++ ys)) (new : ∀ b ∈ nn, H b = none) (T : Tree (es ++ xs ++ ys) Lf' Df' Nf') (pt : Parts (es ++ xs) ys) : ScB C CK ps cap p l X tx H' (D.more mm nn) es (xs ++ ys) :=
  S.grow hp k led new T (S.st.rowX.parts pt) fun e he => by
    obtain ⟨j, hj⟩ := List.mem_iff_getElem?.mp he
    obtain ⟨a, b, c, d, _⟩ := pt j e hj
    have := (List.getElem?_eq_some_iff.mp hj).1
    exact ⟨a, b, c, fun m hm => by have := d m hm; rw [List.length_append (bs := ys)]; omega⟩
theorem ScB.kinds (S : ScB C CK ps cap p l X tx H D es xs) : ∀ e ∈ es ++ xs, e.mem ≠ [] → e.kind = sS := fun e he h => by
  rcases List.mem_append.mp he with z | z
  · exact (S.st.sm e z).2.2.2 h
  · exact (S.xk e z).1
end
theorem ScB.lrs {C CK : Addr} {ps : List (Str × Str)} {cap : Nat} {p l X : Addr} {tx : List Str} {H : Hp} {D : LDA} {es xs : List Ent} (S : ScB C CK ps cap p l X tx H D es xs) : ∀ e ∈ es, e.mem.length ≤ 101 := fun e he => S.mem101 e (List.mem_append_left _ he)
end Fs
/-! Parts by the law's own faults. -/
namespace Fs
open PySem L2 TL
theorem lvW_num {es : List Ent} (B : Back es) : ∀ (n k : Nat), k < n → k < es.length → ∀ x ∈ lvW es k, x.2 < es.length := by
  intro n
  induction n with
  | zero => intro k h; omega
  | succ n ih =>
    intro k hk hl x hx
    have q := List.getElem?_eq_getElem hl
    generalize es[k] = e at q
    by_cases z : e.mem = []
    · rw [lvW_leaf q z] at hx
      rw [List.mem_singleton.mp hx]; exact hl
    · rw [lvW_nest B q z, List.mem_flatMap] at hx
      obtain ⟨i, hi, hx⟩ := hx
      obtain ⟨y, hy, rfl⟩ := List.mem_map.mp hx
      have hb := B k e q _ (getD_mem (List.mem_range.mp hi))
      exact ih _ (by omega) (by omega) y hy
theorem PR.law {es xs ys : List Ent} {many n k : Nat} {w0 : List (List Nat)} {r : Option Nat} (B : Back (es ++ xs)) (hk : k < es.length) (h : PR (es ++ xs) (es ++ xs ++ ys) many n (inB w0) k r) : PR es (es ++ (xs ++ ys)) many n (fun w => decide ([] ++ w ∈ w0)) k r := by
  rw [← List.append_assoc]
  exact PR.two B (top := k) (fun i hi => List.getElem?_append_left (by omega)) (Nat.le_refl _) (fun w _ => rfl) h
theorem Tree.backL {es xs : List Ent} {Lf Df Nf : Nat → Nat} (T : Tree (es ++ xs) Lf Df Nf) : Back es := fun i e h m hm => T.back i e (by rw [List.getElem?_append_left (List.getElem?_eq_some_iff.mp h).1]; exact h) m hm
theorem ScB.small {C CK : Addr} {ps : List (Str × Str)} {cap : Nat} {p l X : Addr} {tx : List Str} {H : Hp} {D : LDA} {es xs : List Ent} (S : ScB C CK ps cap p l X tx H D es xs) : AllSmall es := fun e he => (S.st.sm e he).1.more (Nat.le_trans S.len (by decide))
end Fs
/-! The ways in a part. -/
namespace Fs
open PySem L2 TL
/-- how many members ahead have some -/
def cntB (ws : List (List Nat)) (i : Nat) : Nat := ((List.range i).filter fun j => !(strip j ws).isEmpty).length
/-- the way in the part -/
def cmpW : List Nat → List (List Nat) → List Nat
  | [], _ => []
  | i :: w, ws => cntB ws i :: cmpW w (strip i ws)
theorem cmpW_len : ∀ (w : List Nat) (ws : List (List Nat)), (cmpW w ws).length = w.length
  | [], _ => rfl
  | i :: w, ws => by
    show (_ :: _).length = _
    rw [List.length_cons, cmpW_len w, List.length_cons]
theorem ne_empty {l : List (List Nat)} : (!l.isEmpty) = true ↔ ∃ x, x ∈ l := by
  cases l with
  | nil => simp
  | cons a r => simp
theorem flat_filter {β : Type} {p : Nat → Bool} {g : Nat → List β} : ∀ {l : List Nat}, (∀ i ∈ l, p i = false → g i = []) → l.flatMap g = (l.filter p).flatMap g
  | [], _ => rfl
  | x :: r, h => by
    have ih := flat_filter (p := p) (g := g) (l := r) fun i hi => h i (List.mem_cons_of_mem _ hi)
    rw [List.flatMap_cons, ih]
    cases q : p x with
    | true => rw [List.filter_cons, q]; rfl
    | false => rw [List.filter_cons, q, h x List.mem_cons_self q]; rfl
theorem flat_range {β : Type} (g : Nat → List β) (P : List Nat) : P.flatMap g = (List.range P.length).flatMap fun t => g (P.getD t 0) := by
  have e : P = (List.range P.length).map fun t => P.getD t 0 := by
    apply List.ext_getElem
    · simp
    · intro i h1 h2
      simp only [List.getElem_map, List.getElem_range]
      rw [List.getD_eq_getElem?_getD, List.getElem?_eq_getElem h1]; rfl
  conv => lhs; rw [e]
  rw [List.flatMap_map]
theorem filt_ix {p : Nat → Bool} {n i : Nat} (hi : i < n) (hp : p i = true) : ((List.range n).filter p)[((List.range i).filter p).length]? = some i := by
  obtain ⟨m, rfl⟩ : ∃ m, n = i + 1 + m := ⟨n - (i + 1), by omega⟩
  rw [List.range_add, List.filter_append, List.range_succ, List.filter_append]
  have e : [i].filter p = [i] := by rw [List.filter_cons, hp]; rfl
  rw [e, List.append_assoc, List.getElem?_append_right (Nat.le_refl _), Nat.sub_self]
  rfl
theorem filt_at {p : Nat → Bool} {n i t : Nat} (h : ((List.range n).filter p)[t]? = some i) : t = ((List.range i).filter p).length ∧ i < n ∧ p i = true := by
  have hm := List.mem_filter.mp (List.mem_of_getElem? h)
  have hi := List.mem_range.mp hm.1
  have g := filt_ix hi hm.2
  have nd : ((List.range n).filter p).Nodup := List.Nodup.sublist List.filter_sublist List.nodup_range
  refine ⟨?_, hi, hm.2⟩
  have ht := (List.getElem?_eq_some_iff.mp h).1
  exact (List.getElem?_inj ht nd).mp (by rw [h, g])
theorem lvW_ne {es : List Ent} (B : Back es) : ∀ (n k : Nat), k < n → k < es.length → ∃ x, x ∈ lvW es k := by
  intro n
  induction n with
  | zero => intro k h; omega
  | succ n ih =>
    intro k hk hl
    have q := List.getElem?_eq_getElem hl
    generalize es[k] = e at q
    by_cases z : e.mem = []
    · rw [lvW_leaf q z]; exact ⟨_, List.mem_singleton.mpr rfl⟩
    · have h0 : 0 < e.mem.length := List.length_pos_iff.mpr z
      have hb := B k e q _ (getD_mem h0)
      obtain ⟨x, hx⟩ := ih (e.mem.getD 0 0) (by omega) (by omega)
      rw [lvW_nest B q z]
      exact ⟨_, List.mem_flatMap.mpr ⟨0, List.mem_range.mpr h0, List.mem_map.mpr ⟨x, hx, rfl⟩⟩⟩
theorem cmpW_all {es : List Ent} (B : Back es) : ∀ (n k : Nat), k < n → k < es.length → ∀ {ws : List (List Nat)}, (∀ w ∈ (lvW es k).map Prod.fst, w ∈ ws) → ∀ x ∈ lvW es k, cmpW x.1 ws = x.1 := by
  intro n
  induction n with
  | zero => intro k h; omega
  | succ n ih =>
    intro k hk hl ws hw x hx
    have q := List.getElem?_eq_getElem hl
    generalize es[k] = e at q
    by_cases z : e.mem = []
    · rw [lvW_leaf q z] at hx
      rw [List.mem_singleton.mp hx]; rfl
    · have hx0 := hx
      rw [lvW_nest B q z, List.mem_flatMap] at hx
      obtain ⟨i, hi, hx⟩ := hx
      obtain ⟨y, hy, rfl⟩ := List.mem_map.mp hx
      have hil := List.mem_range.mp hi
      have hb := B k e q _ (getD_mem hil)
      have sub : ∀ j, j < e.mem.length → ∀ w ∈ (lvW es (e.mem.getD j 0)).map Prod.fst, w ∈ strip j ws := fun j hj w hwm => mem_strip.mpr (hw _ ((way_nest B q z).mpr ⟨j, w, rfl, hj, hwm⟩))
      show cntB ws i :: cmpW y.1 (strip i ws) = i :: y.1
      rw [ih _ (by omega) (by omega) (sub i hil) y hy]
      have e1 : cntB ws i = i := by
        unfold cntB
        rw [List.filter_eq_self.mpr, List.length_range]
        intro j hj
        have hj := List.mem_range.mp hj
        have hbj := B k e q _ (getD_mem (show j < e.mem.length by omega))
        obtain ⟨v, hv⟩ := lvW_ne B _ _ (Nat.lt_succ_self _) (show e.mem.getD j 0 < es.length by omega)
        exact ne_empty.mpr ⟨_, sub j (by omega) v.1 (List.mem_map_of_mem hv)⟩
      rw [e1]
/-- the leaves of a part -/
theorem PR.ways {es F : List Ent} {many : Nat} (B : Back es) (BF : Back F) : ∀ {n : Nat} {c : List Nat → Bool} {k : Nat} {r : Option Nat} {ws : List (List Nat)}, k < es.length → (∀ i, i ≤ k → es[i]? = F[i]?) → (∀ w ∈ (lvW es k).map Prod.fst, c w = decide (w ∈ ws)) → (∀ w ∈ ws, w ∈ (lvW es k).map Prod.fst) →
    PR es F many n c k r → ∀ f, r = some f → lvW F f = ((lvW es k).filter fun x => decide (x.1 ∈ ws)).map fun x => (cmpW x.1 ws, x.2)
  | 0, _, _, _, _, _, _, _, _, h => h.elim
  | n + 1, c, k, r, ws, hk, hs, hc, hw, h => by
    obtain ⟨e, he, h⟩ := h
    intro f hf
    rcases h with (⟨h, hr⟩ | ⟨h, hr⟩) | ⟨⟨w1, g1, g2⟩, ⟨w2, g3, g4⟩, f', e', h3, h4, h5, h6, h7, h8⟩
    · rw [hr] at hf; cases hf
    · rw [hr] at hf
      have ef : k = f := Option.some.inj hf
      subst ef
      rw [← lvW_two B fun i hi => by rw [hs i hi]]
      have all : ∀ x ∈ lvW es k, x.1 ∈ ws := fun x hx => by
        have hx' := List.mem_map_of_mem (f := Prod.fst) hx
        have := hc _ hx'
        rw [h _ hx'] at this
        exact of_decide_eq_true this.symm
      rw [List.filter_eq_self.mpr fun x hx => decide_eq_true (all x hx)]
      conv => lhs; rw [← List.map_id (lvW es k)]
      refine List.map_congr_left fun x hx => ?_
      rw [cmpW_all B _ k (Nat.lt_succ_self _) hk (fun w hw' => by
        obtain ⟨y, hy, rfl⟩ := List.mem_map.mp hw'
        exact all y hy) x hx]
      rfl
    · rw [h3] at hf
      have ef : f' = f := Option.some.inj hf
      subst ef
      have hne : e.mem ≠ [] := fun z => by
        rw [lvW_leaf he z] at g1 g3
        have e1 : w1 = [] := by simpa using g1
        have e2 : w2 = [] := by simpa using g3
        rw [e1] at g2; rw [e2] at g4
        rw [g2] at g4; cases g4
      have hb := B k e he
      have hcc : ∀ i, i < e.mem.length → ∀ w ∈ (lvW es (e.mem.getD i 0)).map Prod.fst, c (i :: w) = decide (w ∈ strip i ws) := fun i hi w hwm => by
        rw [hc _ ((way_nest B he hne).mpr ⟨i, w, rfl, hi, hwm⟩)]
        exact decide_eq_decide.mpr mem_strip.symm
      have hP : plcs es c e = (List.range e.mem.length).filter fun i => !(strip i ws).isEmpty := by
        unfold plcs
        refine List.filter_congr fun i hi => ?_
        have hil := List.mem_range.mp hi
        rw [Bool.eq_iff_iff, List.any_eq_true, ne_empty]
        constructor
        · rintro ⟨w, hw1, hw2⟩
          rw [hcc i hil w hw1] at hw2
          exact ⟨w, of_decide_eq_true hw2⟩
        · rintro ⟨w, hws⟩
          have hwm := (strip_sub B he hne hw i w hws).2
          exact ⟨w, hwm, by rw [hcc i hil w hwm]; exact decide_eq_true hws⟩
      have Pne : plcs es c e ≠ [] := fun z => by
        obtain ⟨i, w', e1, hi, hwm⟩ := (way_nest B he hne).mp g1
        have : i ∈ plcs es c e := plcs_in.mpr ⟨hi, w', hwm, by rw [← e1]; exact g2⟩
        rw [z] at this; exact absurd this List.not_mem_nil
      have hne' : e'.mem ≠ [] := fun z => by rw [z] at h7; exact Pne (List.length_eq_zero_iff.mp h7.symm)
      rw [lvW_nest BF h5 hne', lvW_nest B he hne, List.filter_flatMap, List.map_flatMap, h7, hP]
      rw [flat_filter (p := fun i => !(strip i ws).isEmpty) (l := List.range e.mem.length) fun i hi hp => ?_]
      · refine Eq.trans ?_ (flat_range _ _).symm
        refine flatMap_same fun t ht => ?_
        have htl := List.mem_range.mp ht
        have hti := List.getElem?_eq_getElem htl
        have hgd : ((List.range e.mem.length).filter fun i => !(strip i ws).isEmpty).getD t 0 = ((List.range e.mem.length).filter fun i => !(strip i ws).isEmpty)[t] := by rw [List.getD_eq_getElem?_getD, hti]; rfl
        rw [hgd]
        generalize ((List.range e.mem.length).filter fun i => !(strip i ws).isEmpty)[t] = i at hti
        obtain ⟨q1, q2, q3⟩ := filt_at hti
        have htm : t < e'.mem.length := by rw [h7, hP]; exact htl
        have hm := List.getElem?_eq_getElem htm
        have hmd : e'.mem.getD t 0 = e'.mem[t] := by rw [List.getD_eq_getElem?_getD, hm]; rfl
        rw [hmd]
        generalize e'.mem[t] = m at hm
        have hbi := hb _ (getD_mem q2)
        have sub := h8 t i m (by rw [hP]; exact hti) hm
        rw [PR.ways B BF (ws := strip i ws) (by omega) (fun j hj => hs j (by omega)) (hcc i q2) (fun w hws => (strip_sub B he hne hw i w hws).2) sub m rfl]
        rw [List.filter_map, List.map_map, List.map_map]
        have ef : (fun x : WH => decide (x.1 ∈ ws)) ∘ (fun x : WH => ((i :: x.1, x.2) : WH)) = fun x : WH => decide (x.1 ∈ strip i ws) := funext fun x => by
          show decide (i :: x.1 ∈ ws) = decide (x.1 ∈ strip i ws)
          exact decide_eq_decide.mpr mem_strip.symm
        rw [ef]
        refine List.map_congr_left fun x _ => ?_
        show (t :: cmpW x.1 (strip i ws), x.2) = (cntB ws i :: cmpW x.1 (strip i ws), x.2)
        unfold cntB
        rw [← q1]
      · have hemp : strip i ws = [] := by
          cases q : strip i ws with
          | nil => rfl
          | cons a r => rw [q] at hp; cases hp
        rw [List.filter_map, List.map_map]
        have : ((lvW es (e.mem.getD i 0)).filter ((fun x : WH => decide (x.1 ∈ ws)) ∘ fun x : WH => ((i :: x.1, x.2) : WH))) = [] := List.filter_eq_nil_iff.mpr fun x _ => by
          show ¬ decide (i :: x.1 ∈ ws) = true
          intro z
          have := mem_strip.mpr (of_decide_eq_true z)
          rw [hemp] at this; exact absurd this List.not_mem_nil
        rw [this]; rfl
end Fs
/-! Which kind stands under which. -/
namespace Fs
open PySem L2 TL
abbrev sKCk : Stmt := inClass (top 26) 5
abbrev sStU : Stmt := inClass (top 26) 4
abbrev sKdm : Stmt := inClass cLed 16
abbrev sUnd : Stmt := top 47 --def _law_under
abbrev nUnd : List Str := ["_law_pairs", "_law_name_here", "_law_other", "_law_above", "_law_here", "_law_turn"]
theorem scKCk : FnScope ["self", "name"] ["self", "name"] (defScope sKCk) := ⟨rfl, rfl, rfl, by decide +kernel, rfl, by decide +kernel, by decide +kernel⟩
theorem scStU : FnScope ["self", "name", "other"] ["self", "name", "other"] (defScope sStU) := ⟨rfl, rfl, rfl, by decide +kernel, rfl, by decide +kernel, by decide +kernel⟩
theorem scKdm : FnScope ["self"] ["self"] (defScope sKdm) := ⟨rfl, rfl, rfl, by decide +kernel, rfl, by decide +kernel, by decide +kernel⟩
theorem scUnd : FnScope nUnd ["_law_pairs", "_law_name_here", "_law_other"] (defScope sUnd) := ⟨rfl, rfl, rfl, by decide +kernel, rfl, by decide +kernel, by decide +kernel⟩
def spKCk (CK : Addr) : Sp := fun vs H Q _ => ∃ (kd : Addr) (z : Str) (ps : List (Str × Str)), vs = [.ref kd, .str z] ∧ KindsAt CK H kd ps ∧ z ∈ allK ps ∧ Q .non H
def spKdm (C : Addr) : Sp := fun vs H Q _ => ∃ (p : Addr) (A : LA) (ms ns : List Addr) (es : List Ent), vs = [.ref p] ∧ LedAt C H p A ms ns es ∧ Q (.ref A.kd) H
def spStU (CK : Addr) : Sp := fun vs H Q _ => ∃ (kd : Addr) (a b : Str) (ps : List (Str × Str)), vs = [.ref kd, .str a, .str b] ∧ KindsAt CK H kd ps ∧ Wf ps ∧ a ∈ allK ps ∧ b ∈ allK ps ∧ Q (.bl (under ps a b)) H
def spUnd : Sp := fun vs H Q _ => ∃ (l : Addr) (a b : Str) (ps : List (Str × Str)), vs = [.ref l, .str a, .str b] ∧ PairsAt H l ps ∧ Wf ps ∧ ps.length ≤ 100 ∧ a ∈ allK ps ∧ ∀ H', Keep [] H H' → Q (.bl (under ps a b)) H'
theorem TupsAt.paired {K : PySem.W.Frag} {H : Hp} : ∀ {as : List Addr} {ps : List (Str × Str)}, TupsAt H as ps → Paired (fun p kv => SqT K H p [kV kv.1, kv.2]) as (ps.map pr)
  | [], [], _ => .nil
  | _ :: _, _ :: _, h => .cons (SqT.of h.1) (TupsAt.paired h.2)
  | [], _ :: _, h => h.elim
  | _ :: _, [], h => h.elim
section
variable {P : Program} {w : World} {K : PySem.W.Frag} {mg : Str → Option Value} {base : Heap} {C CK fA fCF fCT fCM fI fK fN : Addr}
theorem ok_kCk {f : Addr} {fd dK : FuncData} (F : Fun K "_check" "Kinds._check" sKCk f fd) (T : KTxt K mg CK fI fK fN) (FK : FnOk P w K mg base CX0 2 fK dK ["self", "thing"] (spIsKind CK)) (bK : Binds K dK ["self", "thing"] []) : FnOk P w K mg base CX0 3 f fd ["self", "name"] (spKCk CK) := by
  refine F.ok scKCk (fun vs H Q E h => ?_) (fun cdv A outer s H vs Q E hr h => ?_)
  · obtain ⟨kd, z, ps, rfl, _⟩ := h
    rfl
  · obtain ⟨kd, z, ps, rfl, hK, hz, kk⟩ := h
    obtain ⟨dk, dd, g1, g2⟩ := id hK
    refine ⟨_, pss_one (ps_if (pt_not (pt_val (pe_meth (pv 0) T.cl T.mK FK hr bK .nil pass0 (pa_cons (pv 1) pa_nil)))) (pss_one ps_never) pss_nil), ?_⟩
    refine ⟨_, rfl, kd, dk, _, rfl, g1, ab_no _ (by decide +kernel), _, rfl, kd, z, ps, rfl, hK, _, rfl, ?_⟩
    rw [decide_eq_true hz]
    exact iteF kk
theorem ok_kdm {f : Addr} {fd : FuncData} (F : Fun K "kinds" "Ledger.kinds" sKdm f fd) (T : LTxt K mg C fA fCF fCT fCM) : FnOk P w K mg base CX0 1 f fd ["self"] (spKdm C) := by
  refine F.ok scKdm (fun vs H Q E h => ?_) (fun cdv A outer s H vs Q E hr h => ?_)
  · obtain ⟨p, L, ms, ns, es, rfl, _⟩ := h
    rfl
  · obtain ⟨p, L, ms, ns, es, rfl, hL, kk⟩ := h
    refine ⟨_, pss_one (ps_ret (pe_fld (pv 0) rfl)), ?_⟩
    exact ⟨_, rfl, p, C, L.dx, _, _, rfl, hL.ins, T.cl, T.n0, fl0 L, kk⟩
theorem ok_stU {fC : Addr} {f : Addr} {fd dC : FuncData} (F : Fun K "stands_under" "Kinds.stands_under" sStU f fd) (T : KTxt K mg CK fI fK fN) (mC : Meth K CK "_check" fC) (FC : FnOk P w K mg base CX0 3 fC dC ["self", "name"] (spKCk CK)) (bC : Binds K dC ["self", "name"] []) : FnOk P w K mg base CX0 4 f fd ["self", "name", "other"] (spStU CK) := by
  refine F.ok scStU (fun vs H Q E h => ?_) (fun cdv A outer s H vs Q E hr h => ?_)
  · obtain ⟨kd, a, b, ps, rfl, _⟩ := h
    rfl
  · obtain ⟨kd, a, b, ps, rfl, hK, hw, ha, hb, kk⟩ := h
    obtain ⟨dk, dd, g1, g2⟩ := id hK
    obtain ⟨r, r1, r2, r3, r4⟩ := hw.rank
    refine ⟨_, pss_cons (ps_expr (pe_meth (pv 0) T.cl mC FC hr bC .nil pass0 (pa_cons (pv 1) pa_nil)))
      (pss_cons (ps_expr (pe_meth (pv 0) T.cl mC FC hr bC .nil pass0 (pa_cons (pv 2) pa_nil)))
      (pss_cons (ps_while PassesOwn.never (PW.pt (pw_and (pt_cmpR op_notN (pv 1) pe_non (nomark _)) (pw_and1 (pt_cmpR op_ne (pv 1) (pv 2) (nomark _)))))
        (pss_one (ps_set (i := 1) scStU.nd rfl (Or.inl rfl) (pe_dget (hu_of hr) (pe_fld (pv 0) rfl) (pv 1) (fun _ _ => rfl)))))
      (pss_one (ps_ret (pe_cmpR op_notN (pv 1) pe_non (nomark _)))))), ?_⟩
    refine ⟨_, rfl, kd, dk, _, rfl, g1, ab_no _ (by decide +kernel), _, rfl, kd, a, ps, rfl, hK, ha, ?_⟩
    refine ⟨_, rfl, kd, dk, _, rfl, g1, ab_no _ (by decide +kernel), _, rfl, kd, b, ps, rfl, hK, hb, ?_⟩
    refine ⟨fun m σ G => G = H ∧ ((∃ i, σ = [some (.ref kd), some (.str (nxN ps i a)), some (.str b)] ∧ (∀ j, j < i → nxN ps j a ≠ b) ∧ r (nxN ps i a) + i ≤ ps.length + 1 ∧ m = r (nxN ps i a) + 1) ∨ (σ = [some (.ref kd), some .non, some (.str b)] ∧ (∀ j, nxN ps j a ≠ b) ∧ m = 0)), ⟨_, rfl, .inl ⟨0, rfl, (fun j h => absurd h (Nat.not_lt_zero _)), by have := r4 a ha; simpa [nxN] using this, rfl⟩⟩, ?_⟩
    rintro m σ G ⟨rfl, ⟨i, rfl, hno, hrk, rfl⟩ | ⟨rfl, hno, rfl⟩⟩
    · have hx := nxN_in hw ha i
      refine ⟨_, rfl, rfl, _, rfl, iteNot (fun z => by cases z) ⟨_, rfl, _, rfl, rfl, _, rfl, ?_⟩⟩
      by_cases hit : nxN ps i a = b
      · refine iteNS (by rw [hit]) ?_
        refine ⟨_, rfl, rfl, ?_⟩
        show Q (.bl true) _
        rw [← under_t (ps := ps) (a := a) (b := b) (i := i) (by omega) hit]
        exact kk
      · refine iteNot (fun z => hit (V.str.inj z)) ?_
        refine ⟨fun σ' G' => G' = G ∧ σ' = [some (.ref kd), some (upV (upOf ps (nxN ps i a))), some (.str b)], ?_, ?_⟩
        · rintro σ' G' ⟨rfl, rfl⟩
          cases hu : upOf ps (nxN ps i a) with
          | none =>
            refine ⟨0, Nat.succ_pos _, rfl, .inr ⟨rfl, fun j => ?_, rfl⟩⟩
            have hF := up_none hw hx hu
            by_cases hj : j < i
            · exact hno j hj
            · have := nxN_F hw hF (j - i)
              rw [show i + (j - i) = j by omega] at this
              rw [this, ← hF]; exact hit
          | some y =>
            have e : nxN ps (i + 1) a = y := by show nx ps (nxN ps i a) = y; unfold nx; rw [hu]; rfl
            have lt := nx_rank hw r1 r2 r3 hx hu
            refine ⟨r y + 1, by omega, rfl, .inl ⟨i + 1, by rw [e]; rfl, fun j hj => ?_, by rw [e]; omega, by rw [e]⟩⟩
            by_cases hj' : j = i
            · rw [hj']; exact hit
            · exact hno j (by omega)
        · exact ⟨_, rfl, kd, CK, dk, _, _, rfl, g1, T.cl, T.nA, ab_look _, _, rfl, dd, _, rfl, by rw [← up_at hw hx]; exact DGet.k (k := Sum.inr (nxN ps i a)) g2, rfl, rfl⟩
    · refine ⟨_, rfl, rfl, _, rfl, iteNS rfl ?_⟩
      refine ⟨_, rfl, rfl, ?_⟩
      show Q (.bl false) _
      rw [← under_f (ps := ps) (a := a) (b := b) fun i _ => hno i]
      exact kk
theorem ok_und {f : Addr} {fd : FuncData} (F : Fun K "_law_under" "_law_under" sUnd f fd) (mD : mg "dict" = none) (mL : mg "len" = none) (mR : mg "range" = none) : FnOk P w K mg base CX0 1 f fd ["_law_pairs", "_law_name_here", "_law_other"] spUnd := by
  refine F.ok scUnd (fun vs H Q E h => ?_) (fun cdv A outer s H vs Q E hr h => ?_)
  · obtain ⟨l, a, b, ps, rfl, _⟩ := h
    rfl
  · obtain ⟨l, a, b, ps, rfl, hP, hw, hps, ha, kk⟩ := h
    obtain ⟨as, el, tl⟩ := hP
    refine ⟨_, pss_cons (ps_set (i := 3) scUnd.nd rfl (Or.inl rfl) (pe_callTy (call_dictP rfl) (by rfl) mD (by decide +kernel) (pa_cons (pv 0) pa_nil)))
      (pss_cons (ps_set (i := 4) scUnd.nd rfl (Or.inl rfl) (pv 1))
      (pss_cons (ps_for PassesOwn.never rfl (pi_range1 rfl mR (pa_cons (pe_op op_add (pe_callB call_len_seq (by rfl) mL PySem.boot_len (pa_cons (pv 0) pa_nil)) pe_int) pa_nil)) (pg_name (i := 5) scUnd.nd rfl (Or.inl rfl))
        (pss_cons (ps_if (pt_cmpR op_eq (pv 4) (pv 2) (nomark _)) (pss_one (ps_ret pe_bl)) pss_nil)
        (pss_one (ps_set (i := 4) scUnd.nd rfl (Or.inl rfl) (pe_dget2 (hu_of hr) (pv 3) (pv 4) pe_str ⟨rfl, rfl, rfl, rfl⟩)))))
      (pss_one (ps_ret pe_bl)))), ?_⟩
    refine ⟨_, rfl, l, as, ps.map pr, rfl, SqL.of el, tl.paired, fun d hd => ?_⟩
    rw [merge_wf hw]
    have kd : Keep [] H (upd H d (.dK (ps.map pr))) := Keep.new hd
    have ed : (upd H d (.dK (ps.map pr))) d = some (.dK (ps.map pr)) := upd_same
    generalize (upd H d (.dK (ps.map pr))) = G at kd ed ⊢
    refine ⟨_, rfl, ?_⟩
    refine ⟨_, rfl, l, _, rfl, .inl (SqL.of (kd.at el nin0)), _, _, rfl, rfl, _, rfl, by rw [List.length_map, tl.len]; omega, by rw [List.length_map, tl.len]; omega, ?_⟩
    rw [List.length_map, tl.len, show ((ps.length : Nat) : Int) + 2 = ((ps.length + 2 : Nat) : Int) by omega, Int.toNat_natCast]
    refine for_range (lo := 0) (n := ps.length + 2) (fun i σ G' => ∃ v5 : Option V, σ = [some (.ref l), some (.str a), some (.str b), some (.ref d), some (.str (nxN ps i a)), v5] ∧ G' = G ∧ ∀ j, j < i → nxN ps j a ≠ b)
      ⟨none, rfl, rfl, fun j h => absurd h (Nat.not_lt_zero _)⟩ ?_ ?_
    · rintro i σ G' hi ⟨v5, rfl, rfl, hno⟩
      refine ⟨_, rfl, _, rfl, rfl, _, rfl, ?_⟩
      by_cases hit : nxN ps i a = b
      · rw [decide_eq_true (show V.str (nxN ps i a) = V.str b by rw [hit]), ]
        refine iteT ?_
        have := kk G' kd
        rw [under_t hi hit] at this
        exact this
      · rw [decide_eq_false (fun z => hit (V.str.inj z))]
        refine iteF ?_
        refine ⟨_, rfl, d, rfl, .inl ⟨_, .inl ed⟩, _, rfl, _, DGet.k (k := Sum.inr (nxN ps i a)) ed, ?_⟩
        rw [law_up hw (nxN_in hw ha i)]
        refine ⟨_, rfl, rfl, fun j hj => ?_⟩
        by_cases hj' : j = i
        · rw [hj']; exact hit
        · exact hno j (by omega)
    · rintro σ G' ⟨v5, rfl, rfl, hno⟩
      have := kk G' kd
      rw [under_f hno] at this
      exact this
end
end Fs
/-! Tests; a test that is drawn. -/
namespace Fs
open PySem L2 TL
abbrev wKind : Str := Str.ofString "kind"
abbrev wSays : Str := Str.ofString "says"
abbrev wNoted : Str := Str.ofString "noted"
abbrev wNot : Str := Str.ofString "not"
abbrev wAnd : Str := Str.ofString "and"
abbrev wOr : Str := Str.ofString "or"
inductive Ts where
  | one (w x : Str)
  | not (a : Ts)
  | two (w : Str) (a b : Ts)
def Ts.dp : Ts → Nat
  | .one _ _ => 0
  | .not a => a.dp + 1
  | .two _ a b => Nat.max a.dp b.dp + 1
def Ts.sz : Ts → Nat
  | .one _ _ => 1
  | .not a => a.sz + 1
  | .two _ a b => a.sz + b.sz + 1
theorem Ts.sz_dp : ∀ t : Ts, t.sz + 1 ≤ 2 ^ (t.dp + 1)
  | .one _ _ => by show 1 + 1 ≤ 2 ^ (0 + 1); decide
  | .not a => by
    have h := Ts.sz_dp a
    show a.sz + 1 + 1 ≤ 2 ^ (a.dp + 1 + 1)
    rw [Nat.pow_succ]; omega
  | .two _ a b => by
    have h1 := Ts.sz_dp a
    have h2 := Ts.sz_dp b
    have e1 : 2 ^ (a.dp + 1) ≤ 2 ^ (Nat.max a.dp b.dp + 1) := Nat.pow_le_pow_right (by decide) (Nat.succ_le_succ (Nat.le_max_left _ _))
    have e2 : 2 ^ (b.dp + 1) ≤ 2 ^ (Nat.max a.dp b.dp + 1) := Nat.pow_le_pow_right (by decide) (Nat.succ_le_succ (Nat.le_max_right _ _))
    show a.sz + b.sz + 1 + 1 ≤ 2 ^ (Nat.max a.dp b.dp + 1 + 1)
    rw [Nat.pow_succ]; omega
def Ts.Ok (ps : List (Str × Str)) : Ts → Prop
  | .one w x => (w = wKind ∧ x ∈ allK ps) ∨ ((w = wSays ∨ w = wNoted) ∧ IsTx x)
  | .not a => a.Ok ps
  | .two w a b => (w = wAnd ∨ w = wOr) ∧ a.Ok ps ∧ b.Ok ps
def TestAt (H : Hp) : Ts → V → Prop
  | .one w x, v => ∃ p, v = .ref p ∧ H p = some (.tup [.str w, .str x])
  | .not a, v => ∃ p u, v = .ref p ∧ H p = some (.tup [.str wNot, u]) ∧ TestAt H a u
  | .two w a b, v => ∃ p u u', v = .ref p ∧ H p = some (.tup [.str w, u, u']) ∧ TestAt H a u ∧ TestAt H b u'
theorem TestAt.map {H H' : Hp} (k : ∀ a xs, H a = some (.tup xs) → H' a = some (.tup xs)) : ∀ {t : Ts} {v : V}, TestAt H t v → TestAt H' t v
  | .one _ _, _, h => by
    obtain ⟨p, e, h⟩ := h
    exact ⟨p, e, k _ _ h⟩
  | .not a, _, h => by
    obtain ⟨p, u, e, h, g⟩ := h
    exact ⟨p, u, e, k _ _ h, g.map k⟩
  | .two _ a b, _, h => by
    obtain ⟨p, u, u', e, h, g, g'⟩ := h
    exact ⟨p, u, u', e, k _ _ h, g.map k, g'.map k⟩
theorem TestAt.keep {ex : List Addr} {H H' : Hp} {t : Ts} {v : V} (h : TestAt H t v) (k : Keep ex H H') (hx : ∀ b ∈ ex, ∃ xs, H b = some (.lst xs)) : TestAt H' t v :=
  h.map fun a xs e => k.tup (fun b hb => by obtain ⟨xs, e⟩ := hx b hb; exact ⟨_, e, fun _ z => nomatch z⟩) e
theorem TestAt.keep0 {H H' : Hp} {t : Ts} {v : V} (h : TestAt H t v) (k : Keep [] H H') : TestAt H' t v := h.keep k fun b z => absurd z nin0
theorem TestAt.keepP {H H' : Hp} {t : Ts} {v : V} {p : Addr} {n : Nat} (h : TestAt H t v) (k : Keep [p] H H') (hp : PotAt H p n) : TestAt H' t v := h.keep k fun b hb => by rw [List.mem_singleton.mp hb]; exact hp.some
/-- what a fault says to a test -/
def fitsT (ps : List (Str × Str)) (e : Ent) : Ts → Bool
  | .one w x => if w = wKind then under ps e.kind x else if w = wSays then decide (e.text = x) else decide (x ∈ e.notes)
  | .not a => !fitsT ps e a
  | .two w a b => if w = wAnd then fitsT ps e a && fitsT ps e b else fitsT ps e a || fitsT ps e b

abbrev sTst : Stmt := top 49 --def _law_test
abbrev nTst : List Str := ["_law_pot_here", "_law_pairs", "_law_texts_here", "_law_deep", "_law_way", "_law_one", "_law_sorts", "_law_name_here", "_law_above"]
theorem scTst : FnScope nTst ["_law_pot_here", "_law_pairs", "_law_texts_here", "_law_deep"] (defScope sTst) := ⟨rfl, rfl, rfl, by decide +kernel, rfl, by decide +kernel, by decide +kernel⟩
abbrev aTst : List Str := ["_law_pot_here", "_law_pairs", "_law_texts_here", "_law_deep"]
def spTst (d : Nat) : Sp := fun vs H Q _ => ∃ (p l X : Addr) (n dp : Nat) (ps : List (Str × Str)) (tx : List Str), vs = [.ref p, .ref l, .ref X, .int (dp : Int)] ∧ dp < d ∧ PotAt H p n ∧ n + 4 * 2 ^ dp < 2 ^ 31 ∧ PairsAt H l ps ∧ ps.length ≤ 100 ∧ l ≠ p ∧ 1 ≤ tx.length ∧ tx.length ≤ 1000 ∧ (∀ z ∈ tx, IsTx z) ∧ H X = some (.lst (tx.map V.str)) ∧ X ≠ p ∧
  ∀ (H' : Hp) (v : V) (t : Ts) (m : Nat), Keep [p] H H' → TestAt H' t v → t.Ok ps → t.dp ≤ dp → PotAt H' p m → m + 1 ≤ n + 4 * 2 ^ dp → Q v H'
section
variable {P : Program} {w : World} {K : PySem.W.Frag} {mg : Str → Option Value} {base : Heap} {fDg : Addr}
theorem tst0 {f : Addr} {fd : FuncData} {k : Nat} : FnOk P w K mg base CX0 k f fd aTst (spTst 0) :=
  ⟨fun vs H Q E h => by obtain ⟨_, _, _, _, _, _, _, _, h, _⟩ := h; omega, fun A outer s H args us vs Q E _ _ _ _ h => by obtain ⟨_, _, _, _, _, _, _, _, h, _⟩ := h; omega⟩
theorem tstS {f : Addr} {fd dD : FuncData} (F : Fun K "_law_test" "_law_test" sTst f fd) (gR : mg "_law_test" = some (.ref f)) (kR : PySem.W.keepIn K (.ref f) = true) (bR : Binds K fd aTst [])
    (FD : FnOk P w K mg base CX0 1 fDg dD ["_law_pot_here", "_law_many"] spDigit) (gD : mg "_law_digit" = some (.ref fDg)) (kD : PySem.W.keepIn K (.ref fDg) = true) (bD : Binds K dD ["_law_pot_here", "_law_many"] []) (mL : mg "len" = none)
    {d : Nat} (FR : FnOk P w K mg base CX0 (2 + d) f fd aTst (spTst d)) : FnOk P w K mg base CX0 (2 + d + 1) f fd aTst (spTst (d + 1)) := by
  refine F.ok scTst (fun vs H Q E h => ?_) (fun cdv A outer s H vs Q E hr h => ?_)
  · obtain ⟨p, l, X, n, dp, ps, tx, rfl, _⟩ := h
    rfl
  · obtain ⟨p, l, X, n, dp, ps, tx, rfl, hd, pot, hn, hl, hps, nlp, t1, t2, htx, hX, nXp, kk⟩ := h
    have hr1 : Room 1 _ := hr.mono (by omega)
    have lp : ∀ {G : Hp} {m : Nat}, PotAt G p m → ∀ b ∈ [p], ∃ o, G b = some o ∧ ∀ xs, o ≠ .tup xs := fun h => by
      obtain ⟨_, e⟩ := h.some
      exact lst_ex e
    have n1 : 1 ≤ 2 ^ dp := Nat.one_le_two_pow
    obtain ⟨tt, htt, rtt⟩ : ∃ t, PSs (cxOf CX0 P w K mg base nTst "_law_test" (defScope sTst) f cdv A outer s H E).nox ((defBody sTst).drop 3) t ∧ ∀ (De : Ends) (H1 : Hp) (wy : Int), 0 ≤ wy → wy < 8 → Keep [p] H H1 → PotAt H1 p (n + 1) → De.rt = Q →
        t De [some (.ref p), some (.ref l), some (.ref X), some (.int (dp : Int)), some (.int wy), none, none, none, none] H1 := by
      refine ⟨_, pss_cons (ps_if (pt_cmpR op_eq (pe_op op_mod (pv 4) pe_int) pe_int (nomark _))
        (pss_cons (ps_set (i := 6) scTst.nd rfl (Or.inl rfl) (pe_op op_cat (pe_lst (pa_cons pe_str (pa_cons pe_str pa_nil))) (pe_op op_rep (pe_lc (own := [("_law_name_here", 7), ("_law_above", 8)]) (g := gTup K 2 (gCons (gName 7) (gCons (gName 8) gNil))) (tt := tYes) (te := tVar 7) rfl scTst.nd (pi_list (pv 1))
          (blkOk_by (N := nTst) (sc := defScope sTst) (by decide +kernel)) (fun _ _ _ _ _ => by exact (pg_tup rfl (pgs_cons (pg_name (i := 7) scTst.nd rfl (Or.inl rfl)) (pgs_cons (pg_name (i := 8) scTst.nd rfl (Or.inl rfl)) pgs_nil)))) (fun _ _ _ _ _ => pts_nil) (fun _ _ _ _ _ => pv 7)) pe_int)))
        (pss_one (ps_ret (pe_tup (pa_cons pe_str (pa_cons (pe_ix ix_list (pv 6) (pe_call FD hr1 rfl gD kD bD .nil pass0 (pa_cons (pv 0) (pa_cons (pe_callB call_len_seq (by rfl) mL PySem.boot_len (pa_cons (pv 6) pa_nil)) pa_nil))) (fun _ _ => rfl)) pa_nil)))))) pss_nil)
        (pss_one (ps_ret (pe_tup (pa_cons (pe_ix ix_list (pe_lst (pa_cons pe_str (pa_cons pe_str pa_nil))) (pe_op op_mod (pe_op op_fdiv (pv 4) pe_int) pe_int) (fun _ _ => rfl)) (pa_cons (pe_ix ix_list (pv 2) (pe_call FD hr1 rfl gD kD bD .nil pass0 (pa_cons (pv 0) (pa_cons (pe_callB call_len_seq (by rfl) mL PySem.boot_len (pa_cons (pv 2) pa_nil)) pa_nil))) (fun _ _ => rfl)) pa_nil))))), ?_⟩
      intro De H1 wy w0 w1 k1 pot1 rt
      have hl1 := hl.keep k1 (nin1 nlp) (lp pot)
      have hX1 := k1.at hX (nin1 nXp)
      refine ⟨_, rfl, _, _, rfl, rfl, (by show (0 : Int) < 2; decide), rfl, _, rfl, ?_⟩
      refine ite2 (fun _ => ?_) (fun _ => ?_)
      · refine ⟨(by show 2 ≤ sizeLine; decide), fun a ha => ?_⟩
        have h1 : PairsAt (upd H1 a (.lst [.str sF, .str sS])) l ps := hl1.keep (ex := []) (Keep.new ha) nin0 (fun _ z => absurd z nin0)
        obtain ⟨xs, el⟩ := h1.some
        refine ⟨_, rfl, l, rfl, ⟨_, SqL.of el⟩, fun D' hD' => ?_⟩
        refine names_run (K := K) (i := 7) (j := 8) h1 hD' (by omega) (fun _ _ => rfl) (fun _ _ => rfl) fun H2 e2 k2 => ?_
        have ea : H2 a = some (.lst [.str sF, .str sS]) := k2.at upd_same nin0
        refine ⟨D', 2, _, rfl, rfl, e2, by decide, by decide, ?_, fun B hB => ?_⟩
        · rw [List.length_map, List.length_map]
          exact Nat.le_trans (by show ps.length * 2 ≤ 1000; omega) (by decide)
        have eB : ((List.replicate (2 : Int).toNat ((ps.map Prod.fst).map V.str)).flatten) = (ps.map Prod.fst ++ ps.map Prod.fst).map V.str := by
          show (ps.map Prod.fst).map V.str ++ ((ps.map Prod.fst).map V.str ++ []) = _
          rw [List.append_nil, List.map_append]
        rw [eB]
        have kB : Keep [] H2 (upd H2 B (.lst ((ps.map Prod.fst ++ ps.map Prod.fst).map V.str))) := Keep.new hB
        refine ⟨a, B, _, _, rfl, rfl, kB.at ea nin0, upd_same, ?_, fun S hS => ?_⟩
        · show ([V.str sF, V.str sS] : List V).length + _ ≤ sizeLine
          rw [List.length_map, List.length_append, List.length_map]
          exact Nat.le_trans (by show 2 + (ps.length + ps.length) ≤ 1000; omega) (by decide)
        have kS : Keep [] H1 (upd (upd H2 B (.lst ((ps.map Prod.fst ++ ps.map Prod.fst).map V.str))) S (.lst ([V.str sF, V.str sS] ++ (ps.map Prod.fst ++ ps.map Prod.fst).map V.str))) := (((Keep.new ha).trans k2).trans kB).newTo hS
        have eS : (upd (upd H2 B (.lst ((ps.map Prod.fst ++ ps.map Prod.fst).map V.str))) S (.lst ([V.str sF, V.str sS] ++ (ps.map Prod.fst ++ ps.map Prod.fst).map V.str))) S = some (.lst ((sF :: sS :: (ps.map Prod.fst ++ ps.map Prod.fst)).map V.str)) := upd_same
        generalize (upd (upd H2 B (.lst ((ps.map Prod.fst ++ ps.map Prod.fst).map V.str))) S (.lst ([V.str sF, V.str sS] ++ (ps.map Prod.fst ++ ps.map Prod.fst).map V.str))) = H3 at kS eS ⊢
        have pot3 := pot1.keep kS nin0
        obtain ⟨x0, ep0⟩ := pot1.some
        have nSp : S ≠ p := fun z => by
          have := ((Keep.new ha (ex := [])).trans k2 |>.trans kB).at ep0 nin0
          rw [z, this] at hS; cases hS
        have hal : (sF :: sS :: (ps.map Prod.fst ++ ps.map Prod.fst)).length = 2 + (ps.length + ps.length) := by
          rw [List.length_cons, List.length_cons, List.length_append, List.length_map]; omega
        refine ⟨_, rfl, _, rfl, _, rfl, S, _, rfl, .inl (SqL.of eS), p, _, _, rfl, pot3, by omega, by rw [List.length_map, hal]; omega, by rw [List.length_map, hal]; omega, fun c G c0 c1 hkc potc => ?_⟩
        rw [List.length_map] at c1
        obtain ⟨z, hz, hz2, hz3⟩ := digit_in (l := sF :: sS :: (ps.map Prod.fst ++ ps.map Prod.fst)) c0 c1
        have kc := keep_of_dig hkc
        refine ⟨S, _, c, .str z, rfl, rfl, SqL.of (kc.at eS (nin1 nSp)), ?_, ?_⟩
        · rw [← hz3]
          exact atI_nat (by rw [List.getElem?_map, hz2]; rfl)
        refine ⟨(by show 2 ≤ sizeLine; decide), fun t ht => ?_⟩
        have fin := kk (upd G t (.tup [.str wKind, .str z])) (.ref t) (.one wKind z) (n + 1 + 1) ((k1.trans ((kS.more fun b z => absurd z nin0).trans kc)).newTo ht) ⟨t, rfl, upd_same⟩ (.inl ⟨rfl, ?_⟩) (Nat.zero_le _) (potc.keep (Keep.new ht (ex := [])) nin0) (by omega)
        · show De.rt _ _
          rw [rt]
          exact fin
        · rcases List.mem_cons.mp hz with q | q
          · rw [q]; exact List.mem_cons_self
          · rcases List.mem_cons.mp q with q | q
            · rw [q]; exact List.mem_cons_of_mem _ List.mem_cons_self
            · rcases List.mem_append.mp q with q | q <;> exact List.mem_cons_of_mem _ (List.mem_cons_of_mem _ q)
      · refine ⟨(by show 2 ≤ sizeLine; decide), fun L hL => ?_⟩
        have kL : Keep [] H1 (upd H1 L (.lst [.str wSays, .str wNoted])) := Keep.new hL
        have eL : (upd H1 L (.lst [.str wSays, .str wNoted])) L = some (.lst [.str wSays, .str wNoted]) := upd_same
        generalize (upd H1 L (.lst [.str wSays, .str wNoted])) = G2 at kL eL ⊢
        obtain ⟨wd, hwd, hat⟩ : ∃ wd : Str, (wd = wSays ∨ wd = wNoted) ∧ atI [V.str wSays, V.str wNoted] (wy / 2 % 2) = some (.str wd) := by
          rcases (show wy / 2 % 2 = 0 ∨ wy / 2 % 2 = 1 by omega) with q | q
          · exact ⟨wSays, .inl rfl, by rw [q]; rfl⟩
          · exact ⟨wNoted, .inr rfl, by rw [q]; rfl⟩
        refine ⟨_, rfl, _, _, rfl, rfl, ⟨by decide, by decide⟩, _, _, rfl, rfl, (by show (0 : Int) < 2; decide), L, _, _, _, rfl, rfl, SqL.of eL, hat, ?_⟩
        have pot2 := pot1.keep kL nin0
        refine ⟨_, rfl, _, rfl, _, rfl, X, _, rfl, .inl (SqL.of (kL.at hX1 nin0)), p, _, _, rfl, pot2, by omega, by rw [List.length_map]; omega, by rw [List.length_map]; omega, fun c G c0 c1 hkc potc => ?_⟩
        rw [List.length_map] at c1
        obtain ⟨z, hz, hz2, hz3⟩ := digit_in (l := tx) c0 c1
        have kc := keep_of_dig hkc
        refine ⟨X, _, c, .str z, rfl, rfl, SqL.of (kc.at (kL.at hX1 nin0) (nin1 nXp)), ?_, ?_⟩
        · rw [← hz3]
          exact atI_nat (by rw [List.getElem?_map, hz2]; rfl)
        refine ⟨(by show 2 ≤ sizeLine; decide), fun t ht => ?_⟩
        have fin := kk (upd G t (.tup [.str wd, .str z])) (.ref t) (.one wd z) (n + 1 + 1) ((k1.trans ((kL.more fun b z => absurd z nin0).trans kc)).newTo ht) ⟨t, rfl, upd_same⟩ (.inr ⟨hwd, htx z hz⟩) (Nat.zero_le _) (potc.keep (Keep.new ht (ex := [])) nin0) (by omega)
        show De.rt _ _
        rw [rt]
        exact fin
    refine ⟨_, pss_cons (ps_set (i := 4) scTst.nd rfl (Or.inl rfl) (pe_call FD hr1 rfl gD kD bD .nil pass0 (pa_cons (pv 0) (pa_cons pe_int pa_nil))))
      (pss_cons (ps_if (PW.pt (pw_and (pt_cmpR op_gt (pv 3) pe_int (nomark _)) (pw_and1 (pt_cmpR op_eq (pv 4) pe_int (nomark _)))))
        (pss_one (ps_ret (pe_tup (pa_cons pe_str (pa_cons (pe_call FR hr rfl gR kR bR .nil pass0 (pa_cons (pv 0) (pa_cons (pv 1) (pa_cons (pv 2) (pa_cons (pe_op op_sub (pv 3) pe_int) pa_nil))))) pa_nil))))) pss_nil)
      (pss_cons (ps_if (PW.pt (pw_and (pt_cmpR op_gt (pv 3) pe_int (nomark _)) (pw_and1 (pt_cmpR op_lt (pv 4) pe_int (nomark _)))))
        (pss_cons (ps_set (i := 5) scTst.nd rfl (Or.inl rfl) (pe_call FR hr rfl gR kR bR .nil pass0 (pa_cons (pv 0) (pa_cons (pv 1) (pa_cons (pv 2) (pa_cons (pe_op op_sub (pv 3) pe_int) pa_nil))))))
        (pss_one (ps_ret (pe_tup (pa_cons (pe_ix ix_list (pe_lst (pa_cons pe_str (pa_cons pe_str pa_nil))) (pe_op op_mod (pv 4) pe_int) (fun _ _ => rfl)) (pa_cons (pv 5) (pa_cons (pe_call FR hr rfl gR kR bR .nil pass0 (pa_cons (pv 0) (pa_cons (pv 1) (pa_cons (pv 2) (pa_cons (pe_op op_sub (pv 3) pe_int) pa_nil))))) pa_nil))))))) pss_nil)
        htt)), ?_⟩
    refine ⟨_, rfl, p, n, 8, rfl, pot, by omega, by decide, by decide, fun wy H1 w0 w1 hk1 pot1 => ?_⟩
    have k1 := keep_of_dig hk1
    have hl1 := hl.keep k1 (nin1 nlp) (lp pot)
    have hX1 := k1.at hX (nin1 nXp)
    -- one below
    have below : ∀ (G : Hp) (m : Nat) (Q' : VK), 0 < dp → Keep [p] H G → PotAt G p m → m + 4 * 2 ^ (dp - 1) ≤ n + 4 * 2 ^ dp → (∀ (G' : Hp) (v : V) (t : Ts) (m' : Nat), Keep [p] G G' → TestAt G' t v → t.Ok ps → t.dp + 1 ≤ dp → PotAt G' p m' → m' + 1 ≤ m + 4 * 2 ^ (dp - 1) → Q' v G') →
        spTst d [.ref p, .ref l, .ref X, .int ((dp : Int) - 1)] G Q' E := fun G m Q' h0 kG pG hm hq => by
      refine ⟨p, l, X, m, dp - 1, ps, tx, by rw [show ((dp : Int) - 1) = ((dp - 1 : Nat) : Int) by omega], by omega, pG, by omega, hl.keep kG (nin1 nlp) (lp pot), hps, nlp, t1, t2, htx, kG.at hX (nin1 nXp), nXp, fun G' v t m' k' ta ok hdp p' hm' => ?_⟩
      exact hq G' v t m' k' ta ok (by omega) p' hm'
    have two : 0 < dp → 2 ^ dp = 2 * 2 ^ (dp - 1) := fun h => by
      obtain ⟨j, rfl⟩ : ∃ j, dp = j + 1 := ⟨dp - 1, by omega⟩
      rw [Nat.add_sub_cancel, Nat.pow_succ]; omega
    refine ⟨_, rfl, _, _, rfl, rfl, _, rfl, ?_⟩
    by_cases h0 : 0 < dp
    · have e2 := two h0
      have n2 : 1 ≤ 2 ^ (dp - 1) := Nat.one_le_two_pow
      rw [decide_eq_true (show (dp : Int) > 0 by omega)]
      refine iteT ⟨_, rfl, rfl, _, rfl, ?_⟩
      refine ite2 (fun _ => ?_) (fun _ => ?_)
      · refine ⟨_, rfl, _, rfl, _, rfl, _, rfl, _, _, rfl, rfl, ?_⟩
        refine below _ _ _ h0 k1 pot1 (by omega) fun G v t m kG ta ok hdp pG hm => ?_
        refine ⟨(by show 2 ≤ sizeLine; decide), fun a ha => ?_⟩
        have ka : Keep [] G (upd G a (.tup [.str wNot, v])) := Keep.new ha
        exact kk _ (.ref a) (.not t) m ((k1.trans kG).newTo ha) ⟨a, v, rfl, upd_same, ta.keep0 ka⟩ ok hdp (pG.keep ka nin0) (by omega)
      · refine ⟨_, rfl, _, _, rfl, rfl, _, rfl, ?_⟩
        rw [decide_eq_true (show (dp : Int) > 0 by omega)]
        refine iteT ⟨_, rfl, _, _, rfl, rfl, _, rfl, ?_⟩
        refine ite2 (fun hw => ?_) (fun _ => ?_)
        · refine ⟨_, rfl, _, rfl, _, rfl, _, rfl, _, _, rfl, rfl, ?_⟩
          refine below _ _ _ h0 k1 pot1 (by omega) fun G v t m kG ta ok hdp pG hm => ?_
          refine ⟨(by show 2 ≤ sizeLine; decide), fun L hL => ?_⟩
          have kL : Keep [] G (upd G L (.lst [.str wAnd, .str wOr])) := Keep.new hL
          have eL : (upd G L (.lst [.str wAnd, .str wOr])) L = some (.lst [.str wAnd, .str wOr]) := upd_same
          generalize (upd G L (.lst [.str wAnd, .str wOr])) = G2 at kL eL ⊢
          obtain ⟨wd, hwd, hat⟩ : ∃ wd : Str, (wd = wAnd ∨ wd = wOr) ∧ atI [V.str wAnd, V.str wOr] (wy % 2) = some (.str wd) := by
            rcases (show wy % 2 = 0 ∨ wy % 2 = 1 by omega) with q | q
            · exact ⟨wAnd, .inl rfl, by rw [q]; rfl⟩
            · exact ⟨wOr, .inr rfl, by rw [q]; rfl⟩
          refine ⟨_, rfl, _, _, rfl, rfl, (by show (0 : Int) < 2; decide), L, _, _, _, rfl, rfl, SqL.of eL, hat, ?_⟩
          refine ⟨_, rfl, _, rfl, _, rfl, _, rfl, _, rfl, _, _, rfl, rfl, ?_⟩
          have kG2 := (k1.trans kG).trans (kL.more fun b z => absurd z nin0)
          have pG2 := pG.keep kL nin0
          refine below _ _ _ h0 kG2 pG2 (by omega) fun G3 v' t' m' kG3 ta' ok' hdp' pG3 hm' => ?_
          refine ⟨(by show 3 ≤ sizeLine; decide), fun a ha => ?_⟩
          have ka : Keep [] G3 (upd G3 a (.tup [.str wd, v, v'])) := Keep.new ha
          exact kk _ (.ref a) (.two wd t t') m' ((kG2.trans kG3).newTo ha) ⟨a, v, v', rfl, upd_same, ((ta.keep0 kL).keepP kG3 pG2).keep0 ka, ta'.keep0 ka⟩ ⟨hwd, ok, ok'⟩ (by show Nat.max t.dp t'.dp + 1 ≤ dp; exact Nat.succ_le_of_lt (Nat.lt_of_lt_of_le (Nat.lt_succ_of_le (Nat.max_le.mpr ⟨Nat.le_sub_one_of_lt hdp, Nat.le_sub_one_of_lt hdp'⟩)) (by omega))) (pG3.keep ka nin0) (by omega)
        · exact rtt _ H1 wy w0 w1 k1 pot1 rfl
    · rw [decide_eq_false (show ¬ (dp : Int) > 0 by omega)]
      refine iteF (iteF ?_)
      refine ⟨_, rfl, _, _, rfl, rfl, _, rfl, ?_⟩
      rw [decide_eq_false (show ¬ (dp : Int) > 0 by omega)]
      refine iteF (iteF ?_)
      exact rtt _ H1 wy w0 w1 k1 pot1 rfl
theorem ok_tst {f : Addr} {fd dD : FuncData} (F : Fun K "_law_test" "_law_test" sTst f fd) (gR : mg "_law_test" = some (.ref f)) (kR : PySem.W.keepIn K (.ref f) = true) (bR : Binds K fd aTst [])
    (FD : FnOk P w K mg base CX0 1 fDg dD ["_law_pot_here", "_law_many"] spDigit) (gD : mg "_law_digit" = some (.ref fDg)) (kD : PySem.W.keepIn K (.ref fDg) = true) (bD : Binds K dD ["_law_pot_here", "_law_many"] []) (mL : mg "len" = none) : ∀ d : Nat, FnOk P w K mg base CX0 (2 + d) f fd aTst (spTst d)
  | 0 => tst0
  | d + 1 => tstS F gR kR bR FD gD kD bD mL (ok_tst F gR kR bR FD gD kD bD mL d)
end
end Fs
/-! What the law says of a fault and a test. -/
namespace Fs
open PySem L2 TL
theorem iteWf {a b : Str} {A B : Prop} (h : a ≠ b) (x : B) : if decide (V.str a = V.str b) = true then A else B := by
  rw [decide_eq_false (fun z => h (V.str.inj z))]
  exact iteF x
theorem iteWt {a b : Str} {A B : Prop} (h : a = b) (x : A) : if decide (V.str a = V.str b) = true then A else B := by
  rw [decide_eq_true (show V.str a = V.str b by rw [h])]
  exact iteT x
theorem nSK : wSays ≠ wKind := by decide +kernel
theorem nNK : wNoted ≠ wKind := by decide +kernel
theorem nNS : wNoted ≠ wSays := by decide +kernel
theorem ntK : wNot ≠ wKind := by decide +kernel
theorem ntS : wNot ≠ wSays := by decide +kernel
theorem ntN : wNot ≠ wNoted := by decide +kernel
theorem naO : wOr ≠ wAnd := by decide +kernel
theorem two_ne {wd : Str} (h : wd = wAnd ∨ wd = wOr) : wd ≠ wKind ∧ wd ≠ wSays ∧ wd ≠ wNoted ∧ wd ≠ wNot := by
  rcases h with h | h <;> rw [h] <;> decide +kernel
theorem eqTT (a b : Bool) : PyData.eqv (.list [.bool a, .bool b]) (.list [.bool true, .bool true]) = (a && b) := by cases a <;> cases b <;> decide
theorem eqFF (a b : Bool) : (!PyData.eqv (.list [.bool a, .bool b]) (.list [.bool false, .bool false])) = (a || b) := by cases a <;> cases b <;> decide
theorem shB (a b : Bool) : SeqAt.shaped (.list [.bool a, .bool b]) = true := by cases a <;> cases b <;> decide
theorem dpB {K : PySem.W.Frag} {H : Hp} {p : Addr} {a b : Bool} (h : H p = some (.lst [.bl a, .bl b])) : Dp K H (.ref p) (.list [.bool a, .bool b]) := .lst (SqL.of h) (.cons (.bl a) (.cons (.bl b) .nil))
abbrev sFit : Stmt := top 48 --def _law_fits
abbrev nFit : List Str := ["_law_pairs", "_law_fault", "_law_test_here", "_law_both", "_law_one"]
abbrev aFit : List Str := ["_law_pairs", "_law_fault", "_law_test_here"]
theorem scFit : FnScope nFit aFit (defScope sFit) := ⟨rfl, rfl, rfl, by decide +kernel, rfl, by decide +kernel, by decide +kernel⟩
def spFit (d : Nat) : Sp := fun vs H Q _ => ∃ (l r : Addr) (v : V) (ps : List (Str × Str)) (e : Ent) (t : Ts), vs = [.ref l, .ref r, v] ∧ t.dp < d ∧ PairsAt H l ps ∧ Wf ps ∧ ps.length ≤ 100 ∧ e.kind ∈ allK ps ∧ (∃ bad, RowAt bad H r e) ∧ TestAt H t v ∧ t.Ok ps ∧ ∀ H', Keep [] H H' → Q (.bl (fitsT ps e t)) H'
section
variable {P : Program} {w : World} {K : PySem.W.Frag} {mg : Str → Option Value} {base : Heap} {fU : Addr}
theorem fit0 {f : Addr} {fd : FuncData} {k : Nat} : FnOk P w K mg base CX0 k f fd aFit (spFit 0) :=
  ⟨fun vs H Q E h => by obtain ⟨_, _, _, _, _, _, _, h, _⟩ := h; omega, fun A outer s H args us vs Q E _ _ _ _ h => by obtain ⟨_, _, _, _, _, _, _, h, _⟩ := h; omega⟩
theorem fitS {f : Addr} {fd dU : FuncData} (F : Fun K "_law_fits" "_law_fits" sFit f fd) (gR : mg "_law_fits" = some (.ref f)) (kR : PySem.W.keepIn K (.ref f) = true) (bR : Binds K fd aFit [])
    (FU : FnOk P w K mg base CX0 1 fU dU ["_law_pairs", "_law_name_here", "_law_other"] spUnd) (gU : mg "_law_under" = some (.ref fU)) (kU : PySem.W.keepIn K (.ref fU) = true) (bU : Binds K dU ["_law_pairs", "_law_name_here", "_law_other"] [])
    {d : Nat} (FR : FnOk P w K mg base CX0 (2 + d) f fd aFit (spFit d)) : FnOk P w K mg base CX0 (2 + d + 1) f fd aFit (spFit (d + 1)) := by
  refine F.ok scFit (fun vs H Q E h => ?_) (fun cdv A outer s H vs Q E hr h => ?_)
  · obtain ⟨l, r, v, ps, e, t, rfl, _⟩ := h
    rfl
  · obtain ⟨l, r, v, ps, e, t, rfl, hd, hl, hw, hps, hk, ⟨bad, m, n, b1, b2, b3, h4, h5, h6⟩, ta, ok, kk⟩ := h
    have hr1 : Room 1 _ := hr.mono (by omega)
    have hu := hr.units
    have t0 : ∀ (X : Cx) (p : Pos), True := fun _ _ => trivial
    refine ⟨_, pss_cons (ps_if (pt_cmpR op_eq (pe_ix ix_tup (pv 2) pe_int (fun _ _ => rfl)) pe_str (nomark _))
        (pss_one (ps_ret (pe_call FU hr1 rfl gU kU bU .nil pass0 (pa_cons (pv 0) (pa_cons (pe_ix ix_list (pv 1) pe_int (fun _ _ => rfl)) (pa_cons (pe_ix ix_tup (pv 2) pe_int (fun _ _ => rfl)) pa_nil)))))) pss_nil)
      (pss_cons (ps_if (pt_cmpR op_eq (pe_ix ix_tup (pv 2) pe_int (fun _ _ => rfl)) pe_str (nomark _))
        (pss_one (ps_ret (pe_cmpR op_eq (pe_ix ix_list (pv 1) pe_int (fun _ _ => rfl)) (pe_ix ix_tup (pv 2) pe_int (fun _ _ => rfl)) (nomark _)))) pss_nil)
      (pss_cons (ps_if (pt_cmpR op_eq (pe_ix ix_tup (pv 2) pe_int (fun _ _ => rfl)) pe_str (nomark _))
        (pss_one (ps_ret (pe_cmpR op_in_seq (pe_ix ix_tup (pv 2) pe_int (fun _ _ => rfl)) (pe_ix ix_list (pv 1) pe_int (fun _ _ => rfl)) (by rfl)))) pss_nil)
      (pss_cons (ps_if (pt_cmpR op_eq (pe_ix ix_tup (pv 2) pe_int (fun _ _ => rfl)) pe_str (nomark _))
        (pss_one (ps_ret (pe_not (pe_call FR hr rfl gR kR bR .nil pass0 (pa_cons (pv 0) (pa_cons (pv 1) (pa_cons (pe_ix ix_tup (pv 2) pe_int (fun _ _ => rfl)) pa_nil))))))) pss_nil)
      (pss_cons (ps_setLc (i := 3) (own := [("_law_one", 4)]) (g := gName 4) (tt := tYes) (te := tCall (spFit d) [] E0 (tCons (tVar 0) (tCons (tVar 1) (tCons (tVar 4) tNil)))) rfl scFit.nd rfl rfl (sw_true rfl rfl rfl (by decide +kernel)) (pi_tup (pe_slice sl_tupA (pv 2) (po_some pe_int) po_none))
          (blkOk_by (N := nFit) (sc := defScope sFit) (by decide +kernel)) (fun _ _ _ _ _ => pg_name (i := 4) scFit.nd rfl (Or.inl rfl)) (fun _ _ _ _ _ => pts_nil) (fun _ _ _ _ _ => by exact (pe_call FR hr rfl gR kR bR .nil pass0 (pa_cons (pv 0) (pa_cons (pv 1) (pa_cons (pv 4) pa_nil))))))
      (pss_cons (ps_if (pt_cmpR op_eq (pe_ix ix_tup (pv 2) pe_int (fun _ _ => rfl)) pe_str (nomark _))
        (pss_one (ps_ret (pe_cmpR (op_eqD hu) (pv 3) (pe_lst (pa_cons pe_bl (pa_cons pe_bl pa_nil))) (nomark _)))) pss_nil)
      (pss_one (ps_ret (pe_cmpR (op_neD hu) (pv 3) (pe_lst (pa_cons pe_bl (pa_cons pe_bl pa_nil))) (nomark _))))))))), ?_⟩
    cases t with
    | one wd x =>
      obtain ⟨p, rfl, hp⟩ := ta
      refine ⟨_, rfl, p, _, 0, .str wd, rfl, rfl, SqT.of hp, rfl, rfl, _, rfl, ?_⟩
      rcases ok with ⟨rfl, hx⟩ | ⟨rfl | rfl, hx⟩
      · refine iteWt rfl ?_
        refine ⟨_, rfl, _, rfl, r, _, 0, .str e.kind, rfl, rfl, SqL.of h4, rfl, ?_⟩
        refine ⟨_, rfl, p, _, 1, .str x, rfl, rfl, SqT.of hp, rfl, ?_⟩
        refine ⟨l, e.kind, x, ps, rfl, hl, hw, hps, hk, fun H' k => ?_⟩
        exact kk H' k
      · refine iteWf nSK ?_
        refine ⟨_, rfl, p, _, 0, .str wSays, rfl, rfl, SqT.of hp, rfl, rfl, _, rfl, iteWt rfl ?_⟩
        refine ⟨_, rfl, r, _, 1, .str e.text, rfl, rfl, SqL.of h4, rfl, ?_⟩
        refine ⟨_, rfl, p, _, 1, .str x, rfl, rfl, SqT.of hp, rfl, ?_⟩
        refine ⟨rfl, ?_⟩
        have := kk H (Keep.refl _ _)
        unfold fitsT at this
        rw [if_neg nSK, if_pos rfl] at this
        have e1 : decide (V.str e.text = V.str x) = decide (e.text = x) := by simp
        rw [e1]; exact this
      · refine iteWf nNK ?_
        refine ⟨_, rfl, p, _, 0, .str wNoted, rfl, rfl, SqT.of hp, rfl, rfl, _, rfl, iteWf nNS ?_⟩
        refine ⟨_, rfl, p, _, 0, .str wNoted, rfl, rfl, SqT.of hp, rfl, rfl, _, rfl, iteWt rfl ?_⟩
        refine ⟨_, rfl, p, _, 1, .str x, rfl, rfl, SqT.of hp, rfl, ?_⟩
        refine ⟨_, rfl, r, _, 3, .ref n, rfl, rfl, SqL.of h4, rfl, ?_⟩
        refine ⟨n, _, rfl, .inl (SqL.of h6), rfl, ?_, ?_⟩
        · rw [List.all_eq_true]
          intro y hy
          obtain ⟨z, _, rfl⟩ := List.mem_map.mp hy
          rfl
        have := kk H (Keep.refl _ _)
        unfold fitsT at this
        rw [if_neg nNK, if_neg nNS] at this
        show Q (.bl (inV (.str x) (e.notes.map V.str))) H
        rw [inV_strs]; exact this
    | not a =>
      obtain ⟨p, u, rfl, hp, tu⟩ := ta
      refine ⟨_, rfl, p, _, 0, .str wNot, rfl, rfl, SqT.of hp, rfl, rfl, _, rfl, iteWf ntK ?_⟩
      refine ⟨_, rfl, p, _, 0, .str wNot, rfl, rfl, SqT.of hp, rfl, rfl, _, rfl, iteWf ntS ?_⟩
      refine ⟨_, rfl, p, _, 0, .str wNot, rfl, rfl, SqT.of hp, rfl, rfl, _, rfl, iteWf ntN ?_⟩
      refine ⟨_, rfl, p, _, 0, .str wNot, rfl, rfl, SqT.of hp, rfl, rfl, _, rfl, iteWt rfl ?_⟩
      refine ⟨_, rfl, _, rfl, _, rfl, p, _, 1, u, rfl, rfl, SqT.of hp, rfl, ?_⟩
      refine ⟨l, r, u, ps, e, a, rfl, Nat.lt_of_succ_lt_succ hd, hl, hw, hps, hk, ⟨bad, m, n, b1, b2, b3, h4, h5, h6⟩, tu, ok, fun H' k => ?_⟩
      exact ⟨_, rfl, kk H' k⟩
    | two wd a b =>
      obtain ⟨p, u, u', rfl, hp, tu, tu'⟩ := ta
      obtain ⟨hwd, ok1, ok2⟩ := ok
      obtain ⟨n1, n2, n3, n4⟩ := two_ne hwd
      refine ⟨_, rfl, p, _, 0, .str wd, rfl, rfl, SqT.of hp, rfl, rfl, _, rfl, iteWf n1 ?_⟩
      refine ⟨_, rfl, p, _, 0, .str wd, rfl, rfl, SqT.of hp, rfl, rfl, _, rfl, iteWf n2 ?_⟩
      refine ⟨_, rfl, p, _, 0, .str wd, rfl, rfl, SqT.of hp, rfl, rfl, _, rfl, iteWf n3 ?_⟩
      refine ⟨_, rfl, p, _, 0, .str wd, rfl, rfl, SqT.of hp, rfl, rfl, _, rfl, iteWf n4 ?_⟩
      refine ⟨_, rfl, _, rfl, ?_⟩
      dsimp only [tNoPart]
      refine slA_one hp fun c H1 k1 ec => ?_
      have ec : H1 c = some (.tup [u, u']) := ec
      refine ⟨c, rfl, ⟨_, SqT.of ec⟩, fun D hD => ?_⟩
      have hdp : Nat.max a.dp b.dp < d := Nat.lt_of_succ_lt_succ hd
      have da : a.dp < d := Nat.lt_of_le_of_lt (Nat.le_max_left _ _) hdp
      have db : b.dp < d := Nat.lt_of_le_of_lt (Nat.le_max_right _ _) hdp
      refine lc_tup (K := K) (a := c) (xs := [u, u']) (fun i H' => Keep [] H1 H' ∧ H' D = some (.lst (([fitsT ps e a, fitsT ps e b].take i).map V.bl))) ⟨Keep.new hD, upd_same⟩ (fun i H' _ hI => SqT.of (hI.1.at ec nin0)) (fun i x H' hx hI => ?_) (fun H' hI => ?_)
      · obtain ⟨kI, eD⟩ := hI
        have kH := k1.trans kI
        have row : RowAt [] H r e := ⟨m, n, nin0, nin0, nin0, h4, h5, h6⟩
        have hl' := hl.keep kH nin0 (fun _ z => absurd z nin0)
        have row' : RowAt [] H' r e := row.imp kH fun _ n _ => n
        have step : ∀ (i : Nat) (q : Bool) (H2 : Hp), [fitsT ps e a, fitsT ps e b][i]? = some q → i < 2 → Keep [] H' H2 → ([fitsT ps e a, fitsT ps e b].take i).map V.bl = ([fitsT ps e a, fitsT ps e b].take i).map V.bl → H' D = some (.lst (([fitsT ps e a, fitsT ps e b].take i).map V.bl)) →
            ∃ acc, H2 D = some (.lst acc) ∧ acc.length < sizeLine ∧ (Keep [] H1 (upd H2 D (.lst (acc ++ [.bl q]))) ∧ (upd H2 D (.lst (acc ++ [.bl q]))) D = some (.lst (([fitsT ps e a, fitsT ps e b].take (i + 1)).map V.bl))) := fun i q H2 hq hi k2 _ eD => by
          refine ⟨_, k2.at eD nin0, ?_, fun z o hz ho => ?_, ?_⟩
          · rw [List.length_map, List.length_take]
            exact Nat.lt_of_le_of_lt (Nat.min_le_left _ _) (Nat.lt_trans hi (by decide))
          · rw [upd_ne (ne_of_none ho hD)]
            exact k2.at (kI z o hz ho) nin0
          · rw [upd_same, List.take_add_one, hq, List.map_append]; rfl
        match i, hx with
        | 0, hx =>
          cases hx
          refine ⟨rfl, tyes ?_⟩
          refine ⟨_, rfl, _, rfl, _, rfl, l, r, u, ps, e, a, rfl, da, hl', hw, hps, hk, ⟨[], row'⟩, tu.keep0 kH, ok1, fun H2 k2 => ?_⟩
          exact step 0 _ H2 rfl (by decide) k2 rfl eD
        | 1, hx =>
          cases hx
          refine ⟨rfl, tyes ?_⟩
          refine ⟨_, rfl, _, rfl, _, rfl, l, r, u', ps, e, b, rfl, db, hl', hw, hps, hk, ⟨[], row'⟩, tu'.keep0 kH, ok2, fun H2 k2 => ?_⟩
          exact step 1 _ H2 rfl (by decide) k2 rfl eD
      · obtain ⟨kI, eD⟩ := hI
        have eD : H' D = some (.lst [.bl (fitsT ps e a), .bl (fitsT ps e b)]) := eD
        have kH := k1.trans kI
        have hp' := kH.at hp nin0
        refine ⟨_, rfl, p, _, 0, .str wd, rfl, rfl, SqT.of hp', rfl, rfl, _, rfl, ?_⟩
        rcases hwd with rfl | rfl
        · refine iteWt rfl ?_
          refine ⟨_, rfl, (by show 2 ≤ sizeLine; decide), fun L hL => ?_⟩
          have kL : Keep [] H' (upd H' L (.lst [.bl true, .bl true])) := Keep.new hL
          refine ⟨_, _, dpB (kL.at eD nin0), dpB upd_same, shB _ _, shB _ _, ?_⟩
          rw [eqTT]
          have := kk _ (kH.trans kL)
          unfold fitsT at this
          rw [if_pos rfl] at this
          exact this
        · refine iteWf naO ?_
          refine ⟨_, rfl, (by show 2 ≤ sizeLine; decide), fun L hL => ?_⟩
          have kL : Keep [] H' (upd H' L (.lst [.bl false, .bl false])) := Keep.new hL
          refine ⟨_, _, dpB (kL.at eD nin0), dpB upd_same, shB _ _, shB _ _, ?_⟩
          rw [eqFF]
          have := kk _ (kH.trans kL)
          unfold fitsT at this
          rw [if_neg naO] at this
          exact this
theorem ok_fit {f : Addr} {fd dU : FuncData} (F : Fun K "_law_fits" "_law_fits" sFit f fd) (gR : mg "_law_fits" = some (.ref f)) (kR : PySem.W.keepIn K (.ref f) = true) (bR : Binds K fd aFit [])
    (FU : FnOk P w K mg base CX0 1 fU dU ["_law_pairs", "_law_name_here", "_law_other"] spUnd) (gU : mg "_law_under" = some (.ref fU)) (kU : PySem.W.keepIn K (.ref fU) = true) (bU : Binds K dU ["_law_pairs", "_law_name_here", "_law_other"] []) : ∀ d : Nat, FnOk P w K mg base CX0 (2 + d) f fd aFit (spFit d)
  | 0 => fit0
  | d + 1 => fitS F gR kR bR FU gU kU bU (ok_fit F gR kR bR FU gU kU bU d)
end
end Fs
/-! The program's tests: is_test. -/
namespace Fs
open PySem L2 TL
/-- the words that have tests behind them -/
structure TBx (K : PySem.W.Frag) (mg : Str → Option Value) (w : World) (d : Addr) : Prop where
  g : mg "_TESTS_BEHIND" = some (.ref d)
  kd : ∃ es n, KDict K w d es n
  hN : ∃ u, PySem.W.nsIn K d wNot = some (some u) ∧ RelV (.int 1) u
  hA : ∃ u, PySem.W.nsIn K d wAnd = some (some u) ∧ RelV (.int 2) u
  hO : ∃ u, PySem.W.nsIn K d wOr = some (some u) ∧ RelV (.int 2) u
  nK : PySem.W.nsIn K d wKind = some none
  nS : PySem.W.nsIn K d wSays = some none
  nN : PySem.W.nsIn K d wNoted = some none
theorem TBx.dct {K : PySem.W.Frag} {mg : Str → Option Value} {w : World} {d : Addr} (T : TBx K mg w d) {z : Str} {v : V} (h : ∃ u, PySem.W.nsIn K d z = some (some u) ∧ RelV v u) : KDct K w d z v := by
  obtain ⟨es, n, D⟩ := T.kd
  obtain ⟨u, e, r⟩ := h
  exact ⟨es, n, u, D.at_, D.lit, e, r⟩
abbrev sSing : Stmt := top 17 --def _is_single
abbrev nSing : List Str := ["kinds", "thing", "word", "told"]
theorem scSing : FnScope nSing ["kinds", "thing"] (defScope sSing) := ⟨rfl, rfl, rfl, by decide +kernel, rfl, by decide +kernel, by decide +kernel⟩
def spSing (CK : Addr) : Sp := fun vs H Q _ => ∃ (kd p : Addr) (ps : List (Str × Str)) (wd x : Str), vs = [.ref kd, .ref p] ∧ KindsAt CK H kd ps ∧ H p = some (.tup [.str wd, .str x]) ∧ ((wd = wKind ∧ x ∈ allK ps) ∨ (wd = wSays ∨ wd = wNoted)) ∧ ∀ H', Keep [] H H' → Q (.bl true) H'
abbrev sIsT : Stmt := top 14 --def is_test
abbrev nIsT : List Str := ["kinds", "thing", "waiting", "found"]
theorem scIsT : FnScope nIsT ["kinds", "thing"] (defScope sIsT) := ⟨rfl, rfl, rfl, by decide +kernel, rfl, by decide +kernel, by decide +kernel⟩
def spIsT (CK : Addr) : Sp := fun vs H Q _ => ∃ (kd : Addr) (v : V) (ps : List (Str × Str)) (t : Ts), vs = [.ref kd, v] ∧ KindsAt CK H kd ps ∧ TestAt H t v ∧ t.Ok ps ∧ t.dp ≤ 9 ∧ ∀ H', Keep [] H H' → Q (.bl true) H'
section
variable {P : Program} {w : World} {K : PySem.W.Frag} {mg : Str → Option Value} {base : Heap} {C CK fI fK fN fT dT : Addr}
theorem ok_sing {f : Addr} {fd dK dTx : FuncData} (F : Fun K "_is_single" "_is_single" sSing f fd) (T : KTxt K mg CK fI fK fN) (FK : FnOk P w K mg base CX0 2 fK dK ["self", "thing"] (spIsKind CK)) (bK : Binds K dK ["self", "thing"] [])
    (FT : FnOk P w K mg base CX0 1 fT dTx ["thing"] spIsText) (gT : mg "is_text" = some (.ref fT)) (kT : PySem.W.keepIn K (.ref fT) = true) (bT : Binds K dTx ["thing"] []) (mL : mg "len" = none) :
    FnOk P w K mg base CX0 3 f fd ["kinds", "thing"] (spSing CK) := by
  refine F.ok scSing (fun vs H Q E h => ?_) (fun cdv A outer s H vs Q E hr h => ?_)
  · obtain ⟨kd, p, ps, wd, x, rfl, _⟩ := h
    rfl
  · obtain ⟨kd, p, ps, wd, x, rfl, hK, hp, hw, kk⟩ := h
    have hr1 : Room 1 _ := hr.mono (by omega)
    obtain ⟨dk, dd, g1, g2⟩ := id hK
    refine ⟨_, pss_cons (ps_if (pt_cmpR op_ne (pe_callB call_len_seq (by rfl) mL PySem.boot_len (pa_cons (pv 1) pa_nil)) pe_int (nomark _)) (pss_one (ps_ret pe_bl)) pss_nil)
      (pss_cons (ps_asg (pv 1) (pg_tup rfl (pgs_cons (pg_name (i := 2) scSing.nd rfl (Or.inl rfl)) (pgs_cons (pg_name (i := 3) scSing.nd rfl (Or.inl rfl)) pgs_nil))))
      (pss_cons (ps_if (pt_cmpR op_eq (pv 2) pe_str (nomark _)) (pss_one (ps_ret (pe_meth (pv 0) T.cl T.mK FK hr bK .nil pass0 (pa_cons (pv 3) pa_nil)))) pss_nil)
      (pss_one (ps_ret (pe_and (pe_cmpR op_in_seq (pv 2) (pe_tup (pa_cons pe_str (pa_cons pe_str pa_nil))) (by rfl)) (pe_one (pe_call FT hr1 rfl gT kT bT .nil pass0 (pa_cons (pv 3) pa_nil)))))))), ?_⟩
    refine ⟨_, rfl, p, _, rfl, .inr (SqT.of hp), rfl, _, rfl, iteNS rfl ?_⟩
    refine ⟨_, rfl, p, _, rfl, SqT.of hp, rfl, _, _, rfl, _, _, rfl, rfl, ?_⟩
    refine ⟨_, rfl, rfl, _, rfl, ?_⟩
    rcases hw with ⟨rfl, hx⟩ | hw
    · refine iteWt rfl ?_
      refine ⟨_, rfl, kd, dk, _, rfl, g1, ab_no _ (by decide +kernel), _, rfl, kd, x, ps, rfl, hK, ?_⟩
      rw [decide_eq_true hx]
      exact kk H (Keep.refl _ _)
    · have nK : wd ≠ wKind := by rcases hw with rfl | rfl; exact nSK; exact nNK
      refine iteWf nK ?_
      refine ⟨_, rfl, (by show 2 ≤ sizeLine; decide), fun t ht => ?_⟩
      refine ⟨t, _, rfl, .inr (SqT.of upd_same), rfl, rfl, true, ?_, ?_⟩
      · rcases hw with rfl | rfl <;> decide +kernel
      · refine iteT ⟨_, rfl, x, rfl, ?_⟩
        exact kk _ (Keep.new ht)
theorem ok_isT {f fS : Addr} {fd dS dTx : FuncData} (F : Fun K "is_test" "is_test" sIsT f fd) (B : TBx K mg w dT) (FS : FnOk P w K mg base CX0 3 fS dS ["kinds", "thing"] (spSing CK)) (gS : mg "_is_single" = some (.ref fS)) (kS : PySem.W.keepIn K (.ref fS) = true) (bS : Binds K dS ["kinds", "thing"] [])
    (FT : FnOk P w K mg base CX0 1 fT dTx ["thing"] spIsText) (gT : mg "is_text" = some (.ref fT)) (kT : PySem.W.keepIn K (.ref fT) = true) (bT : Binds K dTx ["thing"] []) (mL : mg "len" = none) (mI : mg "isinstance" = none) (mT : mg "tuple" = none) :
    FnOk P w K mg base CX0 4 f fd ["kinds", "thing"] (spIsT CK) := by
  refine F.ok scIsT (fun vs H Q E h => ?_) (fun cdv A outer s H vs Q E hr h => ?_)
  · obtain ⟨kd, v, ps, t, rfl, _⟩ := h
    rfl
  · obtain ⟨kd, v, ps, t, rfl, hK, ta, ok, hdp, kk⟩ := h
    have hr1 : Room 1 _ := hr.mono (by omega)
    obtain ⟨es, nn, D⟩ := B.kd
    refine ⟨_, pss_cons (ps_set (i := 2) scIsT.nd rfl (Or.inl rfl) (pe_lst (pa_cons (pv 1) pa_nil)))
      (pss_cons (ps_while PassesOwn.never (pt_truth (pv 2) (fun _ => rfl))
        (pss_cons (ps_set (i := 3) scIsT.nd rfl (Or.inl rfl) (pe_bm0 PySem.F.plainAttrs_list PySem.F.slot_list_pop PySem.F.type_list_pop mt_pop (pv 2)))
        (pss_cons (ps_if (PW.pt (pw_or (pt_not (pt_val (pe_callB call_isi (by rfl) mI (by decide +kernel) (pa_cons (pv 3) (pa_cons (pe_bltn (v := .ty "tuple") (u := .type "tuple") (by rfl) mT (by decide +kernel) rfl) pa_nil)))))
            (pw_or (pt_not (pt_truth (pv 3) (fun _ => rfl))) (pw_or1 (pt_not (pt_val (pe_call FT hr1 rfl gT kT bT .nil pass0 (pa_cons (pe_ix ix_tup (pv 3) pe_int (fun _ _ => rfl)) pa_nil))))))))
          (pss_one (ps_ret pe_bl)) pss_nil)
        (pss_one (ps_if (pt_cmpR (op_in_kd D) (pe_ix ix_tup (pv 3) pe_int (fun _ _ => rfl)) (pe_glob (v := .ref dT) rfl B.g rfl) (by rfl))
          (pss_cons (ps_if (pt_cmpR op_ne (pe_callB call_len_seq (by rfl) mL PySem.boot_len (pa_cons (pv 3) pa_nil)) (pe_op op_add pe_int (pe_ix ix_kdict (pe_glob (v := .ref dT) rfl B.g rfl) (pe_ix ix_tup (pv 3) pe_int (fun _ _ => rfl)) (fun _ _ => rfl))) (nomark _)) (pss_one (ps_ret pe_bl)) pss_nil)
          (pss_one (ps_expr (pe_bm PySem.F.plainAttrs_list PySem.F.slot_list_extend PySem.F.type_list_extend mt_extT (pv 2) (pa_cons (pe_slice sl_tupA (pv 3) (po_some pe_int) po_none) pa_nil)))))
          (pss_one (ps_if (pt_not (pt_val (pe_call FS hr rfl gS kS bS .nil pass0 (pa_cons (pv 0) (pa_cons (pv 3) pa_nil))))) (pss_one (ps_ret pe_bl)) pss_nil)))))))
      (pss_one (ps_ret pe_bl))), ?_⟩
    refine ⟨_, rfl, (by show 1 ≤ sizeLine; decide), fun W hW => ?_⟩
    have k0 : Keep [] H (upd H W (.lst [v])) := Keep.new hW
    have e0 : (upd H W (.lst [v])) W = some (.lst [v]) := upd_same
    generalize (upd H W (.lst [v])) = G0 at k0 e0 ⊢
    have szt : t.sz ≤ 2 ^ 10 := Nat.le_trans (Nat.le_of_succ_le (Ts.sz_dp t)) (Nat.pow_le_pow_right (by decide) (Nat.succ_le_succ hdp))
    have sz1 : ∀ t : Ts, 1 ≤ t.sz := fun t => by cases t <;> simp [Ts.sz]
    have tot_ge : ∀ zs : List (Ts × V), zs.length ≤ (zs.map fun z => z.1.sz).sum := fun zs => by
      induction zs with
      | nil => exact Nat.le_refl _
      | cons z r ih => rw [List.map_cons, List.sum_cons, List.length_cons]; have := sz1 z.1; omega
    let Inv : Nat → L2.St → Hp → Prop := fun m σ G => ∃ (zs : List (Ts × V)) (v3 : Option V), σ = [some (.ref kd), some v, some (.ref W), v3] ∧ Keep [] H G ∧ G W = some (.lst (zs.map Prod.snd)) ∧ (∀ z ∈ zs, TestAt G z.1 z.2 ∧ z.1.Ok ps) ∧ m = (zs.map fun z => z.1.sz).sum ∧ m ≤ 2 ^ 10
    refine ⟨Inv, ⟨_, [(t, v)], none, rfl, k0, e0, fun z hz => ?_, rfl, by simpa using szt⟩, ?_⟩
    · rw [List.mem_singleton.mp hz]
      exact ⟨ta.keep0 k0, ok⟩
    rintro m σ G ⟨zs, v3, rfl, kG, eW, hz, rfl, hm⟩
    refine ⟨_, rfl, !(zs.map Prod.snd).isEmpty, .inl ⟨_, SqL.of eW, rfl⟩, ?_⟩
    rcases List.eq_nil_or_concat zs with hst | ⟨l0, x, hst⟩
    · subst hst
      refine iteF ?_
      exact kk G kG
    rw [List.concat_eq_append] at hst
    subst hst
    have ene : ((l0 ++ [x]).map Prod.snd).isEmpty = false := by cases l0 <;> rfl
    rw [ene]
    refine iteT ⟨fun σ' H' => ∃ m', m' < ((l0 ++ [x]).map fun z => z.1.sz).sum ∧ Inv m' σ' H', fun σ' H' h => h, ?_⟩
    have get : ((l0 ++ [x]).map Prod.snd)[((l0 ++ [x]).map Prod.snd).length - 1]? = some x.2 := by
      rw [List.map_append, List.length_append, List.getElem?_append_right (by simp)]
      simp
    refine ⟨_, rfl, .inl ⟨rfl, _, SqL.of eW⟩, W, _, x.2, rfl, rfl, eW, get, ?_⟩
    have edr : ((l0 ++ [x]).map Prod.snd).dropLast = l0.map Prod.snd := by rw [List.map_append]; simp
    rw [edr]
    have kG2 : Keep [] H (upd G W (.lst (l0.map Prod.snd))) := kG.freshTo hW
    have tW : ∀ {o : HO} {u : Ts} {y : V}, TestAt G u y → TestAt (upd G W o) u y := fun h => h.map fun a xs e => by rw [upd_ne (ne_of e eW (fun z => by cases z))]; exact e
    have hz2 : ∀ z ∈ l0, TestAt (upd G W (.lst (l0.map Prod.snd))) z.1 z.2 ∧ z.1.Ok ps := fun z h => ⟨tW (hz z (List.mem_append_left _ h)).1, (hz z (List.mem_append_left _ h)).2⟩
    obtain ⟨tx, okx⟩ := hz x (List.mem_append_right _ List.mem_cons_self)
    have tx := tW (o := .lst (l0.map Prod.snd)) tx
    have eW2 : (upd G W (.lst (l0.map Prod.snd))) W = some (.lst (l0.map Prod.snd)) := upd_same
    generalize (upd G W (.lst (l0.map Prod.snd))) = G2 at kG2 hz2 tx eW2 ⊢
    have sum2 : ((l0 ++ [x]).map fun z => z.1.sz).sum = (l0.map fun z => z.1.sz).sum + x.1.sz := by rw [List.map_append, List.sum_append]; simp
    rw [sum2] at hm ⊢
    have ll := tot_ge l0
    obtain ⟨t1, y⟩ := x
    cases t1 with
    | one wd x =>
      obtain ⟨p, rfl, hp⟩ := tx
      refine ⟨_, rfl, _, _, _, _, _, rfl, .ty "tuple", .base (.tup hp), kit_ty (r := true) (by decide +kernel), true, rfl, iteF ?_⟩
      refine ⟨_, rfl, true, .inr (.inl ⟨_, SqT.of hp, rfl⟩), iteF ?_⟩
      refine ⟨_, rfl, p, _, 0, .str wd, rfl, rfl, SqT.of hp, rfl, wd, rfl, true, rfl, iteF ?_⟩
      refine ⟨_, rfl, p, _, 0, .str wd, rfl, rfl, SqT.of hp, rfl, wd, none, rfl, rfl, ?_, _, rfl, iteF ?_⟩
      · rcases okx with ⟨rfl, _⟩ | ⟨rfl | rfl, _⟩
        · exact B.nK
        · exact B.nS
        · exact B.nN
      refine ⟨_, rfl, _, rfl, kd, p, ps, wd, x, rfl, hK.keep0 kG2, hp, ?_, fun H3 k3 => ⟨true, rfl, iteF ?_⟩⟩
      · rcases okx with h | ⟨h, _⟩
        · exact .inl h
        · exact .inr h
      refine ⟨(l0.map fun z => z.1.sz).sum, by show _ < _ + 1; omega, l0, _, rfl, kG2.trans k3, k3.at eW2 nin0, fun z h => ⟨(hz2 z h).1.keep0 k3, (hz2 z h).2⟩, rfl, by omega⟩
    | not a =>
      obtain ⟨p, u, rfl, hp, tu⟩ := tx
      refine ⟨_, rfl, _, _, _, _, _, rfl, .ty "tuple", .base (.tup hp), kit_ty (r := true) (by decide +kernel), true, rfl, iteF ?_⟩
      refine ⟨_, rfl, true, .inr (.inl ⟨_, SqT.of hp, rfl⟩), iteF ?_⟩
      refine ⟨_, rfl, p, _, 0, .str wNot, rfl, rfl, SqT.of hp, rfl, wNot, rfl, true, rfl, iteF ?_⟩
      obtain ⟨u0, b1, b2⟩ := B.hN
      refine ⟨_, rfl, p, _, 0, .str wNot, rfl, rfl, SqT.of hp, rfl, wNot, some u0, rfl, rfl, b1, _, rfl, iteT ?_⟩
      refine ⟨_, rfl, p, _, rfl, .inr (SqT.of hp), _, rfl, p, _, 0, .str wNot, rfl, rfl, SqT.of hp, rfl, dT, wNot, .int 1, rfl, rfl, B.dct B.hN, 1, 1, rfl, rfl, rfl, _, rfl, iteNS rfl ?_⟩
      refine ⟨_, rfl, .inl ⟨rfl, _, SqL.of eW2⟩, _, rfl, _, rfl, ?_⟩
      dsimp only [tNoPart]
      refine slA_one hp fun c H3 k3 ec => ?_
      have eW3 := k3.at eW2 nin0
      refine ⟨W, c, _, _, rfl, rfl, eW3, SqT.of ec, by rw [List.length_map]; show _ + 1 ≤ 10000; omega, ?_⟩
      have kG4 : Keep [] H (upd H3 W (.lst (l0.map Prod.snd ++ [u]))) := (kG2.trans k3).freshTo hW
      have tW4 : ∀ {o : HO} {u : Ts} {y : V}, TestAt G2 u y → TestAt (upd H3 W o) u y := fun h => (h.keep0 k3).map fun a xs e => by rw [upd_ne (ne_of e eW3 (fun z => by cases z))]; exact e
      have eW4 : (upd H3 W (.lst (l0.map Prod.snd ++ [u]))) W = some (.lst ((l0 ++ [(a, u)]).map Prod.snd)) := by rw [upd_same, List.map_append]; rfl
      have se : ((l0 ++ [(a, u)]).map fun z => z.1.sz).sum = (l0.map fun z => z.1.sz).sum + a.sz := by rw [List.map_append, List.sum_append]; simp
      refine ⟨_, by rw [se]; show _ < _ + (a.sz + 1); omega, l0 ++ [(a, u)], _, rfl, kG4, eW4, fun z h => ?_, rfl, ?_⟩
      · rcases List.mem_append.mp h with h | h
        · exact ⟨tW4 (hz2 z h).1, (hz2 z h).2⟩
        · rw [List.mem_singleton.mp h]
          exact ⟨tW4 tu, okx⟩
      · rw [se]
        have : _ + (a.sz + 1) ≤ 2 ^ 10 := hm
        omega
    | two wd a b =>
      obtain ⟨p, u, u', rfl, hp, tu, tu'⟩ := tx
      obtain ⟨hwd, ok1, ok2⟩ := okx
      have hb : ∃ u, PySem.W.nsIn K dT wd = some (some u) ∧ RelV (.int 2) u := by
        rcases hwd with h | h <;> rw [h]
        · exact B.hA
        · exact B.hO
      refine ⟨_, rfl, _, _, _, _, _, rfl, .ty "tuple", .base (.tup hp), kit_ty (r := true) (by decide +kernel), true, rfl, iteF ?_⟩
      refine ⟨_, rfl, true, .inr (.inl ⟨_, SqT.of hp, rfl⟩), iteF ?_⟩
      refine ⟨_, rfl, p, _, 0, .str wd, rfl, rfl, SqT.of hp, rfl, wd, rfl, true, rfl, iteF ?_⟩
      obtain ⟨u0, b1, b2⟩ := id hb
      refine ⟨_, rfl, p, _, 0, .str wd, rfl, rfl, SqT.of hp, rfl, wd, some u0, rfl, rfl, b1, _, rfl, iteT ?_⟩
      refine ⟨_, rfl, p, _, rfl, .inr (SqT.of hp), _, rfl, p, _, 0, .str wd, rfl, rfl, SqT.of hp, rfl, dT, wd, .int 2, rfl, rfl, B.dct hb, 1, 2, rfl, rfl, rfl, _, rfl, iteNS rfl ?_⟩
      refine ⟨_, rfl, .inl ⟨rfl, _, SqL.of eW2⟩, _, rfl, _, rfl, ?_⟩
      dsimp only [tNoPart]
      refine slA_one hp fun c H3 k3 ec => ?_
      have eW3 := k3.at eW2 nin0
      refine ⟨W, c, _, _, rfl, rfl, eW3, SqT.of ec, by rw [List.length_map]; show _ + 2 ≤ 10000; omega, ?_⟩
      have kG4 : Keep [] H (upd H3 W (.lst (l0.map Prod.snd ++ [u, u']))) := (kG2.trans k3).freshTo hW
      have tW4 : ∀ {o : HO} {u : Ts} {y : V}, TestAt G2 u y → TestAt (upd H3 W o) u y := fun h => (h.keep0 k3).map fun a xs e => by rw [upd_ne (ne_of e eW3 (fun z => by cases z))]; exact e
      have eW4 : (upd H3 W (.lst (l0.map Prod.snd ++ [u, u']))) W = some (.lst ((l0 ++ [(a, u), (b, u')]).map Prod.snd)) := by rw [upd_same, List.map_append]; rfl
      have se : ((l0 ++ [(a, u), (b, u')]).map fun z => z.1.sz).sum = (l0.map fun z => z.1.sz).sum + (a.sz + b.sz) := by rw [List.map_append, List.sum_append]; simp
      refine ⟨_, by rw [se]; show _ < _ + ((a.sz + b.sz) + 1); omega, l0 ++ [(a, u), (b, u')], _, rfl, kG4, eW4, fun z h => ?_, rfl, ?_⟩
      · rcases List.mem_append.mp h with h | h
        · exact ⟨tW4 (hz2 z h).1, (hz2 z h).2⟩
        · rcases List.mem_cons.mp h with h | h
          · rw [h]; exact ⟨tW4 tu, ok1⟩
          · rw [List.mem_singleton.mp h]; exact ⟨tW4 tu', ok2⟩
      · rw [se]
        have : _ + (a.sz + b.sz + 1) ≤ 2 ^ 10 := hm
        omega
end
end Fs
/-! The program: check_test, holds, fits. -/
namespace Fs
open PySem L2 TL
abbrev sChT : Stmt := top 15 --def check_test
abbrev nChT : List Str := ["ledger", "test"]
theorem scChT : FnScope nChT ["ledger", "test"] (defScope sChT) := ⟨rfl, rfl, rfl, by decide +kernel, rfl, by decide +kernel, by decide +kernel⟩
abbrev sHol : Stmt := top 16 --def holds
abbrev nHol : List Str := ["ledger", "k", "test", "word"]
abbrev aHol : List Str := ["ledger", "k", "test"]
theorem scHol : FnScope nHol aHol (defScope sHol) := ⟨rfl, rfl, rfl, by decide +kernel, rfl, by decide +kernel, by decide +kernel⟩
/-- a ledger, its kinds, a test -/
def spChT (C CK : Addr) : Sp := fun vs H Q _ => ∃ (p : Addr) (v : V) (A : LA) (ms ns : List Addr) (es : List Ent) (ps : List (Str × Str)) (t : Ts), vs = [.ref p, v] ∧ LT C CK ps H p A ms ns es ∧ TestAt H t v ∧ t.Ok ps ∧ t.dp ≤ 9 ∧ ∀ H', Keep [] H H' → Q .non H'
def spHol (C CK : Addr) (d : Nat) : Sp := fun vs H Q _ => ∃ (p : Addr) (k : Nat) (v : V) (A : LA) (ms ns : List Addr) (es : List Ent) (ps : List (Str × Str)) (t : Ts) (e : Ent), vs = [.ref p, .int (k : Int), v] ∧ t.dp < d ∧ LT C CK ps H p A ms ns es ∧ es[k]? = some e ∧ TestAt H t v ∧ t.Ok ps ∧ ∀ H', Keep [] H H' → Q (.bl (fitsT ps e t)) H'
structure HTxt (K : PySem.W.Frag) (mg : Str → Option Value) (C CK f2 f3 f5 fKd fSt : Addr) : Prop where
  cl : Cls K C
  cK : Cls K CK
  kind : Meth K C "kind" f2
  text : Meth K C "text" f3
  notes : Meth K C "notes" f5
  kinds : Meth K C "kinds" fKd
  stands : Meth K CK "stands_under" fSt
theorem flk (A : LA) : (fldsL A).lookup ("kinds" : Str) = none := rfl
section
variable {P : Program} {w : World} {K : PySem.W.Frag} {mg : Str → Option Value} {base : Heap} {C CK f2 f3 f5 fKd fSt fIs fCh fH : Addr}
theorem ok_chT {f : Addr} {fd dI dKd : FuncData} (F : Fun K "check_test" "check_test" sChT f fd) (T : HTxt K mg C CK f2 f3 f5 fKd fSt) (FI : FnOk P w K mg base CX0 4 fIs dI ["kinds", "thing"] (spIsT CK)) (gI : mg "is_test" = some (.ref fIs)) (kI : PySem.W.keepIn K (.ref fIs) = true) (bI : Binds K dI ["kinds", "thing"] [])
    (FK : FnOk P w K mg base CX0 1 fKd dKd ["self"] (spKdm C)) (bK : Binds K dKd ["self"] []) : FnOk P w K mg base CX0 5 f fd ["ledger", "test"] (spChT C CK) := by
  refine F.ok scChT (fun vs H Q E h => ?_) (fun cdv A0 outer s H vs Q E hr h => ?_)
  · obtain ⟨p, v, A, ms, ns, es, ps, t, rfl, _⟩ := h
    rfl
  · obtain ⟨p, v, A, ms, ns, es, ps, t, rfl, L, ta, ok, hdp, kk⟩ := h
    have hr1 : Room 1 _ := hr.mono (by omega)
    refine ⟨_, pss_one (ps_if (pt_not (pt_val (pe_call FI hr rfl gI kI bI .nil pass0 (pa_cons (pe_meth0 (pv 0) T.cl T.kinds FK hr1 bK .nil pass0) (pa_cons (pv 1) pa_nil))))) (pss_one ps_never) pss_nil), ?_⟩
    refine ⟨_, rfl, p, A.dx, _, rfl, L.led.ins, flk A, p, A, ms, ns, es, rfl, L.led, _, rfl, A.kd, v, ps, t, rfl, L.kin, ta, ok, hdp, fun H' k => ⟨true, rfl, iteF ?_⟩⟩
    exact kk H' k
theorem hol0 {f : Addr} {fd : FuncData} {k : Nat} : FnOk P w K mg base CX0 k f fd aHol (spHol C CK 0) :=
  ⟨fun vs H Q E h => by obtain ⟨_, _, _, _, _, _, _, _, _, _, _, h, _⟩ := h; omega, fun A outer s H args us vs Q E _ _ _ _ h => by obtain ⟨_, _, _, _, _, _, _, _, _, _, _, h, _⟩ := h; omega⟩
theorem holS {f : Addr} {fd d2 d3 d5 dKd dSt : FuncData} (F : Fun K "holds" "holds" sHol f fd) (gR : mg "holds" = some (.ref f)) (kR : PySem.W.keepIn K (.ref f) = true) (bR : Binds K fd aHol []) (T : HTxt K mg C CK f2 f3 f5 fKd fSt)
    (F2 : FnOk P w K mg base CX0 3 f2 d2 ["self", "k"] (spGet C fun e => .str e.kind)) (b2 : Binds K d2 ["self", "k"] []) (F3 : FnOk P w K mg base CX0 3 f3 d3 ["self", "k"] (spGet C fun e => .str e.text)) (b3 : Binds K d3 ["self", "k"] [])
    (F5 : FnOk P w K mg base CX0 3 f5 d5 ["self", "k"] (spGetL C fun e => e.notes.map V.str)) (b5 : Binds K d5 ["self", "k"] []) (FK : FnOk P w K mg base CX0 1 fKd dKd ["self"] (spKdm C)) (bK : Binds K dKd ["self"] [])
    (FS : FnOk P w K mg base CX0 4 fSt dSt ["self", "name", "other"] (spStU CK)) (bS : Binds K dSt ["self", "name", "other"] [])
    {d : Nat} (FR : FnOk P w K mg base CX0 (4 + d) f fd aHol (spHol C CK d)) : FnOk P w K mg base CX0 (4 + d + 1) f fd aHol (spHol C CK (d + 1)) := by
  refine F.ok scHol (fun vs H Q E h => ?_) (fun cdv A0 outer s H vs Q E hr h => ?_)
  · obtain ⟨p, k, v, A, ms, ns, es, ps, t, e, rfl, _⟩ := h
    rfl
  · obtain ⟨p, k, v, A, ms, ns, es, ps, t, e, rfl, hd, L, he, ta, ok, kk⟩ := h
    have hr1 : Room 1 _ := hr.mono (by omega)
    have hr3 : Room 3 _ := hr.mono (by omega)
    have hr4 : Room 4 _ := hr.mono (by omega)
    refine ⟨_, pss_cons (ps_set (i := 3) scHol.nd rfl (Or.inl rfl) (pe_ix ix_tup (pv 2) pe_int (fun _ _ => rfl)))
      (pss_cons (ps_if (pt_cmpR op_eq (pv 3) pe_str (nomark _)) (pss_one (ps_ret (pe_not (pe_call FR hr rfl gR kR bR .nil pass0 (pa_cons (pv 0) (pa_cons (pv 1) (pa_cons (pe_ix ix_tup (pv 2) pe_int (fun _ _ => rfl)) pa_nil))))))) pss_nil)
      (pss_cons (ps_if (pt_cmpR op_eq (pv 3) pe_str (nomark _)) (pss_one (ps_ret (pe_and (pe_call FR hr rfl gR kR bR .nil pass0 (pa_cons (pv 0) (pa_cons (pv 1) (pa_cons (pe_ix ix_tup (pv 2) pe_int (fun _ _ => rfl)) pa_nil)))) (pe_one (pe_call FR hr rfl gR kR bR .nil pass0 (pa_cons (pv 0) (pa_cons (pv 1) (pa_cons (pe_ix ix_tup (pv 2) pe_int (fun _ _ => rfl)) pa_nil)))))))) pss_nil)
      (pss_cons (ps_if (pt_cmpR op_eq (pv 3) pe_str (nomark _)) (pss_one (ps_ret (pe_or (pe_call FR hr rfl gR kR bR .nil pass0 (pa_cons (pv 0) (pa_cons (pv 1) (pa_cons (pe_ix ix_tup (pv 2) pe_int (fun _ _ => rfl)) pa_nil)))) (pe_one (pe_call FR hr rfl gR kR bR .nil pass0 (pa_cons (pv 0) (pa_cons (pv 1) (pa_cons (pe_ix ix_tup (pv 2) pe_int (fun _ _ => rfl)) pa_nil)))))))) pss_nil)
      (pss_cons (ps_if (pt_cmpR op_eq (pv 3) pe_str (nomark _)) (pss_one (ps_ret (pe_meth (pe_meth0 (pv 0) T.cl T.kinds FK hr1 bK .nil pass0) T.cK T.stands FS hr4 bS .nil pass0 (pa_cons (pe_meth (pv 0) T.cl T.kind F2 hr3 b2 .nil pass0 (pa_cons (pv 1) pa_nil)) (pa_cons (pe_ix ix_tup (pv 2) pe_int (fun _ _ => rfl)) pa_nil))))) pss_nil)
      (pss_cons (ps_if (pt_cmpR op_eq (pv 3) pe_str (nomark _)) (pss_one (ps_ret (pe_cmpR op_eq (pe_meth (pv 0) T.cl T.text F3 hr3 b3 .nil pass0 (pa_cons (pv 1) pa_nil)) (pe_ix ix_tup (pv 2) pe_int (fun _ _ => rfl)) (nomark _)))) pss_nil)
      (pss_one (ps_ret (pe_cmpR op_in_seq (pe_ix ix_tup (pv 2) pe_int (fun _ _ => rfl)) (pe_meth (pv 0) T.cl T.notes F5 hr3 b5 .nil pass0 (pa_cons (pv 1) pa_nil)) (by rfl))))))))), ?_⟩
    cases t with
    | one wd x =>
      obtain ⟨q, rfl, hp⟩ := ta
      have nt : wd ≠ wNot ∧ wd ≠ wAnd ∧ wd ≠ wOr := by
        rcases ok with ⟨rfl, _⟩ | ⟨rfl | rfl, _⟩ <;> decide +kernel
      refine ⟨_, rfl, q, _, 0, .str wd, rfl, rfl, SqT.of hp, rfl, ?_⟩
      refine ⟨_, rfl, rfl, _, rfl, iteWf nt.1 ?_⟩
      refine ⟨_, rfl, rfl, _, rfl, iteWf nt.2.1 ?_⟩
      refine ⟨_, rfl, rfl, _, rfl, iteWf nt.2.2 ?_⟩
      refine ⟨_, rfl, rfl, _, rfl, ?_⟩
      rcases ok with ⟨rfl, hx⟩ | ⟨rfl | rfl, hx⟩
      · refine iteWt rfl ?_
        obtain ⟨dk, dd, g1, g2⟩ := id L.kin
        refine ⟨_, rfl, p, A.dx, _, rfl, L.led.ins, flk A, p, A, ms, ns, es, rfl, L.led, ?_⟩
        refine ⟨A.kd, dk, _, rfl, g1, ab_no _ (by decide +kernel), ?_⟩
        refine ⟨_, rfl, p, A.dx, _, rfl, L.led.ins, flg2 A, _, rfl, p, A, ms, ns, es, k, e, rfl, L.led, he, ?_⟩
        refine ⟨_, rfl, q, _, 1, .str x, rfl, rfl, SqT.of hp, rfl, A.kd, e.kind, x, ps, rfl, L.kin, L.wf, L.kd e (List.mem_of_getElem? he), hx, ?_⟩
        exact kk H (Keep.refl _ _)
      · refine iteWf nSK ?_
        refine ⟨_, rfl, rfl, _, rfl, iteWt rfl ?_⟩
        refine ⟨_, rfl, p, A.dx, _, rfl, L.led.ins, flg3 A, _, rfl, p, A, ms, ns, es, k, e, rfl, L.led, he, ?_⟩
        refine ⟨_, rfl, q, _, 1, .str x, rfl, rfl, SqT.of hp, rfl, rfl, ?_⟩
        have := kk H (Keep.refl _ _)
        unfold fitsT at this
        rw [if_neg nSK, if_pos rfl] at this
        have e1 : decide (V.str e.text = V.str x) = decide (e.text = x) := by simp
        rw [e1]; exact this
      · refine iteWf nNK ?_
        refine ⟨_, rfl, rfl, _, rfl, iteWf nNS ?_⟩
        refine ⟨_, rfl, q, _, 1, .str x, rfl, rfl, SqT.of hp, rfl, ?_⟩
        refine ⟨_, rfl, p, A.dx, _, rfl, L.led.ins, flg5 A, _, rfl, p, A, ms, ns, es, k, e, rfl, L.led, he, fun l hl => ?_⟩
        have kl : Keep [] H (upd H l (.lst (e.notes.map V.str))) := Keep.new hl
        refine ⟨l, _, rfl, .inl (SqL.of upd_same), rfl, ?_, ?_⟩
        · rw [List.all_eq_true]
          intro y hy
          obtain ⟨z, _, rfl⟩ := List.mem_map.mp hy
          rfl
        have := kk _ kl
        unfold fitsT at this
        rw [if_neg nNK, if_neg nNS] at this
        show Q (.bl (inV (.str x) (e.notes.map V.str))) _
        rw [inV_strs]; exact this
    | not a =>
      obtain ⟨q, u, rfl, hp, tu⟩ := ta
      refine ⟨_, rfl, q, _, 0, .str wNot, rfl, rfl, SqT.of hp, rfl, ?_⟩
      refine ⟨_, rfl, rfl, _, rfl, iteWt rfl ?_⟩
      refine ⟨_, rfl, _, rfl, _, rfl, q, _, 1, u, rfl, rfl, SqT.of hp, rfl, ?_⟩
      refine ⟨p, k, u, A, ms, ns, es, ps, a, e, rfl, Nat.lt_of_succ_lt_succ hd, L, he, tu, ok, fun H' k' => ?_⟩
      exact ⟨_, rfl, kk H' k'⟩
    | two wd a b =>
      obtain ⟨q, u, u', rfl, hp, tu, tu'⟩ := ta
      obtain ⟨hwd, ok1, ok2⟩ := ok
      have hdp : Nat.max a.dp b.dp < d := Nat.lt_of_succ_lt_succ hd
      have da : a.dp < d := Nat.lt_of_le_of_lt (Nat.le_max_left _ _) hdp
      have db : b.dp < d := Nat.lt_of_le_of_lt (Nat.le_max_right _ _) hdp
      obtain ⟨n1, n2, n3, n4⟩ := two_ne hwd
      refine ⟨_, rfl, q, _, 0, .str wd, rfl, rfl, SqT.of hp, rfl, ?_⟩
      refine ⟨_, rfl, rfl, _, rfl, iteWf n4 ?_⟩
      refine ⟨_, rfl, rfl, _, rfl, ?_⟩
      rcases hwd with rfl | rfl
      · refine iteWt rfl ?_
        refine ⟨_, rfl, _, rfl, _, rfl, q, _, 1, u, rfl, rfl, SqT.of hp, rfl, ?_⟩
        refine ⟨p, k, u, A, ms, ns, es, ps, a, e, rfl, da, L, he, tu, ok1, fun H1 k1 => ?_⟩
        refine ⟨_, rfl, ?_⟩
        cases ha : fitsT ps e a with
        | false =>
          refine iteF ?_
          have := kk H1 k1
          unfold fitsT at this
          rw [if_pos rfl, ha] at this
          exact this
        | true =>
          refine iteT ?_
          refine ⟨_, rfl, _, rfl, _, rfl, q, _, 2, u', rfl, rfl, SqT.of (k1.at hp nin0), rfl, ?_⟩
          refine ⟨p, k, u', A, ms, ns, es, ps, b, e, rfl, db, L.keep0 k1, he, tu'.keep0 k1, ok2, fun H2 k2 => ?_⟩
          have := kk H2 (k1.trans k2)
          unfold fitsT at this
          rw [if_pos rfl, ha] at this
          exact this
      · refine iteWf naO ?_
        refine ⟨_, rfl, rfl, _, rfl, iteWt rfl ?_⟩
        refine ⟨_, rfl, _, rfl, _, rfl, q, _, 1, u, rfl, rfl, SqT.of hp, rfl, ?_⟩
        refine ⟨p, k, u, A, ms, ns, es, ps, a, e, rfl, da, L, he, tu, ok1, fun H1 k1 => ?_⟩
        refine ⟨_, rfl, ?_⟩
        cases ha : fitsT ps e a with
        | true =>
          refine iteT ?_
          have := kk H1 k1
          unfold fitsT at this
          rw [if_neg naO, ha] at this
          exact this
        | false =>
          refine iteF ?_
          refine ⟨_, rfl, _, rfl, _, rfl, q, _, 2, u', rfl, rfl, SqT.of (k1.at hp nin0), rfl, ?_⟩
          refine ⟨p, k, u', A, ms, ns, es, ps, b, e, rfl, db, L.keep0 k1, he, tu'.keep0 k1, ok2, fun H2 k2 => ?_⟩
          have := kk H2 (k1.trans k2)
          unfold fitsT at this
          rw [if_neg naO, ha] at this
          exact this
theorem ok_hol {f : Addr} {fd d2 d3 d5 dKd dSt : FuncData} (F : Fun K "holds" "holds" sHol f fd) (gR : mg "holds" = some (.ref f)) (kR : PySem.W.keepIn K (.ref f) = true) (bR : Binds K fd aHol []) (T : HTxt K mg C CK f2 f3 f5 fKd fSt)
    (F2 : FnOk P w K mg base CX0 3 f2 d2 ["self", "k"] (spGet C fun e => .str e.kind)) (b2 : Binds K d2 ["self", "k"] []) (F3 : FnOk P w K mg base CX0 3 f3 d3 ["self", "k"] (spGet C fun e => .str e.text)) (b3 : Binds K d3 ["self", "k"] [])
    (F5 : FnOk P w K mg base CX0 3 f5 d5 ["self", "k"] (spGetL C fun e => e.notes.map V.str)) (b5 : Binds K d5 ["self", "k"] []) (FK : FnOk P w K mg base CX0 1 fKd dKd ["self"] (spKdm C)) (bK : Binds K dKd ["self"] [])
    (FS : FnOk P w K mg base CX0 4 fSt dSt ["self", "name", "other"] (spStU CK)) (bS : Binds K dSt ["self", "name", "other"] []) : ∀ d : Nat, FnOk P w K mg base CX0 (4 + d) f fd aHol (spHol C CK d)
  | 0 => hol0
  | d + 1 => holS F gR kR bR T F2 b2 F3 b3 F5 b5 FK bK FS bS (ok_hol F gR kR bR T F2 b2 F3 b3 F5 b5 FK bK FS bS d)
end
end Fs
/-! Some tests. -/
namespace Fs
open PySem L2 TL
/-- tests in a row -/
def TssAt (ps : List (Str × Str)) (d : Nat) (H : Hp) (L : Addr) (zs : List (Ts × V)) : Prop := H L = some (.lst (zs.map Prod.snd)) ∧ ∀ z ∈ zs, TestAt H z.1 z.2 ∧ z.1.Ok ps ∧ z.1.dp ≤ d
abbrev sTsts : Stmt := top 53 --def _law_tests
abbrev nTsts : List Str := ["_law_pot_here", "_law_pairs", "_law_texts_here", "_law_faults_here", "_law_k", "_law_most", "_law_leaves_here", "_law_tests_here", "_law_turn", "_law_test_here", "_law_fault", "_law_way"]
abbrev aTsts : List Str := ["_law_pot_here", "_law_pairs", "_law_texts_here", "_law_faults_here", "_law_k", "_law_most"]
theorem scTsts : FnScope nTsts aTsts (defScope sTsts) := ⟨rfl, rfl, rfl, by decide +kernel, rfl, by decide +kernel, by decide +kernel⟩
def spTsts (C CK : Addr) : Sp := fun vs H Q _ => ∃ (ps : List (Str × Str)) (cap : Nat) (p l X : Addr) (tx : List Str) (D : LDA) (es xs : List Ent) (n k mo : Nat), vs = [.ref p, .ref l, .ref X, .ref D.E, .int (k : Int), .int (mo : Int)] ∧ ScB C CK ps cap p l X tx H D es xs ∧ PotAt H p n ∧ n < 2 ^ 30 ∧ k < es.length ∧ mo ≤ 30 ∧
  ∀ (H' : Hp) (L : Addr) (zs : List (Ts × V)), Keep [p] H H' → H L = none → TssAt ps 2 H' L zs → zs.length ≤ mo → PotAt H' p (n + 1000) → Q (.ref L) H'
section
variable {P : Program} {w : World} {K : PySem.W.Frag} {mg : Str → Option Value} {base : Heap} {C CK fDg fTs fLv : Addr}
theorem ok_tsts {f : Addr} {fd dD dT dL : FuncData} (F : Fun K "_law_tests" "_law_tests" sTsts f fd) (FD : FnOk P w K mg base CX0 1 fDg dD ["_law_pot_here", "_law_many"] spDigit) (gD : mg "_law_digit" = some (.ref fDg)) (kD : PySem.W.keepIn K (.ref fDg) = true) (bD : Binds K dD ["_law_pot_here", "_law_many"] [])
    (FT : FnOk P w K mg base CX0 5 fTs dT aTst (spTst 3)) (gT : mg "_law_test" = some (.ref fTs)) (kT : PySem.W.keepIn K (.ref fTs) = true) (bT : Binds K dT aTst []) (FL : FnOk P w K mg base CX0 1 fLv dL ["_law_faults_here", "_law_k"] spLvs) (gL : mg "_law_leaves" = some (.ref fLv)) (kL : PySem.W.keepIn K (.ref fLv) = true) (bL : Binds K dL ["_law_faults_here", "_law_k"] [])
    (mL : mg "len" = none) (mR : mg "range" = none) : FnOk P w K mg base CX0 6 f fd aTsts (spTsts C CK) := by
  refine F.ok scTsts (fun vs H Q E h => ?_) (fun cdv A0 outer s H vs Q Es hr h => ?_)
  · obtain ⟨ps, cap, p, l, X, tx, D, es, xs, n, k, mo, rfl, _⟩ := h
    rfl
  · obtain ⟨ps, cap, p, l, X, tx, D, es, xs, n, k, mo, rfl, S, pot, hn, hk, hmo, kk⟩ := h
    have hr1 : Room 1 _ := hr.mono (by omega)
    refine ⟨_, pss_cons (ps_set (i := 6) scTsts.nd rfl (Or.inl rfl) (pe_call FL hr1 rfl gL kL bL .nil pass0 (pa_cons (pv 3) (pa_cons (pv 4) pa_nil))))
      (pss_cons (ps_set (i := 7) scTsts.nd rfl (Or.inl rfl) (pe_lst pa_nil))
      (pss_cons (ps_for PassesOwn.never rfl (pi_range1 rfl mR (pa_cons (pe_call FD hr1 rfl gD kD bD .nil pass0 (pa_cons (pv 0) (pa_cons (pe_op op_add (pv 5) pe_int) pa_nil))) pa_nil)) (pg_name (i := 8) scTsts.nd rfl (Or.inl rfl))
        (pss_cons (ps_set (i := 9) scTsts.nd rfl (Or.inl rfl) (pe_call FT hr rfl gT kT bT .nil pass0 (pa_cons (pv 0) (pa_cons (pv 1) (pa_cons (pv 2) (pa_cons (pe_call FD hr1 rfl gD kD bD .nil pass0 (pa_cons (pv 0) (pa_cons pe_int pa_nil))) pa_nil))))))
        (pss_cons (ps_set (i := 10) scTsts.nd rfl (Or.inl rfl) (pe_ix ix_list (pv 3) (pe_ix ix_tup (pe_ix ix_list (pv 6) (pe_call FD hr1 rfl gD kD bD .nil pass0 (pa_cons (pv 0) (pa_cons (pe_callB call_len_seq (by rfl) mL PySem.boot_len (pa_cons (pv 6) pa_nil)) pa_nil))) (fun _ _ => rfl)) pe_int (fun _ _ => rfl)) (fun _ _ => rfl)))
        (pss_cons (ps_set (i := 11) scTsts.nd rfl (Or.inl rfl) (pe_call FD hr1 rfl gD kD bD .nil pass0 (pa_cons (pv 0) (pa_cons pe_int pa_nil))))
        (pss_cons (ps_if (pt_cmpR op_eq (pv 11) pe_int (nomark _)) (pss_one (ps_set (i := 9) scTsts.nd rfl (Or.inl rfl) (pe_tup (pa_cons pe_str (pa_cons (pe_ix ix_list (pv 10) pe_int (fun _ _ => rfl)) pa_nil)))))
          (pss_one (ps_if (pt_cmpR op_eq (pv 11) pe_int (nomark _)) (pss_one (ps_set (i := 9) scTsts.nd rfl (Or.inl rfl) (pe_tup (pa_cons pe_str (pa_cons (pe_ix ix_list (pv 10) pe_int (fun _ _ => rfl)) pa_nil)))))
            (pss_one (ps_if (PW.pt (pw_and (pt_cmpR op_eq (pv 11) pe_int (nomark _)) (pw_and1 (pt_cmpR (op_neD hr.units) (pe_ix ix_list (pv 10) pe_int (fun _ _ => rfl)) (pe_lst pa_nil) (nomark _)))))
              (pss_one (ps_set (i := 9) scTsts.nd rfl (Or.inl rfl) (pe_tup (pa_cons pe_str (pa_cons (pe_ix ix_list (pe_ix ix_list (pv 10) pe_int (fun _ _ => rfl)) pe_int (fun _ _ => rfl)) pa_nil))))) pss_nil)))))
        (pss_one (ps_expr (pe_bm PySem.F.plainAttrs_list PySem.F.slot_list_append PySem.F.type_list_append mt_append (pv 7) (pa_cons (pv 9) pa_nil)))))))))
      (pss_one (ps_ret (pv 7))))), ?_⟩
    obtain ⟨Lf, Df, Nf, T⟩ := S.st.tree
    refine ⟨_, rfl, _, rfl, D.E, k, _, D.rs, es, Lf, Df, Nf, rfl, S.st.ent, S.st.rows, T, hk, (fun e he => S.mem101 e (List.mem_append_left _ he)), fun H1 F ts fs k1 hF eF wF lv => ?_⟩
    refine ⟨Nat.zero_le _, fun L hL => ?_⟩
    have k2 : Keep [] H (upd H1 L (.lst [])) := k1.newTo hL
    have nFL : F ≠ L := ne_of_none eF hL
    have eL : (upd H1 L (.lst [])) L = some (.lst []) := upd_same
    have eF2 : (upd H1 L (.lst [])) F = some (.lst (ts.map V.ref)) := (Keep.new hL (ex := [])).at eF nin0
    have wF2 : WaysAt (upd H1 L (.lst [])) ts fs := wF.map fun a xs q => (Keep.new hL (ex := [])).at q nin0
    have hL0 : H L = none := Keep.free k1 hL nin0
    generalize (upd H1 L (.lst [])) = H2 at k2 eL eF2 wF2 ⊢
    have pot2 := pot.keep k2 nin0
    obtain ⟨x0, ep0⟩ := pot.some
    have nLp : L ≠ p := fun z => by rw [z, ep0] at hL0; cases hL0
    have nFp : F ≠ p := fun z => by rw [z, ep0] at hF; cases hF
    refine ⟨_, rfl, _, rfl, _, _, rfl, rfl, p, n, _, rfl, pot2, by omega, by omega, by omega, fun c H3 c0 c1 hk3 pot3 => ?_⟩
    obtain ⟨c, rfl⟩ : ∃ m : Nat, c = (m : Int) := ⟨c.toNat, by omega⟩
    have k3 := keep_of_dig hk3
    have k23 : Keep [p] H H3 := (k2.more fun b z => absurd z nin0).trans k3
    refine ⟨_, rfl, by omega, by omega, ?_⟩
    rw [Int.toNat_natCast]
    refine for_range (lo := 0) (n := c) (fun i σ G => ∃ (v8 v9 v10 v11 : Option V) (zs : List (Ts × V)), σ = [some (.ref p), some (.ref l), some (.ref X), some (.ref D.E), some (.int (k : Int)), some (.int (mo : Int)), some (.ref F), some (.ref L), v8, v9, v10, v11] ∧ Keep [p] H G ∧ TssAt ps 2 G L zs ∧ zs.length = i ∧ PotAt G p (n + 1 + 25 * i) ∧ G F = some (.lst (ts.map V.ref)) ∧ WaysAt G ts fs)
      ⟨none, none, none, none, [], rfl, k23, ⟨k3.at eL (nin1 nLp), fun z h => absurd h List.not_mem_nil⟩, rfl, pot3, k3.at eF2 (nin1 nFp), wF2.map fun a xs q => (k3.tup (lst_no (pot_lst pot2)) q)⟩ ?_ ?_
    · rintro i σ G hi ⟨v8, v9, v10, v11, zs, rfl, kG, tz, hzl, pG, eFG, wFG⟩
      have SG := S.keepP pot kG
      refine ⟨_, rfl, _, rfl, _, rfl, _, rfl, p, _, 3, rfl, pG, by omega, by decide, by decide, fun q G2 q0 q1 hk4 p2 => ?_⟩
      obtain ⟨q, rfl⟩ : ∃ m : Nat, q = (m : Int) := ⟨q.toNat, by omega⟩
      have k4 := keep_of_dig hk4
      have S2 := SG.keepP pG k4
      have pw : 2 ^ q ≤ 2 ^ 2 := Nat.pow_le_pow_right (by decide) (by omega)
      refine ⟨p, l, X, _, q, ps, tx, rfl, by omega, p2, by omega, S2.prs, S2.few, S2.nlp, by rw [S2.txs.1]; decide, by rw [S2.txs.1]; decide, S2.txs.2, S2.hX, S2.nXp, fun G3 v t m k5 ta ok hdp p3 hm => ?_⟩
      have S3 := S2.keepP p2 k5
      have k45 := k4.trans k5
      have eF3 := k45.at eFG (nin1 nFp)
      have wF3 := wFG.map fun a xs q => (k45.tup (lst_no (pot_lst pG)) q)
      have lF : ts.length = Lf k := by rw [wF.len, lv.len]
      have lp := (T.pos k k (Nat.le_refl _) hk).1
      have l101 := (T.few k _ (List.getElem?_eq_getElem hk)).1
      refine ⟨_, rfl, _, rfl, _, rfl, _, rfl, F, _, rfl, .inl (SqL.of eF3), p, m, _, rfl, p3, by omega, by rw [List.length_map]; omega, by rw [List.length_map]; omega, fun c G4 c0 c1 hk6 p4 => ?_⟩
      rw [List.length_map, wF.len] at c1
      obtain ⟨x, hx, hx2, hx3⟩ := digit_in (l := fs) c0 c1
      have k6 := keep_of_dig hk6
      have S4 := S3.keepP p3 k6
      have kG4 : Keep [p] G G4 := k45.trans k6
      have wF4 := wFG.map fun a xs q => (kG4.tup (lst_no (pot_lst pG)) q)
      have eF4 := kG4.at eFG (nin1 nFp)
      obtain ⟨t1, ht1, a1, ew1, ew2⟩ := wF4.at hx2
      refine ⟨F, _, c, .ref t1, rfl, rfl, SqL.of eF4, ?_, t1, _, 1, .int (x.2 : Int), rfl, rfl, SqT.of ew1, rfl, ?_⟩
      · rw [← hx3]
        exact atI_nat (by rw [List.getElem?_map, ht1]; rfl)
      have hxl := lv.inn x hx
      have he := List.getElem?_eq_getElem hxl
      generalize es[x.2] = e at he
      obtain ⟨r, hq, mm, nn, b1, b2, b3, g4, g5, g6⟩ := S4.st.rows.at he
      refine ⟨D.E, _, _, V.ref r, rfl, rfl, SqL.of S4.st.ent, atI_nat (by rw [List.getElem?_map, hq]; rfl), ?_⟩
      refine ⟨_, rfl, p, _, 6, rfl, p4, by omega, by decide, by decide, fun wy G5 u0 u1 hk7 p5 => ?_⟩
      have k7 := keep_of_dig hk7
      have S5 := S4.keepP p4 k7
      have kG5 : Keep [p] G G5 := kG4.trans k7
      have rp : ∀ {b : Addr}, b ∉ p :: D.E :: (D.A.ls ++ D.ns) → b ∉ [p] := fun h => nin1 fun z => h (by rw [z]; exact List.mem_cons_self)
      have g45 := k7.at g4 (rp b1)
      have g65 := k7.at g6 (rp b3)
      obtain ⟨⟨s1, s2, s3, s4, s5, s6, s7, s8⟩, sc, sk⟩ := S.st.sm e (List.mem_of_getElem? he)
      have eL5 := kG5.at tz.1 (nin1 nLp)
      have tz5 : ∀ z ∈ zs, TestAt G5 z.1 z.2 ∧ z.1.Ok ps ∧ z.1.dp ≤ 2 := fun z h => ⟨(tz.2 z h).1.keepP kG5 pG, (tz.2 z h).2⟩
      have ta5 : TestAt G5 t v := (ta.keepP k6 p3).keepP k7 p4
      have eF5 := kG5.at eFG (nin1 nFp)
      have wF5 := wFG.map fun a xs q => (kG5.tup (lst_no (pot_lst pG)) q)
      -- a test is added
      have add : ∀ (G6 : Hp) (t' : Ts) (v' : V), Keep [] G5 G6 → TestAt G6 t' v' → t'.Ok ps → t'.dp ≤ 2 →
          G6 L = some (.lst (zs.map Prod.snd)) ∧ (zs.map Prod.snd).length < sizeLine ∧ Keep [p] H (upd G6 L (.lst (zs.map Prod.snd ++ [v']))) ∧ TssAt ps 2 (upd G6 L (.lst (zs.map Prod.snd ++ [v']))) L (zs ++ [(t', v')]) ∧ (zs ++ [(t', v')]).length = i + 1 ∧ PotAt (upd G6 L (.lst (zs.map Prod.snd ++ [v']))) p (n + 1 + 25 * (i + 1)) ∧ (upd G6 L (.lst (zs.map Prod.snd ++ [v']))) F = some (.lst (ts.map V.ref)) ∧ WaysAt (upd G6 L (.lst (zs.map Prod.snd ++ [v']))) ts fs := fun G6 t' v' k8 ta' ok' dp' => by
        have eL6 := k8.at eL5 nin0
        have tt : ∀ {u : Ts} {y : V} {o : HO}, TestAt G6 u y → TestAt (upd G6 L o) u y := fun h => h.map fun a xs q => by rw [upd_ne (ne_of q eL6 (fun z => by cases z))]; exact q
        refine ⟨eL6, Nat.lt_of_le_of_lt (by rw [List.length_map]; omega : (zs.map Prod.snd).length ≤ 1000) (by decide), ?_, ⟨by rw [upd_same, List.map_append]; rfl, fun z h => ?_⟩, by rw [List.length_append, hzl]; rfl, ?_, by rw [upd_ne nFL]; exact k8.at eF5 nin0, ?_⟩
        · exact ((kG.trans kG5).trans (k8.more fun b z => absurd z nin0)).freshTo hL0
        · rcases List.mem_append.mp h with h | h
          · exact ⟨tt ((tz5 z h).1.keep0 k8), (tz5 z h).2⟩
          · rw [List.mem_singleton.mp h]; exact ⟨tt ta', ok', dp'⟩
        · exact ((p5.keep k8 nin0).keep (Keep.own (in1 (a := L))) (nin1 nLp.symm)).le (by omega)
        · exact wF5.map fun a xs q => by
            have q := k8.at q nin0
            rw [upd_ne (ne_of q eL6 (fun z => by cases z))]; exact q
      refine ⟨_, rfl, rfl, _, rfl, ite2 (fun _ => ?_) (fun _ => ?_)⟩
      · refine ⟨_, rfl, r, _, 0, .str e.kind, rfl, rfl, SqL.of g45, rfl, (by show 2 ≤ sizeLine; decide), fun a ha => ?_⟩
        obtain ⟨q1, q2, q3, q4, q5, q6, q7, q8⟩ := add _ (.one wKind e.kind) (.ref a) (Keep.new ha) ⟨a, rfl, upd_same⟩ (.inl ⟨rfl, kind_all sk⟩) (Nat.zero_le _)
        exact ⟨_, rfl, .inl ⟨rfl, _, SqL.of q1⟩, _, rfl, L, _, _, rfl, rfl, q1, q2, _, _, _, _, _, rfl, q3, q4, q5, q6, q7, q8⟩
      refine ⟨_, rfl, rfl, _, rfl, ite2 (fun _ => ?_) (fun _ => ?_)⟩
      · refine ⟨_, rfl, r, _, 1, .str e.text, rfl, rfl, SqL.of g45, rfl, (by show 2 ≤ sizeLine; decide), fun a ha => ?_⟩
        obtain ⟨q1, q2, q3, q4, q5, q6, q7, q8⟩ := add _ (.one wSays e.text) (.ref a) (Keep.new ha) ⟨a, rfl, upd_same⟩ (.inr ⟨.inl rfl, s3⟩) (Nat.zero_le _)
        exact ⟨_, rfl, .inl ⟨rfl, _, SqL.of q1⟩, _, rfl, L, _, _, rfl, rfl, q1, q2, _, _, _, _, _, rfl, q3, q4, q5, q6, q7, q8⟩
      have stay : ∀ (G6 : Hp) (k8 : Keep [] G5 G6), _ := fun G6 k8 => add G6 t v k8 (ta5.keep0 k8) ok (by omega)
      refine ⟨_, rfl, rfl, _, rfl, ite2 (fun _ => ?_) (fun _ => ?_)⟩
      · refine ⟨_, rfl, r, _, 3, .ref nn, rfl, rfl, SqL.of g45, rfl, Nat.zero_le _, fun e3 he3 => ?_⟩
        have k3' : Keep [] G5 (upd G5 e3 (.lst [])) := Keep.new he3
        have a3 : (upd G5 e3 (.lst [])) e3 = some (.lst []) := upd_same
        generalize (upd G5 e3 (.lst [])) = G6 at k3' a3 ⊢
        have g66 := k3'.at g65 nin0
        refine ⟨.list (e.notes.map PyData.str), .list [], .lst (SqL.of g66) (dp_strs _), .lst (SqL.of a3) .nil, sh_strs _ s6.2, sh_strs [] (fun z h => absurd h List.not_mem_nil), _, rfl, ?_⟩
        rw [strs_nil]
        cases hn0 : e.notes with
        | nil =>
          refine iteF ?_
          obtain ⟨q1, q2, q3, q4, q5, q6, q7, q8⟩ := stay G6 k3'
          exact ⟨_, rfl, .inl ⟨rfl, _, SqL.of q1⟩, _, rfl, L, _, _, rfl, rfl, q1, q2, _, _, _, _, _, rfl, q3, q4, q5, q6, q7, q8⟩
        | cons z zr =>
          refine iteT ?_
          refine ⟨_, rfl, r, _, 3, .ref nn, rfl, rfl, SqL.of (k3'.at g45 nin0), rfl, nn, _, 0, .str z, rfl, rfl, SqL.of g66, by rw [hn0]; exact atI_nat (j := 0) rfl, (by show 2 ≤ sizeLine; decide), fun a ha => ?_⟩
          obtain ⟨q1, q2, q3, q4, q5, q6, q7, q8⟩ := add _ (.one wNoted z) (.ref a) (k3'.newTo ha) ⟨a, rfl, upd_same⟩ (.inr ⟨.inr rfl, s6.2 z (by rw [hn0]; exact List.mem_cons_self)⟩) (Nat.zero_le _)
          exact ⟨_, rfl, .inl ⟨rfl, _, SqL.of q1⟩, _, rfl, L, _, _, rfl, rfl, q1, q2, _, _, _, _, _, rfl, q3, q4, q5, q6, q7, q8⟩
      · refine iteF ?_
        obtain ⟨q1, q2, q3, q4, q5, q6, q7, q8⟩ := stay G5 (Keep.refl _ _)
        exact ⟨_, rfl, .inl ⟨rfl, _, SqL.of q1⟩, _, rfl, L, _, _, rfl, rfl, q1, q2, _, _, _, _, _, rfl, q3, q4, q5, q6, q7, q8⟩
    · rintro σ G ⟨v8, v9, v10, v11, zs, rfl, kG, tz, hzl, pG, eFG, wFG⟩
      exact ⟨_, rfl, kk G L zs kG hL0 tz (by omega) (pG.le (by omega))⟩
end
end Fs
/-! The program: the first test that fits. -/
namespace Fs
open PySem L2 TL
theorem TssAt.keep {ps : List (Str × Str)} {d : Nat} {ex : List Addr} {H H' : Hp} {L : Addr} {zs : List (Ts × V)} (h : TssAt ps d H L zs) (k : Keep ex H H') (n : L ∉ ex) (hx : ∀ b ∈ ex, ∃ xs, H b = some (.lst xs)) : TssAt ps d H' L zs :=
  ⟨k.at h.1 n, fun z hz => ⟨(h.2 z hz).1.keep k hx, (h.2 z hz).2⟩⟩
theorem TssAt.keep0 {ps : List (Str × Str)} {d : Nat} {H H' : Hp} {L : Addr} {zs : List (Ts × V)} (h : TssAt ps d H L zs) (k : Keep [] H H') : TssAt ps d H' L zs := h.keep k nin0 fun b z => absurd z nin0
theorem TssAt.mono {ps : List (Str × Str)} {d d' : Nat} {H : Hp} {L : Addr} {zs : List (Ts × V)} (h : TssAt ps d H L zs) (l : d ≤ d') : TssAt ps d' H L zs := ⟨h.1, fun z hz => ⟨(h.2 z hz).1, (h.2 z hz).2.1, Nat.le_trans (h.2 z hz).2.2 l⟩⟩
/-- the place of the first one that fits -/
def firstT (ps : List (Str × Str)) (e : Ent) (zs : List (Ts × V)) : Option Nat := zs.findIdx? fun z => fitsT ps e z.1
theorem firstT_step {ps : List (Str × Str)} {e : Ent} {zs : List (Ts × V)} {i : Nat} {z : Ts × V} (h : zs[i]? = some z) : firstT ps e (zs.take (i + 1)) = (firstT ps e (zs.take i)).or (if fitsT ps e z.1 = true then some i else none) := by
  have hi := (List.getElem?_eq_some_iff.mp h).1
  unfold firstT
  rw [List.take_add_one, h, List.findIdx?_append]
  congr 1
  show ([z].findIdx? _).map _ = _
  rw [List.findIdx?_cons, List.length_take, Nat.min_eq_left (Nat.le_of_lt hi)]
  cases q : fitsT ps e z.1 <;> simp [q]
theorem firstT_hit {ps : List (Str × Str)} {e : Ent} {zs : List (Ts × V)} {i : Nat} {z : Ts × V} (h : zs[i]? = some z) (h0 : firstT ps e (zs.take i) = none) (hf : fitsT ps e z.1 = true) : firstT ps e zs = some i := by
  have h1 := firstT_step (ps := ps) (e := e) h
  rw [h0, if_pos hf] at h1
  have h2 : firstT ps e zs = (firstT ps e (zs.take (i + 1))).or ((firstT ps e (zs.drop (i + 1))).map (· + (zs.take (i + 1)).length)) := by
    unfold firstT
    rw [← List.findIdx?_append, List.take_append_drop]
  rw [h2, h1]; rfl
abbrev sCks : Stmt := top 22 --def _check_tests
abbrev nCks : List Str := ["ledger", "tests", "test"]
theorem scCks : FnScope nCks ["ledger", "tests"] (defScope sCks) := ⟨rfl, rfl, rfl, by decide +kernel, rfl, by decide +kernel, by decide +kernel⟩
abbrev sFst : Stmt := top 23 --def _first
abbrev nFst : List Str := ["ledger", "k", "tests", "place", "test"]
theorem scFst : FnScope nFst ["ledger", "k", "tests"] (defScope sFst) := ⟨rfl, rfl, rfl, by decide +kernel, rfl, by decide +kernel, by decide +kernel⟩
def spCks (C CK : Addr) : Sp := fun vs H Q _ => ∃ (p L : Addr) (A : LA) (ms ns : List Addr) (es : List Ent) (ps : List (Str × Str)) (zs : List (Ts × V)), vs = [.ref p, .ref L] ∧ LT C CK ps H p A ms ns es ∧ TssAt ps 9 H L zs ∧ ∀ H', Keep [] H H' → Q .non H'
def spFst (C CK : Addr) : Sp := fun vs H Q _ => ∃ (p : Addr) (k : Nat) (L : Addr) (A : LA) (ms ns : List Addr) (es : List Ent) (ps : List (Str × Str)) (zs : List (Ts × V)) (e : Ent), vs = [.ref p, .int (k : Int), .ref L] ∧ LT C CK ps H p A ms ns es ∧ es[k]? = some e ∧ TssAt ps 9 H L zs ∧ ∀ H', Keep [] H H' → Q (optV (firstT ps e zs)) H'
section
variable {P : Program} {w : World} {K : PySem.W.Frag} {mg : Str → Option Value} {base : Heap} {C CK fCh fH : Addr}
theorem ok_cks {f : Addr} {fd dC : FuncData} (F : Fun K "_check_tests" "_check_tests" sCks f fd) (FC : FnOk P w K mg base CX0 5 fCh dC ["ledger", "test"] (spChT C CK)) (gC : mg "check_test" = some (.ref fCh)) (kC : PySem.W.keepIn K (.ref fCh) = true) (bC : Binds K dC ["ledger", "test"] []) :
    FnOk P w K mg base CX0 6 f fd ["ledger", "tests"] (spCks C CK) := by
  refine F.ok scCks (fun vs H Q E h => ?_) (fun cdv A0 outer s H vs Q E hr h => ?_)
  · obtain ⟨p, L, A, ms, ns, es, ps, zs, rfl, _⟩ := h
    rfl
  · obtain ⟨p, L, A, ms, ns, es, ps, zs, rfl, LL, tz, kk⟩ := h
    refine ⟨_, pss_one (ps_for PassesOwn.never rfl (pi_list (pv 1)) (pg_name (i := 2) scCks.nd rfl (Or.inl rfl))
      (pss_one (ps_expr (pe_call FC hr rfl gC kC bC .nil pass0 (pa_cons (pv 0) (pa_cons (pv 2) pa_nil)))))), ?_⟩
    refine ⟨_, rfl, L, rfl, ⟨_, SqL.of tz.1⟩, ?_⟩
    refine for_list (K := K) (a := L) (xs := zs.map Prod.snd) (fun i σ G => ∃ v2 : Option V, σ = [some (.ref p), some (.ref L), v2] ∧ Keep [] H G) ⟨none, rfl, Keep.refl _ _⟩ (fun i σ G _ hI => by
      obtain ⟨v2, rfl, kG⟩ := hI
      exact SqL.of (kG.at tz.1 nin0)) ?_ ?_
    · rintro i x σ G hx ⟨v2, rfl, kG⟩
      rw [List.getElem?_map] at hx
      obtain ⟨z, hz, rfl⟩ := Option.map_eq_some_iff.mp hx
      obtain ⟨ta, ok, hd⟩ := tz.2 z (List.mem_of_getElem? hz)
      refine ⟨_, rfl, _, rfl, p, z.2, A, ms, ns, es, ps, z.1, rfl, LL.keep0 kG, ta.keep0 kG, ok, hd, fun H' k' => ?_⟩
      exact ⟨_, rfl, kG.trans k'⟩
    · rintro σ G ⟨v2, rfl, kG⟩
      exact kk G kG
theorem ok_fst {f : Addr} {fd dH : FuncData} (F : Fun K "_first" "_first" sFst f fd) (FH : FnOk P w K mg base CX0 14 fH dH aHol (spHol C CK 10)) (gH : mg "holds" = some (.ref fH)) (kH : PySem.W.keepIn K (.ref fH) = true) (bH : Binds K dH aHol []) (mE : mg "enumerate" = none) :
    FnOk P w K mg base CX0 15 f fd ["ledger", "k", "tests"] (spFst C CK) := by
  refine F.ok scFst (fun vs H Q E h => ?_) (fun cdv A0 outer s H vs Q E hr h => ?_)
  · obtain ⟨p, k, L, A, ms, ns, es, ps, zs, e, rfl, _⟩ := h
    rfl
  · obtain ⟨p, k, L, A, ms, ns, es, ps, zs, e, rfl, LL, he, tz, kk⟩ := h
    refine ⟨_, pss_cons (ps_for PassesOwn.never rfl (pi_enum rfl mE (pa_cons (pv 2) pa_nil)) (by exact (pg_tup rfl (pgs_cons (pg_name (i := 3) scFst.nd rfl (Or.inl rfl)) (pgs_cons (pg_name (i := 4) scFst.nd rfl (Or.inl rfl)) pgs_nil))))
        (pss_one (ps_if (pt_val (pe_call FH hr rfl gH kH bH .nil pass0 (pa_cons (pv 0) (pa_cons (pv 1) (pa_cons (pv 4) pa_nil))))) (pss_one (ps_ret (pv 3))) pss_nil)))
      (pss_one (ps_ret pe_non)), ?_⟩
    refine ⟨_, rfl, L, _, rfl, SqL.of tz.1, ?_⟩
    refine for_it (walk_enum (K := K) (a := L) (xs := zs.map Prod.snd)) (fun i σ G => ∃ v3 v4 : Option V, σ = [some (.ref p), some (.int (k : Int)), some (.ref L), v3, v4] ∧ Keep [] H G ∧ firstT ps e (zs.take i) = none) ⟨none, none, rfl, Keep.refl _ _, rfl⟩ (fun i σ G _ hI => by
      obtain ⟨v3, v4, rfl, kG, _⟩ := hI
      exact SqL.of (kG.at tz.1 nin0)) ?_ ?_
    · rintro i x σ G G2 hi ⟨v3, v4, rfl, kG, h0⟩ ⟨T, y1, y2, rfl, hT, rfl, q1, q2⟩
      cases q1
      have q2 : (zs.map Prod.snd)[i]? = some y2 := q2
      rw [List.getElem?_map] at q2
      obtain ⟨z, hz, rfl⟩ := Option.map_eq_some_iff.mp q2
      have kT : Keep [] G (upd G T (.tup [.int (i : Int), z.2])) := Keep.new hT
      have kG2 := kG.trans kT
      refine ⟨T, _, rfl, SqT.of upd_same, rfl, _, _, rfl, _, _, rfl, rfl, ?_⟩
      generalize (upd G T (.tup [.int (i : Int), z.2])) = G2 at kT kG2 ⊢
      obtain ⟨ta, ok, hd⟩ := tz.2 z (List.mem_of_getElem? hz)
      refine ⟨_, rfl, _, rfl, _, rfl, p, k, z.2, A, ms, ns, es, ps, z.1, e, rfl, by omega, LL.keep0 kG2, he, ta.keep0 kG2, ok, fun G3 k3 => ⟨_, rfl, ?_⟩⟩
      cases q : fitsT ps e z.1 with
      | true =>
        refine iteT ⟨_, rfl, ?_⟩
        have := kk G3 (kG2.trans k3)
        rw [firstT_hit hz h0 q] at this
        exact this
      | false =>
        refine iteF ⟨_, _, rfl, kG2.trans k3, ?_⟩
        rw [firstT_step hz, h0, q]; rfl
    · rintro σ G ⟨v3, v4, rfl, kG, h0⟩
      rw [List.length_map, List.take_length] at h0
      have := kk G kG
      rw [h0] at this
      exact this
end
end Fs
/-! Hands: what is asked of them. -/
namespace Fs
open PySem L2 TL
/-- the same text, notes, cause, and what was at work -/
def sameT (e e0 : Ent) : Prop := e.text = e0.text ∧ e.notes = e0.notes ∧ e.cause = e0.cause ∧ e.atw = e0.atw
theorem sameT.trans {a b c : Ent} (h : sameT a b) (g : sameT b c) : sameT a c := ⟨h.1.trans g.1, h.2.1.trans g.2.1, h.2.2.1.trans g.2.2.1, h.2.2.2.trans g.2.2.2⟩
def bareE : Ent := ⟨sS, "", [], [], none, none⟩
/-- new sheaves -/
def News (es xs : List Ent) : Prop := ∀ (i : Nat) (e : Ent), xs[i]? = some e → e.kind = sS ∧ e.mem ≠ [] ∧ e.mem.length ≤ 101 ∧ (∀ m ∈ e.mem, m < es.length + i) ∧ (sameT e bareE ∨ ∃ e0 ∈ es, sameT e e0)
theorem News.nil (es : List Ent) : News es [] := fun i e h => by simp at h
theorem Parts.news {es xs : List Ent} (h : Parts es xs) : News es xs := fun i e q => by
  obtain ⟨a, b, c, d, e0, m0, _, t, n, u, g⟩ := h i e q
  exact ⟨a, b, c, d, .inr ⟨e0, m0, t, n, u, g⟩⟩
theorem News.app {es xs ys : List Ent} (h1 : News es xs) (h2 : News (es ++ xs) ys) : News es (xs ++ ys) := fun i e h => by
  by_cases hi : i < xs.length
  · rw [List.getElem?_append_left hi] at h
    exact h1 i e h
  · rw [List.getElem?_append_right (by omega)] at h
    obtain ⟨a, b, c, d, f⟩ := h2 _ e h
    refine ⟨a, b, c, fun m hm => ?_, ?_⟩
    · have := d m hm
      rw [List.length_append] at this
      omega
    · rcases f with f | ⟨e0, m0, f⟩
      · exact .inl f
      · rcases List.mem_append.mp m0 with q | q
        · exact .inr ⟨e0, q, f⟩
        · obtain ⟨j, hj⟩ := List.mem_iff_getElem?.mp q
          rcases (h1 j e0 hj).2.2.2.2 with g | ⟨e1, m1, g⟩
          · exact .inl (f.trans g)
          · exact .inr ⟨e1, m1, f.trans g⟩
theorem News.all {p : Ent → Prop} {es xs : List Ent} (h : News es xs) (h1 : ∀ e ∈ es, p e) (h2 : ∀ e : Ent, e.kind = sS → e.mem ≠ [] → e.mem.length ≤ 101 → p e) : ∀ e ∈ es ++ xs, p e := fun e he => by
  rcases List.mem_append.mp he with q | q
  · exact h1 e q
  · obtain ⟨j, hj⟩ := List.mem_iff_getElem?.mp q
    obtain ⟨a, b, c, _⟩ := h j e hj
    exact h2 e a b c
theorem Row.news {es xs : List Ent} (R : Row es) (h : News es xs) : Row (es ++ xs) := by
  obtain ⟨r, hr⟩ := R.fell
  obtain ⟨M, hM⟩ := top_of r es.length
  have back : ∀ (x : Nat) (f : Ent) (y : Nat), (es ++ xs)[x]? = some f → f.atw = some y → y < es.length ∧ (x < es.length → r y < r x) := fun x f y q a => by
    by_cases hx : x < es.length
    · rw [List.getElem?_append_left hx] at q
      exact ⟨R.there x f y q a, fun _ => hr x f y q a⟩
    · rw [List.getElem?_append_right (by omega)] at q
      rcases (h _ f q).2.2.2.2 with g | ⟨e0, m0, g⟩
      · rw [g.2.2.2] at a; cases a
      · obtain ⟨j, hj⟩ := List.mem_iff_getElem?.mp m0
        rw [g.2.2.2] at a
        exact ⟨R.there j e0 y hj a, fun z => absurd z hx⟩
  refine ⟨⟨fun x => if x < es.length then r x else M + 1, fun x f y q a => ?_⟩, fun x f y q a => ?_⟩
  · obtain ⟨h1, h2⟩ := back x f y q a
    show (if y < es.length then r y else M + 1) < (if x < es.length then r x else M + 1)
    rw [if_pos h1]
    by_cases hx : x < es.length
    · rw [if_pos hx]; exact h2 hx
    · rw [if_neg hx]
      have := hM y h1
      omega
  · have := (back x f y q a).1
    rw [List.length_append]; omega
theorem ScB.news {C CK : Addr} {ps : List (Str × Str)} {cap : Nat} {p l X : Addr} {tx : List Str} {H H' : Hp} {D : LDA} {es xs ys : List Ent} {n : Nat} (S : ScB C CK ps cap p l X tx H D es xs) (hp : PotAt H p n) {mm nn : List Addr} {Lf' Df' Nf' : Nat → Nat} (k : Keep D.A.ls H H') (led : LedAt C H' D.q D.A (D.ms ++ mm) (D.ns ++ nn) (es ++ xs ++ ys)) (new : ∀ b ∈ nn, H b = none) (T : Tree (es ++ xs ++ ys) Lf' Df' Nf') (pt : News (es ++ xs) ys) : ScB C CK ps cap p l X tx H' (D.more mm nn) es (xs ++ ys) :=
  S.grow hp k led new T (S.st.rowX.news pt) fun e he => by
    obtain ⟨j, hj⟩ := List.mem_iff_getElem?.mp he
    obtain ⟨a, b, c, d, _⟩ := pt j e hj
    have := (List.getElem?_eq_some_iff.mp hj).1
    exact ⟨a, b, c, fun m hm => by have := d m hm; rw [List.length_append (bs := ys)]; omega⟩
def handE (k : Nat) : Ent := ⟨sS, "", [k], [], none, none⟩
/-- a part, or a hand -/
structure DH (C : Addr) (hand : Bool) (H H' : Hp) (p : Addr) (A : LA) (ms ns : List Addr) (es : List Ent) (Lf Df : Nat → Nat) (k : Nat) (ws : List (List Nat)) (mm nn : List Addr) (xs : List Ent) (Lf' Df' Nf' : Nat → Nat) (r : Option Nat) : Prop where
  keep : Keep A.ls H H'
  led : LedAt C H' p A (ms ++ mm) (ns ++ nn) (es ++ xs)
  new : ∀ b ∈ nn, H b = none
  tree : Tree (es ++ xs) Lf' Df' Nf'
  same : ∀ i, i < es.length → Lf' i = Lf i ∧ Df' i = Df i
  news : News es xs
  few : xs.length ≤ ws.length * (Df k + 1)
  non : r = none → ws = []
  got : ∀ f, r = some f → f < (es ++ xs).length ∧ (lvW (es ++ xs) f).map Prod.snd = ((lvW es k).filter fun x => decide (x.1 ∈ ws)).map Prod.snd
  sheaf : hand = true → ∀ f, r = some f → ∃ e, (es ++ xs)[f]? = some e ∧ e.kind = sS
  whole : (∀ w ∈ (lvW es k).map Prod.fst, w ∈ ws) → (hand = true → ∃ e, es[k]? = some e ∧ e.kind = sS) → r = some k
  deep : ∀ f, r = some f → Df' f ≤ max 1 (Df k)
  pr : (hand = true ∧ (∃ e, es[k]? = some e ∧ e.mem = []) ∧ ws ≠ [] ∧ ∃ f, r = some f ∧ es.length ≤ f ∧ (es ++ xs)[f]? = some (handE k)) ∨ ((hand = true → ws = [] ∨ ∃ e, es[k]? = some e ∧ e.mem ≠ []) ∧ PR es (es ++ xs) es.length 16 (inB ws) k r)
theorem PR.full {es fs : List Ent} {many n k : Nat} {ws : List (List Nat)} {r : Option Nat} (B : Back es) (hk : k < es.length) (h : PR es fs many n (inB ws) k r) (ha : ∀ w ∈ (lvW es k).map Prod.fst, w ∈ ws) : r = some k := by
  cases n with
  | zero => exact h.elim
  | succ n =>
    obtain ⟨e, he, h⟩ := h
    obtain ⟨x, hx⟩ := lvW_ne B _ k (Nat.lt_succ_self _) hk
    have hx' := List.mem_map_of_mem (f := Prod.fst) hx
    rcases h with (⟨h, hr⟩ | ⟨h, hr⟩) | ⟨_, ⟨w, h1, h2⟩, _⟩
    · exact absurd (ha _ hx') (of_decide_eq_false (h _ hx'))
    · exact hr
    · exact absurd (ha _ h1) (of_decide_eq_false h2)
theorem pr_empty {es fs : List Ent} {many n k : Nat} {r : Option Nat} (B : Back es) (hk : k < es.length) (h : PR es fs many n (inB []) k r) : r = none := by
  cases n with
  | zero => exact h.elim
  | succ n =>
    obtain ⟨e, he, h⟩ := h
    obtain ⟨x, hx⟩ := lvW_ne B _ k (Nat.lt_succ_self _) hk
    have hx' := List.mem_map_of_mem (f := Prod.fst) hx
    rcases h with (⟨h, hr⟩ | ⟨h, hr⟩) | ⟨⟨w, h1, h2⟩, _⟩
    · exact hr
    · exact absurd (of_decide_eq_true (h _ hx')) List.not_mem_nil
    · exact absurd (of_decide_eq_true h2) List.not_mem_nil
theorem Done.toH {C : Addr} {hand : Bool} {H H' : Hp} {p : Addr} {A : LA} {ms ns : List Addr} {es : List Ent} {Lf Df : Nat → Nat} {k : Nat} {ws : List (List Nat)} {mm nn : List Addr} {xs : List Ent} {Lf' Df' Nf' : Nat → Nat} {r : Option Nat}
    (h : Done C 16 H H' p A ms ns es Lf Df k ws mm nn xs Lf' Df' Nf' r) (B : Back es) (hk : k < es.length) (wsub : ∀ w ∈ ws, w ∈ (lvW es k).map Prod.fst) (hks : ∀ e ∈ es, e.kind = sS → e.mem ≠ []) (hh : hand = true → ws = [] ∨ ∃ e, es[k]? = Option.some e ∧ e.kind = sS) : DH C hand H H' p A ms ns es Lf Df k ws mm nn xs Lf' Df' Nf' r := by
  refine ⟨h.keep, h.led, h.new, h.tree, h.same, h.parts.news, h.few, h.none, fun f hf => ⟨(h.some f hf).1, ?_⟩, fun hd f hf => ?_, fun ha _ => h.right.full B hk ha, fun f hf => Nat.le_trans (h.some f hf).2.2 (Nat.le_max_right _ _), .inr ⟨fun hd => ?_, h.right⟩⟩
  · rw [PR.ways B h.tree.back' (ws := ws) hk (fun i hi => (List.getElem?_append_left (by omega)).symm) (fun w _ => rfl) wsub h.right f hf, List.map_map]
    rfl
  · rcases hh hd with z | ⟨e, he, hs⟩
    · have hr := h.right
      rw [z] at hr
      rw [pr_empty B hk hr] at hf; cases hf
    · have hr := h.right
      obtain ⟨e1, he1, hr⟩ := hr
      rcases hr with (⟨_, hr⟩ | ⟨_, hr⟩) | ⟨_, _, f', e', h3, h4, h5, h6, _⟩
      · rw [hr] at hf; cases hf
      · rw [hr] at hf
        have ef := Option.some.inj hf
        subst ef
        exact ⟨e, by rw [List.getElem?_append_left hk]; exact he, hs⟩
      · rw [h3] at hf
        have ef := Option.some.inj hf
        subst ef
        exact ⟨e', h5, h6.1⟩
  · rcases hh hd with z | ⟨e, he, hs⟩
    · exact .inl z
    · exact .inr ⟨e, he, hks e (List.mem_of_getElem? he) hs⟩
/-- by the first test that fits -/
def plN (ps : List (Str × Str)) (es : List Ent) (zs : List (Ts × V)) (j : Nat) : Nat := match es[j]? with
  | some e => (firstT ps e zs).getD zs.length
  | none => zs.length
def bagX (ps : List (Str × Str)) (es : List Ent) (zs : List (Ts × V)) (k j : Nat) : List WH := (lvW es k).filter fun x => decide (plN ps es zs x.2 = j)
def bagW (ps : List (Str × Str)) (es : List Ent) (zs : List (Ts × V)) (k j : Nat) : List (List Nat) := (bagX ps es zs k j).map Prod.fst
def bagN (ps : List (Str × Str)) (es : List Ent) (zs : List (Ts × V)) (k j : Nat) : List Nat := (bagX ps es zs k j).map Prod.snd
theorem fst_injW : ∀ {l : List WH}, (l.map Prod.fst).Nodup → ∀ {a b : WH}, a ∈ l → b ∈ l → a.1 = b.1 → a = b
  | [], _, _, _, h, _, _ => absurd h List.not_mem_nil
  | x :: r, nd, a, b, ha, hb, e => by
    obtain ⟨n1, n2⟩ := List.nodup_cons.mp nd
    rcases List.mem_cons.mp ha with z | z <;> rcases List.mem_cons.mp hb with y | y
    · rw [z, y]
    · exact absurd (by rw [← z, e]; exact List.mem_map_of_mem y) n1
    · exact absurd (by rw [← y, ← e]; exact List.mem_map_of_mem z) n1
    · exact fst_injW n2 z y e
theorem bagW_in {ps : List (Str × Str)} {es : List Ent} {zs : List (Ts × V)} {k j : Nat} (B : Back es) {x : WH} (hx : x ∈ lvW es k) : x.1 ∈ bagW ps es zs k j ↔ plN ps es zs x.2 = j := by
  unfold bagW bagX
  rw [List.mem_map]
  constructor
  · rintro ⟨y, hy, e⟩
    obtain ⟨h1, h2⟩ := List.mem_filter.mp hy
    have := fst_injW (lvW_nd B k) h1 hx e
    subst this
    exact of_decide_eq_true h2
  · intro h
    exact ⟨x, List.mem_filter.mpr ⟨hx, decide_eq_true h⟩, rfl⟩
theorem bag_nums {ps : List (Str × Str)} {es : List Ent} {zs : List (Ts × V)} {k j : Nat} (B : Back es) : ((lvW es k).filter fun x => decide (x.1 ∈ bagW ps es zs k j)).map Prod.snd = bagN ps es zs k j := by
  unfold bagN bagX
  rw [List.filter_congr fun x hx => decide_eq_decide.mpr (bagW_in B hx)]
theorem bagW_sub {ps : List (Str × Str)} {es : List Ent} {zs : List (Ts × V)} {k j : Nat} : ∀ w ∈ bagW ps es zs k j, w ∈ (lvW es k).map Prod.fst := fun w h => by
  obtain ⟨x, hx, rfl⟩ := List.mem_map.mp h
  exact List.mem_map_of_mem (List.mem_filter.mp hx).1
theorem bagW_nd {ps : List (Str × Str)} {es : List Ent} {zs : List (Ts × V)} {k j : Nat} (B : Back es) : (bagW ps es zs k j).Nodup := (lvW_nd B k).sublist (List.Sublist.map _ List.filter_sublist)
theorem bagW_none {ps : List (Str × Str)} {es : List Ent} {zs : List (Ts × V)} {k j : Nat} : bagW ps es zs k j = [] ↔ bagN ps es zs k j = [] := by
  unfold bagW bagN
  rw [List.map_eq_nil_iff, List.map_eq_nil_iff]
theorem plN_app {ps : List (Str × Str)} {es xs : List Ent} {zs : List (Ts × V)} {j : Nat} (h : j < es.length) : plN ps (es ++ xs) zs j = plN ps es zs j := by
  unfold plN
  rw [List.getElem?_append_left h]
theorem bagX_app {ps : List (Str × Str)} {es xs : List Ent} {zs : List (Ts × V)} {k j : Nat} (B : Back es) (hk : k < es.length) : bagX ps (es ++ xs) zs k j = bagX ps es zs k j := by
  unfold bagX
  rw [lvW_app B hk]
  exact List.filter_congr fun x hx => by rw [plN_app (lvW_num B (k + 1) k (Nat.lt_succ_self _) hk x hx)]
theorem firstT_lt {ps : List (Str × Str)} {e : Ent} {zs : List (Ts × V)} {i : Nat} (h : firstT ps e zs = some i) : i < zs.length := by
  unfold firstT at h
  exact (List.findIdx?_eq_some_iff_getElem.mp h).1
theorem plN_le {ps : List (Str × Str)} {es : List Ent} {zs : List (Ts × V)} {j : Nat} : plN ps es zs j ≤ zs.length := by
  unfold plN
  split
  · rename_i e _
    cases q : firstT ps e zs with
    | none => exact Nat.le_refl _
    | some i => exact Nat.le_of_lt (firstT_lt q)
  · exact Nat.le_refl _
/-- what one of the hands, or what is left, is -/
structure HR (dd : Nat) (F : List Ent) (ps : List (Str × Str)) (es : List Ent) (zs : List (Ts × V)) (k j : Nat) (r : Option Nat) : Prop where
  non : r = none → bagN ps es zs k j = []
  got : ∀ f, r = some f → f < F.length ∧ (lvW F f).map Prod.snd = bagN ps es zs k j
  sheaf : j < zs.length → ∀ f, r = some f → ∃ e, F[f]? = some e ∧ e.kind = sS
  whole : (∀ x ∈ lvW es k, plN ps es zs x.2 = j) → (j < zs.length → ∃ e, es[k]? = some e ∧ e.kind = sS) → r = some k
  deep : ∀ f, r = some f → ∀ x ∈ lvW F f, x.1.length ≤ max 1 dd
  pr : (j < zs.length ∧ (∃ e, es[k]? = some e ∧ e.mem = []) ∧ bagW ps es zs k j ≠ [] ∧ ∃ f, r = some f ∧ es.length ≤ f ∧ F[f]? = some (handE k)) ∨ ((j < zs.length → bagW ps es zs k j = [] ∨ ∃ e, es[k]? = some e ∧ e.mem ≠ []) ∧ PR es F es.length 16 (inB (bagW ps es zs k j)) k r)
theorem HR.app {dd : Nat} {F ys : List Ent} {ps : List (Str × Str)} {es : List Ent} {zs : List (Ts × V)} {k j : Nat} {r : Option Nat} (h : HR dd F ps es zs k j r) (B : Back F) : HR dd (F ++ ys) ps es zs k j r :=
  ⟨h.non, fun f hf => by
    obtain ⟨a, b⟩ := h.got f hf
    exact ⟨by rw [List.length_append]; omega, by rw [lvW_app B a]; exact b⟩, fun hj f hf => by
    obtain ⟨e, a, b⟩ := h.sheaf hj f hf
    exact ⟨e, by rw [List.getElem?_append_left (List.getElem?_eq_some_iff.mp a).1]; exact a, b⟩, h.whole, fun f hf x hx => by
    rw [lvW_app B (h.got f hf).1] at hx
    exact h.deep f hf x hx, by
    have up : ∀ (f : Nat) (e : Ent), F[f]? = some e → (F ++ ys)[f]? = some e := fun f e a => by rw [List.getElem?_append_left (List.getElem?_eq_some_iff.mp a).1]; exact a
    rcases h.pr with ⟨a, b, c, f, d, e, g⟩ | ⟨a, b⟩
    · exact .inl ⟨a, b, c, f, d, e, up f _ g⟩
    · exact .inr ⟨a, b.up (Nat.le_refl _) fun f e _ q => up f e q⟩⟩
theorem HR.zero {dd : Nat} {F : List Ent} {ps : List (Str × Str)} {es : List Ent} {zs : List (Ts × V)} {k j : Nat} {r : Option Nat} (h : HR dd F ps es zs k j r) (B : Back F) (h0 : bagN ps es zs k j = []) : r = none := by
  cases r with
  | none => rfl
  | some f =>
    obtain ⟨a, b⟩ := h.got f rfl
    obtain ⟨x, hx⟩ := lvW_ne B _ f (Nat.lt_succ_self _) a
    rw [h0, List.map_eq_nil_iff] at b
    rw [b] at hx; exact absurd hx List.not_mem_nil
end Fs
/-! The program: what a catcher has in hand. -/
namespace Fs
open PySem L2 TL
abbrev sHnd : Stmt := top 24 --def _hand
abbrev nHnd : List Str := ["ledger", "k", "ways"]
theorem scHnd : FnScope nHnd ["ledger", "k", "ways"] (defScope sHnd) := ⟨rfl, rfl, rfl, by decide +kernel, rfl, by decide +kernel, by decide +kernel⟩
def spHnd (C : Addr) : Sp := fun vs H Q _ => ∃ (p L : Addr) (k : Nat) (A : LA) (ms ns : List Addr) (es : List Ent) (ts : List Addr) (ws : List (List Nat)) (Lf Df Nf : Nat → Nat), vs = [.ref p, .int (k : Int), .ref L] ∧ LedAt C H p A ms ns es ∧ Tree es Lf Df Nf ∧ (∀ e ∈ es, e.mem.length ≤ 101) ∧ (∀ e ∈ es, e.mem ≠ [] → e.kind = sS) ∧ (∀ e ∈ es, e.kind = sS → e.mem ≠ []) ∧ k < es.length ∧ H L = some (.lst (ts.map V.ref)) ∧ TwsAt H ts ws ∧ ws.Nodup ∧ (∀ w ∈ ws, w ∈ (lvW es k).map Prod.fst) ∧ es.length + ws.length * (Df k + 1) ≤ 90000 ∧
  ∀ (H' : Hp) (mm nn : List Addr) (xs : List Ent) (Lf' Df' Nf' : Nat → Nat) (r : Option Nat), DH C true H H' p A ms ns es Lf Df k ws mm nn xs Lf' Df' Nf' r → Q (optV r) H'
structure HnTx (K : PySem.W.Frag) (mg : Str → Option Value) (C fKi fSh fPt : Addr) : Prop where
  cl : Cls K C
  mKi : Meth K C "kind" fKi
  mSh : Meth K C "sheaf" fSh
  gP : mg "part_at" = some (.ref fPt)
  kP : PySem.W.keepIn K (.ref fPt) = true
section
variable {P : Program} {w : World} {K : PySem.W.Frag} {mg : Str → Option Value} {base : Heap} {C fKi fSh fPt : Addr}
theorem ok_hnd {f : Addr} {fd dK dS dP : FuncData} (F : Fun K "_hand" "_hand" sHnd f fd) (T : HnTx K mg C fKi fSh fPt) (FK : FnOk P w K mg base CX0 3 fKi dK ["self", "k"] (spGet C fun e => .str e.kind)) (bK : Binds K dK ["self", "k"] [])
    (FS : FnOk P w K mg base CX0 4 fSh dS ["self", "text", "members"] (spSheaf K C)) (bS : Binds K dS ["self", "text", "members"] []) (FP : FnOk P w K mg base CX0 20 fPt dP aPat (spPat C 16)) (bP : Binds K dP aPat []) : FnOk P w K mg base CX0 21 f fd ["ledger", "k", "ways"] (spHnd C) := by
  refine F.ok scHnd (fun vs H Q E h => ?_) (fun cdv A0 outer s H vs Q Es hr h => ?_)
  · obtain ⟨p, L, k, A, ms, ns, es, ts, ws, Lf, Df, Nf, rfl, _⟩ := h
    rfl
  · obtain ⟨p, L, k, A, ms, ns, es, ts, ws, Lf, Df, Nf, rfl, hL, T', h101, hsf, hks, hk, eL, tw, wnd, wsub, hroom, kk⟩ := h
    have hr3 : Room 3 _ := hr.mono (by omega)
    have hr4 : Room 4 _ := hr.mono (by omega)
    refine ⟨_, pss_cons (ps_if (PW.pt (pw_and (pt_truth (pv 2) (fun _ => rfl)) (pw_and1 (pt_cmpR op_ne (pe_meth (pv 0) T.cl T.mKi FK hr3 bK .nil pass0 (pa_cons (pv 1) pa_nil)) pe_str (nomark _))))) (pss_one (ps_ret (pe_meth (pv 0) T.cl T.mSh FS hr4 bS .nil pass0 (pa_cons pe_str (pa_cons (pe_lst (pa_cons (pv 1) pa_nil)) pa_nil))))) pss_nil)
      (pss_one (ps_ret (pe_call FP hr rfl T.gP T.kP bP .nil pass0 (pa_cons (pv 0) (pa_cons (pv 1) (pa_cons (pv 2) pa_nil)))))), ?_⟩
    obtain ⟨f1, f2⟩ := T'.few k _ (List.getElem?_eq_getElem hk)
    have B0 := T'.back'
    have he := List.getElem?_eq_getElem hk
    generalize es[k] = e at he
    have rest : ∀ {Qd : V → Hp → Prop}, (ws = [] ∨ ∃ e, es[k]? = some e ∧ e.kind = sS) → (∀ v G, Qd v G ↔ Q v G) → spPat C 16 [.ref p, .int (k : Int), .ref L] H Qd Es := fun hh hq => by
      refine ⟨p, L, k, A, ms, ns, es, ts, ws, Lf, Df, Nf, rfl, by omega, hL, T', h101, hsf, hk, eL, tw, wnd, wsub, hroom, fun H' mm nn xs Lf' Df' Nf' r dn => ?_⟩
      exact (hq _ _).mpr (kk H' mm nn xs Lf' Df' Nf' r (dn.toH B0 hk wsub hks fun _ => hh))
    refine ⟨_, rfl, !(ts.map V.ref).isEmpty, .inl ⟨_, SqL.of eL, rfl⟩, ?_⟩
    have ltw := tw.len
    by_cases z : ws = []
    · have ets : ts = [] := List.length_eq_zero_iff.mp (by rw [ltw, z]; rfl)
      rw [show (ts.map V.ref).isEmpty = true by rw [ets]; rfl]
      refine iteF (iteF ?_)
      exact ⟨_, rfl, _, rfl, _, rfl, rest (.inl z) fun _ _ => Iff.rfl⟩
    have wpos : 1 ≤ ws.length := List.length_pos_iff.mpr z
    rw [show (ts.map V.ref).isEmpty = false by
      cases q : ts with
      | nil => rw [q] at ltw; simp at ltw; omega
      | cons a r => rfl]
    refine iteT ?_
    refine ⟨_, rfl, p, A.dx, _, rfl, hL.ins, flno A, _, rfl, p, A, ms, ns, es, k, e, rfl, hL, he, rfl, _, rfl, ?_⟩
    by_cases hs : e.kind = sS
    · rw [decide_eq_true (show V.str e.kind = V.str sS by rw [hs])]
      refine iteF ?_
      exact ⟨_, rfl, _, rfl, _, rfl, rest (.inr ⟨e, he, hs⟩) fun _ _ => Iff.rfl⟩
    · rw [decide_eq_false (show ¬ V.str e.kind = V.str sS from fun q => hs (V.str.inj q))]
      refine iteT ?_
      have hem : e.mem = [] := Classical.byContradiction fun q => hs (hsf e (List.mem_of_getElem? he) q)
      have lv := lvW_leaf he hem
      obtain ⟨lf1, lf2, lf3⟩ := T'.leaf k e he hem
      refine ⟨_, rfl, p, A.dx, _, rfl, hL.ins, flno A, _, rfl, (by decide : 1 ≤ sizeLine), fun M hM => ?_⟩
      have kM : Keep [] H (upd H M (.lst [.int (k : Int)])) := Keep.new hM
      have eM : (upd H M (.lst [.int (k : Int)])) M = some (.lst [.int (k : Int)]) := upd_same
      generalize (upd H M (.lst [.int (k : Int)])) = H1 at kM eM ⊢
      have hL1 := hL.keep kM (fun b z => absurd z nin0) (fun b z => absurd z nin0)
      have nMA : M ∉ A.ls := fun z => by
        obtain ⟨xs, q⟩ := hL.isl M z
        rw [hM] at q; cases q
      refine ⟨p, M, A, ms, ns, es, "", [k], rfl, hL1, SqL.of eM, nMA, List.cons_ne_nil _ _, fun m hm => by rw [List.mem_singleton.mp hm]; exact hk, by omega, fun H' t' n' k2 led hn => ?_⟩
      have w1 : ∀ w ∈ ws, w = [] := fun w hw => by
        have := wsub w hw
        rw [lv] at this
        simpa using this
      have win : ([] : List Nat) ∈ ws := by
        obtain ⟨w, hw⟩ := List.exists_mem_of_ne_nil _ z
        rw [← w1 w hw]; exact hw
      have Tn := T'.snoc (e := ⟨sS, "", [k], [], none, none⟩) (a := 1) (d := 1) (fun m hm => by rw [List.mem_singleton.mp hm]; exact hk) (by rw [if_neg (List.cons_ne_nil _ _)]; simp [lf1]) (by omega) (by omega) (fun h => absurd h (List.cons_ne_nil _ _)) (fun m hm => by rw [List.mem_singleton.mp hm, lf3]; exact Nat.le_refl _) (fun _ => ⟨k, List.mem_singleton.mpr rfl, by rw [lf3]⟩)
      have get : (es ++ [(⟨sS, "", [k], [], none, none⟩ : Ent)])[es.length]? = some ⟨sS, "", [k], [], none, none⟩ := by rw [List.getElem?_append_right (Nat.le_refl _), Nat.sub_self]; rfl
      refine kk H' [t'] [n'] [⟨sS, "", [k], [], none, none⟩] _ _ _ (some es.length) ⟨(kM.more fun b z => absurd z nin0).trans k2, led, fun b hb => by rw [List.mem_singleton.mp hb]; exact Keep.free kM hn nin0, Tn, fun i hi => ?_, fun i e' h => ?_, ?_, (fun h => by cases h), fun f hf => ?_, fun _ f hf => ?_, fun _ hh => ?_, fun f hf => ?_, .inl ⟨rfl, ⟨e, he, hem⟩, z, es.length, rfl, Nat.le_refl _, get⟩⟩
      · rw [put_old hi, put_old hi]; exact ⟨rfl, rfl⟩
      · have hi : i = 0 := by
          have := (List.getElem?_eq_some_iff.mp h).1
          simp at this; exact this
        subst hi
        have : (⟨sS, "", [k], [], none, none⟩ : Ent) = e' := by simpa using h
        subst this
        exact ⟨rfl, List.cons_ne_nil _ _, (by show 1 ≤ 101; decide), fun m hm => by rw [List.mem_singleton.mp hm]; omega, .inl ⟨rfl, rfl, rfl, rfl⟩⟩
      · rw [lf3]
        show 1 ≤ ws.length * 1
        omega
      · have ef := Option.some.inj hf
        subst ef
        refine ⟨by rw [List.length_append]; simp, ?_⟩
        rw [lvW_nest Tn.back' get (List.cons_ne_nil _ _)]
        show (((List.range 1).flatMap fun i => _).map Prod.snd) = _
        rw [show List.range 1 = [0] from rfl, List.flatMap_cons, List.flatMap_nil, List.append_nil, List.map_map]
        show ((lvW (es ++ _) k).map _) = _
        rw [lvW_app B0 hk, lv, List.filter_cons, decide_eq_true win]
        rfl
      · have ef := Option.some.inj hf
        subst ef
        exact ⟨_, get, rfl⟩
      · obtain ⟨e1, h1, h2⟩ := hh rfl
        rw [he] at h1
        rw [← Option.some.inj h1] at h2
        exact absurd h2 hs
      · have ef := Option.some.inj hf
        subst ef
        rw [put_same]
        exact Nat.le_max_left _ _
end
end Fs
/-! The program: what is taken out. -/
namespace Fs
open PySem L2 TL
/-- lists of ways -/
def BagsAt (G : Hp) (bs : List Addr) (f : Nat → List (List Nat)) : Prop := ∀ (j : Nat) (b : Addr), bs[j]? = some b → ∃ ts : List Addr, G b = some (.lst (ts.map V.ref)) ∧ TwsAt G ts (f j)
theorem BagsAt.keep0 {G G' : Hp} {bs : List Addr} {f : Nat → List (List Nat)} (h : BagsAt G bs f) (k : Keep [] G G') : BagsAt G' bs f := fun j b hb => by
  obtain ⟨ts, a, c⟩ := h j b hb
  exact ⟨ts, k.at a nin0, c.map fun a xs q => k.at q nin0⟩
theorem BagsAt.more {G : Hp} {bs : List Addr} {f : Nat → List (List Nat)} {j : Nat} {b t : Addr} {w : List Nat} {ts : List Addr} (nd : bs.Nodup) (h : BagsAt G bs f) (hb : bs[j]? = some b) (et : G t = some (.tup (memV w))) (eb : G b = some (.lst (ts.map V.ref))) (tb : TwsAt G ts (f j)) {g : Nat → List (List Nat)} (hg : ∀ i, g i = if i = j then f i ++ [w] else f i) : BagsAt (upd G b (.lst (ts.map V.ref ++ [.ref t]))) bs g := fun i a ha => by
  have up : ∀ (c : Addr) (ys : List V), G c = some (.tup ys) → (upd G b (.lst (ts.map V.ref ++ [.ref t]))) c = some (.tup ys) := fun c ys q => by rw [upd_ne (ne_of q eb (fun z => by cases z))]; exact q
  rw [hg]
  by_cases z : i = j
  · subst z
    rw [hb] at ha
    cases ha
    rw [if_pos rfl]
    exact ⟨ts ++ [t], by rw [upd_same, List.map_append]; rfl, (tb.map up).snoc (up _ _ et)⟩
  · rw [if_neg z]
    obtain ⟨ta, ea, wa⟩ := h i a ha
    have ne : a ≠ b := fun q => by
      subst q
      have h1 := (List.getElem?_eq_some_iff.mp ha).1
      exact z ((List.getElem?_inj h1 nd).mp (by rw [ha, hb]))
    exact ⟨ta, by rw [upd_ne ne]; exact ea, wa.map up⟩
def cntT (ps : List (Str × Str)) (es : List Ent) (zs : List (Ts × V)) (k t : Nat) : Nat := ((lvW es k).filter fun x => decide (plN ps es zs x.2 < t)).length
theorem filt_two {l : List WH} {g : WH → Nat} {t : Nat} : (l.filter fun x => decide (g x < t + 1)).length = (l.filter fun x => decide (g x < t)).length + (l.filter fun x => decide (g x = t)).length := by
  induction l with
  | nil => rfl
  | cons x r ih =>
    rw [List.filter_cons, List.filter_cons, List.filter_cons]
    by_cases h1 : g x < t
    · rw [decide_eq_true (show g x < t + 1 by omega), decide_eq_true h1, decide_eq_false (show ¬ g x = t by omega)]
      simp only [if_true, List.length_cons, Bool.false_eq_true, if_false]
      omega
    · by_cases h2 : g x = t
      · rw [decide_eq_true (show g x < t + 1 by omega), decide_eq_false h1, decide_eq_true h2]
        simp only [if_true, List.length_cons, Bool.false_eq_true, if_false]
        omega
      · rw [decide_eq_false (show ¬ g x < t + 1 by omega), decide_eq_false h1, decide_eq_false h2]
        simp only [Bool.false_eq_true, if_false]
        omega
theorem cnt_next {ps : List (Str × Str)} {es : List Ent} {zs : List (Ts × V)} {k t : Nat} : cntT ps es zs k (t + 1) = cntT ps es zs k t + (bagW ps es zs k t).length := by
  unfold cntT bagW bagX
  rw [List.length_map]
  exact filt_two
structure TKO (C : Addr) (H H' : Hp) (p : Addr) (A : LA) (ms ns : List Addr) (es : List Ent) (ps : List (Str × Str)) (zs : List (Ts × V)) (Df : Nat → Nat) (k : Nat) (R Hl : Addr) (mm nn : List Addr) (xs : List Ent) (Lf' Df' Nf' : Nat → Nat) (rs : List (Option Nat)) (r : Option Nat) : Prop where
  hR : H R = none
  eR : H' R = some (.tup [.ref Hl, optV r])
  hHl : H Hl = none
  eHl : H' Hl = some (.lst (rs.map optV))
  len : rs.length = zs.length
  keep : Keep A.ls H H'
  led : LedAt C H' p A (ms ++ mm) (ns ++ nn) (es ++ xs)
  new : ∀ b ∈ nn, H b = none
  tree : Tree (es ++ xs) Lf' Df' Nf'
  news : News es xs
  few : xs.length ≤ (lvW es k).length * (Df k + 1)
  hands : ∀ (j : Nat) (f : Option Nat), rs[j]? = some f → HR (Df k) (es ++ xs) ps es zs k j f
  left : HR (Df k) (es ++ xs) ps es zs k zs.length r
theorem DH.hr {C : Addr} {hand : Bool} {H H' : Hp} {p : Addr} {A : LA} {ms ns : List Addr} {es xs0 : List Ent} {Lf Df : Nat → Nat} {k : Nat} {ps : List (Str × Str)} {zs : List (Ts × V)} {j : Nat} {mm nn : List Addr} {xs : List Ent} {Lf' Df' Nf' : Nat → Nat} {r : Option Nat} (B : Back es) (BX : Back (es ++ xs0)) (hk : k < es.length) (hj : j < zs.length → hand = true) (hj2 : hand = true → j < zs.length) {dd : Nat} (hdd : Df k = dd)
    (h : DH C hand H H' p A ms ns (es ++ xs0) Lf Df k (bagW ps es zs k j) mm nn xs Lf' Df' Nf' r) : HR dd (es ++ xs0 ++ xs) ps es zs k j r := by
  subst hdd
  have lv : lvW (es ++ xs0) k = lvW es k := lvW_app B hk
  have old : ∀ {e : Ent}, (es ++ xs0)[k]? = some e → es[k]? = some e := fun {e} q => by rwa [List.getElem?_append_left hk] at q
  refine ⟨fun e => bagW_none.mp (h.non e), fun f hf => ?_, fun hjl => h.sheaf (hj hjl), fun ha hb => h.whole (fun w hw => ?_) fun hd => ?_, fun f hf x hx => ?_, ?_⟩
  · obtain ⟨a, b⟩ := h.got f hf
    refine ⟨a, ?_⟩
    rw [b, lv, bag_nums B]
  · rw [lv] at hw
    obtain ⟨x, hx, rfl⟩ := List.mem_map.mp hw
    exact (bagW_in B hx).mpr (ha x hx)
  · obtain ⟨e, h1, h2⟩ := hb (hj2 hd)
    exact ⟨e, by rw [List.getElem?_append_left hk]; exact h1, h2⟩
  · exact Nat.le_trans (lvW_deep h.tree (f + 1) f (Nat.lt_succ_self _) x hx) (h.deep f hf)
  · rcases h.pr with ⟨a, ⟨e, b1, b2⟩, c, f, d, e2, g⟩ | ⟨a, b⟩
    · exact .inl ⟨hj2 a, ⟨e, old b1, b2⟩, c, f, d, by rw [List.length_append] at e2; omega, g⟩
    · refine .inr ⟨fun q => ?_, (PR.two BX (top := k) (fun i hi => List.getElem?_append_left (by omega)) (Nat.le_refl _) (fun w _ => rfl) b).up (by rw [List.length_append]; omega) fun f e _ q => q⟩
      rcases a (hj q) with z | ⟨e, z1, z2⟩
      · exact .inl z
      · exact .inr ⟨e, old z1, z2⟩
abbrev sTko : Stmt := top 21 --def taken_out
abbrev nTko : List Str := ["ledger", "k", "tests", "leaves", "taken", "rest", "way", "number", "place", "hands", "_", "ways"]
abbrev aTko : List Str := ["ledger", "k", "tests"]
theorem scTko : FnScope nTko aTko (defScope sTko) := ⟨rfl, rfl, rfl, by decide +kernel, rfl, by decide +kernel, by decide +kernel⟩
def spTko (C CK : Addr) : Sp := fun vs H Q _ => ∃ (p L : Addr) (k : Nat) (A : LA) (ms ns : List Addr) (es : List Ent) (ps : List (Str × Str)) (zs : List (Ts × V)) (Lf Df Nf : Nat → Nat), vs = [.ref p, .int (k : Int), .ref L] ∧ LT C CK ps H p A ms ns es ∧ Tree es Lf Df Nf ∧ (∀ e ∈ es, e.mem.length ≤ 101) ∧ (∀ e ∈ es, e.mem ≠ [] → e.kind = sS) ∧ (∀ e ∈ es, e.kind = sS → e.mem ≠ []) ∧ k < es.length ∧ TssAt ps 9 H L zs ∧ zs.length ≤ 100 ∧ es.length ≤ 85000 ∧
  ∀ (H' : Hp) (R Hl : Addr) (mm nn : List Addr) (xs : List Ent) (Lf' Df' Nf' : Nat → Nat) (rs : List (Option Nat)) (r : Option Nat), TKO C H H' p A ms ns es ps zs Df k R Hl mm nn xs Lf' Df' Nf' rs r → Q (.ref R) H'
structure TkTx (K : PySem.W.Frag) (mg : Str → Option Value) (C fLv fCk fFs fHn fPt : Addr) : Prop where
  cl : Cls K C
  mLv : Meth K C "leaves" fLv
  gC : mg "_check_tests" = some (.ref fCk)
  kC : PySem.W.keepIn K (.ref fCk) = true
  gF : mg "_first" = some (.ref fFs)
  kF : PySem.W.keepIn K (.ref fFs) = true
  gH : mg "_hand" = some (.ref fHn)
  kH : PySem.W.keepIn K (.ref fHn) = true
  gP : mg "part_at" = some (.ref fPt)
  kP : PySem.W.keepIn K (.ref fPt) = true
section
variable {P : Program} {w : World} {K : PySem.W.Frag} {mg : Str → Option Value} {base : Heap} {C CK fLv fCk fFs fHn fPt : Addr}
theorem ok_tko {f : Addr} {fd dV dC dF dH dP : FuncData} (F : Fun K "taken_out" "taken_out" sTko f fd) (T : TkTx K mg C fLv fCk fFs fHn fPt) (FV : FnOk P w K mg base CX0 3 fLv dV ["self", "k"] (spLvp C)) (bV : Binds K dV ["self", "k"] [])
    (FC : FnOk P w K mg base CX0 6 fCk dC ["ledger", "tests"] (spCks C CK)) (bC : Binds K dC ["ledger", "tests"] []) (FF : FnOk P w K mg base CX0 15 fFs dF ["ledger", "k", "tests"] (spFst C CK)) (bF : Binds K dF ["ledger", "k", "tests"] [])
    (FH : FnOk P w K mg base CX0 21 fHn dH ["ledger", "k", "ways"] (spHnd C)) (bH : Binds K dH ["ledger", "k", "ways"] []) (FP : FnOk P w K mg base CX0 20 fPt dP aPat (spPat C 16)) (bP : Binds K dP aPat []) : FnOk P w K mg base CX0 22 f fd aTko (spTko C CK) := by
  refine F.ok scTko (fun vs H Q E h => ?_) (fun cdv A0 outer s H vs Q Es hr h => ?_)
  · obtain ⟨p, L, k, A, ms, ns, es, ps, zs, Lf, Df, Nf, rfl, _⟩ := h
    rfl
  · obtain ⟨p, L, k, A, ms, ns, es, ps, zs, Lf, Df, Nf, rfl, LL, T', h101, hsf, hks, hk, tz, hz, hroom, kk⟩ := h
    have hr3 : Room 3 _ := hr.mono (by omega)
    have hr6 : Room 6 _ := hr.mono (by omega)
    have hr15 : Room 15 _ := hr.mono (by omega)
    have hr20 : Room 20 _ := hr.mono (by omega)
    refine ⟨_, pss_cons (ps_set (i := 3) scTko.nd rfl (Or.inl rfl) (pe_meth (pv 0) T.cl T.mLv FV hr3 bV .nil pass0 (pa_cons (pv 1) pa_nil)))
      (pss_cons (ps_expr (pe_call FC hr6 rfl T.gC T.kC bC .nil pass0 (pa_cons (pv 0) (pa_cons (pv 2) pa_nil))))
      (pss_cons (ps_setLc (i := 4) (own := [("_", 10)]) (g := gName 10) (tt := tYes) (te := tLst tNil) rfl scTko.nd rfl rfl (sw_true rfl rfl rfl (by decide +kernel)) (pi_list (pv 2))
          (blkOk_by (N := nTko) (sc := defScope sTko) (by decide +kernel)) (fun _ _ _ _ _ => pg_name (i := 10) scTko.nd rfl (Or.inl rfl)) (fun _ _ _ _ _ => pts_nil) (fun _ _ _ _ _ => by exact (pe_lst pa_nil)))
      (pss_cons (ps_set (i := 5) scTko.nd rfl (Or.inl rfl) (pe_lst pa_nil))
      (pss_cons (ps_for PassesOwn.never rfl (pi_list (pv 3)) (by exact (pg_tup rfl (pgs_cons (pg_name (i := 6) scTko.nd rfl (Or.inl rfl)) (pgs_cons (pg_name (i := 7) scTko.nd rfl (Or.inl rfl)) pgs_nil))))
        (pss_cons (ps_set (i := 8) scTko.nd rfl (Or.inl rfl) (pe_call FF hr15 rfl T.gF T.kF bF .nil pass0 (pa_cons (pv 0) (pa_cons (pv 7) (pa_cons (pv 2) pa_nil)))))
        (pss_one (ps_if (pt_cmpR op_isN (pv 8) pe_non (nomark _)) (pss_one (ps_expr (pe_bm PySem.F.plainAttrs_list PySem.F.slot_list_append PySem.F.type_list_append mt_append (pv 5) (pa_cons (pv 6) pa_nil))))
          (pss_one (ps_expr (pe_bm PySem.F.plainAttrs_list PySem.F.slot_list_append PySem.F.type_list_append mt_append (pe_ix ix_list (pv 4) (pv 8) (fun _ _ => rfl)) (pa_cons (pv 6) pa_nil))))))))
      (pss_cons (ps_setLc (i := 9) (own := [("ways", 11)]) (g := gName 11) (tt := tYes) (te := tCall (spHnd C) [] E0 (tCons (tVar 0) (tCons (tVar 1) (tCons (tVar 11) tNil)))) rfl scTko.nd rfl rfl (sw_true rfl rfl rfl (by decide +kernel)) (pi_list (pv 4))
          (blkOk_by (N := nTko) (sc := defScope sTko) (by decide +kernel)) (fun _ _ _ _ _ => pg_name (i := 11) scTko.nd rfl (Or.inl rfl)) (fun _ _ _ _ _ => pts_nil) (fun _ _ _ _ _ => by exact (pe_call FH hr rfl T.gH T.kH bH .nil pass0 (pa_cons (pv 0) (pa_cons (pv 1) (pa_cons (pv 11) pa_nil))))))
      (pss_one (ps_ret (pe_tup (pa_cons (pv 9) (pa_cons (pe_call FP hr20 rfl T.gP T.kP bP .nil pass0 (pa_cons (pv 0) (pa_cons (pv 1) (pa_cons (pv 5) pa_nil)))) pa_nil)))))))))), ?_⟩
    obtain ⟨f1, f2⟩ := T'.few k _ (List.getElem?_eq_getElem hk)
    have B0 := T'.back'
    have lvl : (lvW es k).length = Lf k := lvW_len T' (k + 1) k (Nat.lt_succ_self _) hk
    have hL := LL.led
    refine ⟨_, rfl, p, A.dx, _, rfl, hL.ins, flno A, _, rfl, p, A, ms, ns, es, k, Lf, Df, Nf, rfl, hL, T', hk, h101, fun H1 Fl ts1 fs k1 hF eF wF lv => ?_⟩
    have efs := lv.ways T'
    subst efs
    refine ⟨_, rfl, _, rfl, p, L, A, ms, ns, es, ps, zs, rfl, LL.keep0 k1, tz.keep0 k1, fun H2 k2 => ?_⟩
    have k12 := k1.trans k2
    have eL2 := k12.at tz.1 nin0
    refine ⟨_, rfl, L, rfl, ⟨_, SqL.of eL2⟩, fun Tk hTk => ?_⟩
    refine lc_list (K := K) (a := L) (xs := zs.map Prod.snd) (fun i G => Keep [] H2 G ∧ ∃ as : List Addr, G Tk = some (.lst (as.map V.ref)) ∧ as.length = i ∧ as.Nodup ∧ ∀ a ∈ as, H2 a = none ∧ a ≠ Tk ∧ G a = some (.lst [])) ⟨Keep.new hTk, [], upd_same, rfl, List.nodup_nil, fun a h => absurd h List.not_mem_nil⟩ (fun i G _ hI => SqL.of (hI.1.at eL2 nin0)) (fun i x G hx hI => ?_) (fun G3 hI => ?_)
    · obtain ⟨kG, as, eT, al, nd, ha⟩ := hI
      have hil : i < zs.length := by have := (List.getElem?_eq_some_iff.mp hx).1; rwa [List.length_map] at this
      refine ⟨rfl, tyes ?_⟩
      refine ⟨Nat.zero_le _, fun y hy => ?_⟩
      have nyT : y ≠ Tk := fun z => by rw [z, eT] at hy; cases hy
      have ky : Keep [] G (upd G y (.lst [])) := Keep.new hy
      have ey : (upd G y (.lst [])) y = some (.lst []) := upd_same
      generalize (upd G y (.lst [])) = G2 at ky ey ⊢
      have eT2 := ky.at eT nin0
      refine ⟨_, eT2, Nat.lt_of_le_of_lt (by rw [List.length_map]; omega : (as.map V.ref).length ≤ 1000) (by decide), (kG.trans ky).freshTo hTk, as ++ [y], by rw [upd_same, List.map_append]; rfl, by rw [List.length_append, al]; rfl, nodup_more nd fun z => ?_, fun a hm => ?_⟩
      · have := (ha y z).2.2
        rw [hy] at this; cases this
      · rcases List.mem_append.mp hm with z | z
        · obtain ⟨q1, q2, q3⟩ := ha a z
          exact ⟨q1, q2, by rw [upd_ne q2]; exact ky.at q3 nin0⟩
        · rw [List.mem_singleton.mp z]
          exact ⟨Keep.free kG hy nin0, nyT, by rw [upd_ne nyT]; exact ey⟩
    obtain ⟨kG3, as, eT, al, nd, ha⟩ := hI
    rw [List.length_map] at al
    refine ⟨Nat.zero_le _, fun Rr hRr => ?_⟩
    have kR : Keep [] G3 (upd G3 Rr (.lst [])) := Keep.new hRr
    have eR : (upd G3 Rr (.lst [])) Rr = some (.lst []) := upd_same
    have nRT : Rr ≠ Tk := fun z => by rw [z, eT] at hRr; cases hRr
    generalize (upd G3 Rr (.lst [])) = G4 at kR eR ⊢
    have k24 : Keep [] H2 G4 := kG3.trans kR
    have k14 := k12.trans k24
    have eT4 := kR.at eT nin0
    -- all the lists
    have hRas : Rr ∉ as := fun z => by
      have := (ha Rr z).2.2
      rw [hRr] at this; cases this
    have ndB := nodup_more nd hRas
    have hB : ∀ b ∈ as ++ [Rr], H2 b = none ∧ b ≠ Tk ∧ G4 b = some (.lst []) := fun b hb => by
      rcases List.mem_append.mp hb with z | z
      · obtain ⟨q1, q2, q3⟩ := ha b z
        exact ⟨q1, q2, kR.at q3 nin0⟩
      · rw [List.mem_singleton.mp z]
        exact ⟨Keep.free kG3 hRr nin0, nRT, eR⟩
    have lB : (as ++ [Rr]).length = zs.length + 1 := by rw [List.length_append, al]; rfl
    have gR : (as ++ [Rr])[zs.length]? = some Rr := by rw [List.getElem?_append_right (by omega), al, Nat.sub_self]; rfl
    have gA : ∀ {j : Nat}, j < zs.length → (as ++ [Rr])[j]? = as[j]? := fun {j} h => List.getElem?_append_left (by omega)
    generalize hbs : as ++ [Rr] = bs at ndB hB lB gR gA
    have eF2 := k2.at eF nin0
    have hF2 : ∀ b ∈ bs, b ≠ Fl := fun b hb z => by
      have := (hB b hb).1
      rw [z, eF2] at this; cases this
    have hTk0 : H2 Tk = none := hTk
    have eF4 := k24.at eF2 nin0
    have wF4 := wF.map fun a xs q => (k2.trans k24).at q nin0
    refine ⟨_, rfl, Fl, rfl, ⟨_, SqL.of eF4⟩, ?_⟩
    let fB : Nat → Nat → List (List Nat) := fun i j => (((lvW es k).take i).filter fun x => decide (plN ps es zs x.2 = j)).map Prod.fst
    refine for_list (xs := ts1.map V.ref) (fun i σ G => ∃ v6 v7 v8 : Option V, σ = [some (.ref p), some (.int (k : Int)), some (.ref L), some (.ref Fl), some (.ref Tk), some (.ref Rr), v6, v7, v8, none, none, none] ∧ Keep [] H2 G ∧ G Fl = some (.lst (ts1.map V.ref)) ∧ G Tk = some (.lst (as.map V.ref)) ∧ WaysAt G ts1 (lvW es k) ∧ BagsAt G bs (fB i)) ⟨none, none, none, rfl, k24, eF4, eT4, wF4, fun j b hb => ⟨[], (hB b (List.mem_of_getElem? hb)).2.2, True.intro⟩⟩ ?_ ?_ ?_
    · rintro i σ G hi ⟨v6, v7, v8, rfl, kG, eFG, eTG, wG, bg⟩
      exact SqL.of eFG
    · rintro i x σ G hx ⟨v6, v7, v8, rfl, kG, eFG, eTG, wG, bg⟩
      rw [List.getElem?_map] at hx
      obtain ⟨tj, htj, rfl⟩ := Option.map_eq_some_iff.mp hx
      have hil : i < (lvW es k).length := by rw [← wG.len]; exact (List.getElem?_eq_some_iff.mp htj).1
      have hfi := List.getElem?_eq_getElem hil
      generalize (lvW es k)[i] = y at hfi
      obtain ⟨t', ht', a, e1, e2⟩ := wG.at hfi
      rw [htj] at ht'
      cases ht'
      have hym := List.mem_of_getElem? hfi
      have hyl := lvW_num B0 (k + 1) k (Nat.lt_succ_self _) hk y hym
      have hye := List.getElem?_eq_getElem hyl
      have hpl : plN ps es zs y.2 = (firstT ps es[y.2] zs).getD zs.length := by unfold plN; rw [hye]
      generalize es[y.2] = e at hye hpl
      have tk : ∀ j, fB (i + 1) j = if j = plN ps es zs y.2 then fB i j ++ [y.1] else fB i j := fun j => by
        show (((lvW es k).take (i + 1)).filter _).map _ = _
        rw [List.take_add_one, hfi, List.filter_append, List.map_append]
        show _ ++ (([y].filter _).map _) = _
        rw [List.filter_cons]
        by_cases q : plN ps es zs y.2 = j
        · rw [decide_eq_true q, if_pos q.symm]; rfl
        · rw [decide_eq_false q, if_neg (show ¬ j = plN ps es zs y.2 from fun z => q z.symm)]
          show fB i j ++ [] = _
          rw [List.append_nil]
      refine ⟨tj, _, rfl, SqT.of e1, rfl, _, _, rfl, _, _, rfl, rfl, ?_⟩
      refine ⟨_, rfl, _, rfl, _, rfl, p, y.2, L, A, ms, ns, es, ps, zs, e, rfl, LL.keep0 (k12.trans kG), hye, tz.keep0 (k12.trans kG), fun G5 k5 => ?_⟩
      have kG5 := kG.trans k5
      have eF5 := k5.at eFG nin0
      have eT5 := k5.at eTG nin0
      have wG5 := wG.map fun a xs q => k5.at q nin0
      have bg5 := bg.keep0 k5
      have e25 := k5.at e2 nin0
      -- a way is put
      have put : ∀ (b : Addr), bs[plN ps es zs y.2]? = some b → ∃ ts : List Addr, G5 b = some (.lst (ts.map V.ref)) ∧ (ts.map V.ref).length < sizeLine ∧ Keep [] H2 (upd G5 b (.lst (ts.map V.ref ++ [.ref a]))) ∧ (upd G5 b (.lst (ts.map V.ref ++ [.ref a]))) Fl = some (.lst (ts1.map V.ref)) ∧ (upd G5 b (.lst (ts.map V.ref ++ [.ref a]))) Tk = some (.lst (as.map V.ref)) ∧ WaysAt (upd G5 b (.lst (ts.map V.ref ++ [.ref a]))) ts1 (lvW es k) ∧ BagsAt (upd G5 b (.lst (ts.map V.ref ++ [.ref a]))) bs (fB (i + 1)) := fun b hb => by
        obtain ⟨ts, eb, tb⟩ := bg5 _ b hb
        have hbm := List.mem_of_getElem? hb
        obtain ⟨q1, q2, _⟩ := hB b hbm
        have lts : ts.length ≤ 101 := by
          have h1 := tb.len
          have h2 : (fB i (plN ps es zs y.2)).length ≤ ((lvW es k).take i).length := by
            show ((List.filter _ _).map _).length ≤ _
            rw [List.length_map]; exact List.length_filter_le _ _
          rw [List.length_take] at h2
          omega
        refine ⟨ts, eb, Nat.lt_of_le_of_lt (by rw [List.length_map]; omega : _ ≤ 1000) (by decide), kG5.freshTo q1, by rw [upd_ne (fun z => hF2 b hbm z.symm)]; exact eF5, by rw [upd_ne q2.symm]; exact eT5, wG5.map fun c xs q => by rw [upd_ne (ne_of q eb (fun z => by cases z))]; exact q, bg5.more ndB hb e25 eb tb tk⟩
      refine ⟨_, rfl, rfl, ?_⟩
      cases hfT : firstT ps e zs with
      | none =>
        rw [hfT] at hpl
        have hpl : plN ps es zs y.2 = zs.length := hpl
        obtain ⟨ts, eb, hl, q1, q2, q3, q4, q5⟩ := put Rr (by rw [hpl]; exact gR)
        refine ⟨_, rfl, iteT ?_⟩
        refine ⟨_, rfl, .inl ⟨rfl, _, SqL.of eb⟩, _, rfl, Rr, _, _, rfl, rfl, eb, hl, ?_⟩
        exact ⟨_, _, _, rfl, q1, q2, q3, q4, q5⟩
      | some j =>
        rw [hfT] at hpl
        have hpl : plN ps es zs y.2 = j := hpl
        have hjl := firstT_lt hfT
        have hjB := List.getElem?_eq_getElem (show j < bs.length by omega)
        generalize bs[j] = b at hjB
        obtain ⟨ts, eb, hl, q1, q2, q3, q4, q5⟩ := put b (by rw [hpl]; exact hjB)
        have hjA : as[j]? = some b := by rw [← gA hjl]; exact hjB
        refine ⟨_, rfl, iteF ?_⟩
        refine ⟨_, rfl, _, rfl, Tk, _, _, .ref b, rfl, rfl, SqL.of eT5, atI_nat (by rw [List.getElem?_map, hjA]; rfl), .inl ⟨rfl, _, SqL.of eb⟩, _, rfl, b, _, _, rfl, rfl, eb, hl, ?_⟩
        exact ⟨_, _, _, rfl, q1, q2, q3, q4, q5⟩
    · rintro σ Gw ⟨v6, v7, v8, rfl, kG, eFG, eTG, wG, bg⟩
      rw [List.length_map, wG.len] at bg
      have hfB : ∀ j, fB (lvW es k).length j = bagW ps es zs k j := fun j => by
        show (((lvW es k).take _).filter _).map _ = _
        rw [List.take_length]; rfl
      have bag : BagsAt Gw bs (bagW ps es zs k) := fun j b hb => by rw [← hfB]; exact bg j b hb
      have kHw := k12.trans kG
      have hLw := hL.keep kHw (fun b z => absurd z nin0) (fun b z => absurd z nin0)
      have hB0 : ∀ b ∈ bs, H b = none := fun b hb => Keep.free k12 (hB b hb).1 nin0
      have hTk1 : H Tk = none := Keep.free k12 hTk nin0
      have nA : ∀ {b : Addr}, H b = none → b ∉ A.ls := fun {b} hb z => by
        obtain ⟨ys, q⟩ := hL.isl b z
        rw [hb] at q; cases q
      have nAw : ∀ {b : Addr}, Gw b = none → b ∉ A.ls := fun {b} hb => nA (Keep.free kHw hb nin0)
      refine ⟨_, rfl, Tk, rfl, ⟨_, SqL.of eTG⟩, fun D hD => ?_⟩
      have hD0 : H D = none := Keep.free kHw hD nin0
      have nDA : D ∉ A.ls := nA hD0
      have few : ∀ t, cntT ps es zs k t ≤ 101 := fun t => by
        have : cntT ps es zs k t ≤ (lvW es k).length := List.length_filter_le _ _
        omega
      have mul : ∀ t, cntT ps es zs k t * (Df k + 1) ≤ 1616 := fun t => Nat.mul_le_mul (few t) (show Df k + 1 ≤ 16 by omega)
      refine lc_list (K := K) (a := Tk) (xs := as.map V.ref) (fun t G => ∃ (mm nn : List Addr) (xs : List Ent) (Lf' Df' Nf' : Nat → Nat) (acc : List (Option Nat)), G D = some (.lst (acc.map optV)) ∧ Keep A.ls Gw G ∧ LedAt C G p A (ms ++ mm) (ns ++ nn) (es ++ xs) ∧ (∀ b ∈ nn, H b = none ∧ b ≠ D) ∧ Tree (es ++ xs) Lf' Df' Nf' ∧ (∀ i, i < es.length → Lf' i = Lf i ∧ Df' i = Df i) ∧ News es xs ∧
          xs.length ≤ cntT ps es zs k t * (Df k + 1) ∧ acc.length = t ∧ ∀ (j : Nat) (f : Option Nat), acc[j]? = some f → HR (Df k) (es ++ xs) ps es zs k j f)
        ⟨[], [], [], Lf, Df, Nf, [], upd_same, Keep.new hD, by rw [List.append_nil, List.append_nil, List.append_nil]; exact hLw.keep (Keep.new hD) (fun b z => absurd z nin0) (fun b z => absurd z nin0), fun b h => absurd h List.not_mem_nil, by rw [List.append_nil]; exact T', fun i _ => ⟨rfl, rfl⟩, News.nil es, Nat.zero_le _, rfl, fun j f h => by simp at h⟩ (fun t G _ hI => ?_) (fun t x G hx hI => ?_) (fun G hI => ?_)
      · obtain ⟨mm, nn, xs, Lf', Df', Nf', acc, _, kG', _⟩ := hI
        exact SqL.of (kG'.at eTG (nA hTk1))
      · obtain ⟨mm, nn, xs, Lf', Df', Nf', acc, eD, kG', led, fr, Tr, sm, nw, xl, acl, res⟩ := hI
        rw [List.getElem?_map] at hx
        obtain ⟨b, hb, rfl⟩ := Option.map_eq_some_iff.mp hx
        have htl : t < zs.length := by rw [← al]; exact (List.getElem?_eq_some_iff.mp hb).1
        have hbB : bs[t]? = some b := by rw [gA htl]; exact hb
        have hbm := List.mem_of_getElem? hbB
        obtain ⟨tb, eb, wb⟩ := bag t b hbB
        have tupG : ∀ (b : Addr) (ys : List V), Gw b = some (.tup ys) → G b = some (.tup ys) := fun b ys q => kG'.at q fun z => by
          obtain ⟨zs, q2⟩ := hLw.isl b z
          rw [q] at q2; cases q2
        have lvk : lvW (es ++ xs) k = lvW es k := lvW_app B0 hk
        obtain ⟨s1, s2⟩ := sm k hk
        have ksX := nw.all (p := fun e => e.kind = sS → e.mem ≠ []) hks (fun e _ h _ _ => h)
        have cn := cnt_next (ps := ps) (es := es) (zs := zs) (k := k) (t := t)
        have m1 := mul (t + 1)
        rw [cn, Nat.add_mul] at m1
        refine ⟨rfl, tyes ?_⟩
        refine ⟨_, rfl, _, rfl, _, rfl, p, b, k, A, ms ++ mm, ns ++ nn, es ++ xs, tb, bagW ps es zs k t, Lf', Df', Nf', rfl, led, Tr, nw.all (p := fun e => e.mem.length ≤ 101) h101 (fun e _ _ h => h), nw.all (p := fun e => e.mem ≠ [] → e.kind = sS) hsf (fun e h _ _ _ => h), ksX, by rw [List.length_append]; omega, kG'.at eb (nA (hB0 b hbm)), wb.map tupG, bagW_nd B0, fun w hw => by rw [lvk]; exact bagW_sub w hw, by rw [s2, List.length_append]; omega, fun H' mm' nn' xs' Lf2 Df2 Nf2 r dn => ?_⟩
        have eD' := dn.keep.at eD nDA
        have kD : Keep [D] H' (upd H' D (.lst (acc.map optV ++ [optV r]))) := Keep.own in1
        have nDn : D ∉ A.ls ++ (ns ++ nn ++ nn') := fun z => by
          rcases List.mem_append.mp z with z | z
          · exact nDA z
          · rcases List.mem_append.mp z with z | z
            · rcases List.mem_append.mp z with z | z
              · obtain ⟨ys, q⟩ := hL.notes.is D z
                rw [hD0] at q; cases q
              · exact (fr D z).2 rfl
            · have := dn.new D z
              rw [eD] at this; cases this
        have led2 := dn.led.keep kD (fun b hb => by rw [List.mem_singleton.mp hb]; exact nDn) (fun b hb => by rw [List.mem_singleton.mp hb]; exact ⟨_, eD'⟩)
        have GA : ∀ {b : Addr}, G b = none → b ∉ A.ls := fun {b} hb z => by
          obtain ⟨ys, q⟩ := led.isl b z
          rw [hb] at q; cases q
        have kHG : Keep A.ls H G := (kHw.more fun b z => absurd z nin0).trans kG'
        refine ⟨_, eD', Nat.lt_of_le_of_lt (by rw [List.length_map]; omega : (acc.map optV).length ≤ 1000) (by decide), mm ++ mm', nn ++ nn', xs ++ xs', Lf2, Df2, Nf2, acc ++ [r], ?_, (kG'.trans dn.keep).freshTo hD, ?_, fun b hb => ?_, ?_, fun i hi => ?_, nw.app dn.news, ?_, by rw [List.length_append, acl]; rfl, fun j f hj => ?_⟩
        · rw [upd_same, List.map_append]; rfl
        · rw [← List.append_assoc, ← List.append_assoc, ← List.append_assoc]; exact led2
        · rcases List.mem_append.mp hb with z | z
          · exact fr b z
          · have hbG := dn.new b z
            exact ⟨Keep.free kHG hbG (GA hbG), fun q => by rw [q, eD] at hbG; cases hbG⟩
        · rw [← List.append_assoc]; exact dn.tree
        · obtain ⟨g1, g2⟩ := sm i hi
          obtain ⟨g3, g4⟩ := dn.same i (by rw [List.length_append]; omega)
          exact ⟨g3.trans g1, g4.trans g2⟩
        · rw [cn, List.length_append, Nat.add_mul]
          have := dn.few
          rw [s2] at this
          omega
        · rw [← List.append_assoc]
          by_cases hjt : j < acc.length
          · rw [List.getElem?_append_left hjt] at hj
            exact (res j f hj).app Tr.back'
          · rw [List.getElem?_append_right (by omega)] at hj
            have hj0 : j = t := by
              have := (List.getElem?_eq_some_iff.mp hj).1
              simp at this
              omega
            subst hj0
            have em : r = f := by rw [acl, Nat.sub_self] at hj; simpa using hj
            subst em
            exact dn.hr B0 Tr.back' hk (fun _ => rfl) (fun _ => htl) s2
      · obtain ⟨mm, nn, xs, Lf', Df', Nf', acc, eD, kG', led, fr, Tr, sm, nw, xl, acl, res⟩ := hI
        rw [List.length_map, al] at acl xl
        obtain ⟨tb, eb, wb⟩ := bag zs.length Rr gR
        have hRm := List.mem_of_getElem? gR
        have tupG : ∀ (b : Addr) (ys : List V), Gw b = some (.tup ys) → G b = some (.tup ys) := fun b ys q => kG'.at q fun z => by
          obtain ⟨zs, q2⟩ := hLw.isl b z
          rw [q] at q2; cases q2
        have lvk : lvW (es ++ xs) k = lvW es k := lvW_app B0 hk
        obtain ⟨s1, s2⟩ := sm k hk
        have ksX := nw.all (p := fun e => e.kind = sS → e.mem ≠ []) hks (fun e _ h _ _ => h)
        have cn := cnt_next (ps := ps) (es := es) (zs := zs) (k := k) (t := zs.length)
        have m1 := mul (zs.length + 1)
        rw [cn, Nat.add_mul] at m1
        have kHG : Keep A.ls H G := (kHw.more fun b z => absurd z nin0).trans kG'
        have GA : ∀ {b : Addr}, G b = none → b ∉ A.ls := fun {b} hb z => by
          obtain ⟨ys, q⟩ := led.isl b z
          rw [hb] at q; cases q
        refine ⟨_, rfl, _, rfl, _, rfl, _, rfl, p, Rr, k, A, ms ++ mm, ns ++ nn, es ++ xs, tb, bagW ps es zs k zs.length, Lf', Df', Nf', rfl, by omega, led, Tr, nw.all (p := fun e => e.mem.length ≤ 101) h101 (fun e _ _ h => h), nw.all (p := fun e => e.mem ≠ [] → e.kind = sS) hsf (fun e h _ _ _ => h), by rw [List.length_append]; omega, kG'.at eb (nA (hB0 Rr hRm)), wb.map tupG, bagW_nd B0, fun w hw => by rw [lvk]; exact bagW_sub w hw, by rw [s2, List.length_append]; omega, fun G6 mm2 nn2 xs2 Lf2 Df2 Nf2 r dn0 => ?_⟩
        have dn := dn0.toH (hand := false) Tr.back' (by rw [List.length_append]; omega) (fun w hw => by rw [lvk]; exact bagW_sub w hw) ksX (fun h => by cases h)
        refine ⟨(by show 2 ≤ sizeLine; decide), fun R hR => ?_⟩
        have kR2 : Keep [] G6 (upd G6 R (.tup [.ref D, optV r])) := Keep.new hR
        have hRA : R ∉ A.ls := fun z => by
          obtain ⟨ys, q⟩ := dn.led.isl R z
          rw [hR] at q; cases q
        have kA : Keep A.ls H G6 := kHG.trans dn.keep
        refine kk _ R D (mm ++ mm2) (nn ++ nn2) (xs ++ xs2) Lf2 Df2 Nf2 acc r ⟨Keep.free kA hR hRA, upd_same, hD0, kR2.at (dn.keep.at eD nDA) nin0, acl, kA.trans (kR2.more fun b z => absurd z nin0), ?_, fun b hb => ?_, ?_, nw.app dn.news, ?_, fun j f hj => ?_, ?_⟩
        · rw [← List.append_assoc, ← List.append_assoc, ← List.append_assoc]
          exact dn.led.keep kR2 (fun b z => absurd z nin0) (fun b z => absurd z nin0)
        · rcases List.mem_append.mp hb with z | z
          · exact (fr b z).1
          · have hbG := dn.new b z
            exact Keep.free kHG hbG (GA hbG)
        · rw [← List.append_assoc]; exact dn.tree
        · rw [List.length_append]
          have := dn.few
          rw [s2] at this
          have all : cntT ps es zs k (zs.length + 1) ≤ (lvW es k).length := List.length_filter_le _ _
          have := Nat.mul_le_mul_right (Df k + 1) all
          rw [cn, Nat.add_mul] at this
          omega
        · rw [← List.append_assoc]
          exact (res j f hj).app Tr.back'
        · rw [← List.append_assoc]
          exact dn.hr B0 Tr.back' hk (fun h => absurd h (Nat.lt_irrefl _)) (fun h => by cases h) s2
end
end Fs
/-! What the ledger tells, in lists of its own. -/
namespace Fs
open PySem L2 TL
def spToF (C : Addr) : Sp := fun vs H Q _ => ∃ (p : Addr) (A : LA) (ms ns : List Addr) (es : List Ent) (mo : Nat) (bad : List Addr), vs = [.ref p, .int (mo : Int)] ∧ LedAt C H p A ms ns es ∧ mo ≤ 10000 ∧ mo ≤ es.length ∧ (∀ b ∈ bad, ∃ o, H b = some o) ∧
  ∀ (H' : Hp) (F : Addr) (rs : List Addr), Keep [] H H' → H F = none → H' F = some (.lst (rs.map V.ref)) → RowsAt (F :: bad) H' rs (es.take mo) → rs.Nodup → (∀ r ∈ rs, H r = none) → Q (.ref F) H'
section
variable {P : Program} {w : World} {K : PySem.W.Frag} {mg : Str → Option Value} {base : Heap} {C f1 f2 f3 f4 f5 f6 f7 : Addr}
theorem ok_toF {f : Addr} {fd d2 d3 d4 d5 d6 d7 : FuncData} (F : Fun K "_law_told" "_law_told" sToA f fd) (cl : Cls K C) (T : GTxt K C f1 f2 f3 f4 f5 f6 f7) (mR : mg "range" = none)
    (F2 : FnOk P w K mg base CX0 3 f2 d2 ["self", "k"] (spGet C fun e => .str e.kind)) (b2 : Binds K d2 ["self", "k"] []) (F3 : FnOk P w K mg base CX0 3 f3 d3 ["self", "k"] (spGet C fun e => .str e.text)) (b3 : Binds K d3 ["self", "k"] [])
    (F4 : FnOk P w K mg base CX0 3 f4 d4 ["self", "k"] (spGetL C fun e => memV e.mem)) (b4 : Binds K d4 ["self", "k"] []) (F5 : FnOk P w K mg base CX0 3 f5 d5 ["self", "k"] (spGetL C fun e => e.notes.map V.str)) (b5 : Binds K d5 ["self", "k"] [])
    (F6 : FnOk P w K mg base CX0 3 f6 d6 ["self", "k"] (spGet C fun e => optV e.cause)) (b6 : Binds K d6 ["self", "k"] []) (F7 : FnOk P w K mg base CX0 3 f7 d7 ["self", "k"] (spGet C fun e => optV e.atw)) (b7 : Binds K d7 ["self", "k"] []) :
    FnOk P w K mg base CX0 4 f fd ["_law_ledger_here", "_law_many"] (spToF C) := by
  refine F.ok scToA (fun vs H Q E h => ?_) (fun cdv A outer s H vs Q E hr h => ?_)
  · obtain ⟨p, L, ms, ns, es, mo, bad, rfl, _⟩ := h
    rfl
  · obtain ⟨p, L, ms, ns, es, mo, bad, rfl, hL, hlen, hmo, hbad, kk⟩ := h
    refine ⟨_, pss_cons (ps_set (i := 2) scToA.nd rfl (Or.inl rfl) (pe_lst pa_nil))
      (pss_cons (ps_for PassesOwn.never rfl (pi_range1 rfl mR (pa_cons (pv 1) pa_nil)) (pg_name (i := 3) scToA.nd rfl (Or.inl rfl))
        (pss_cons (ps_set (i := 4) scToA.nd rfl (Or.inl rfl) (pe_lst (pa_cons (pe_meth (pv 0) cl T.kind F2 hr b2 .nil pass0 (pa_cons (pv 3) pa_nil)) (pa_cons (pe_meth (pv 0) cl T.text F3 hr b3 .nil pass0 (pa_cons (pv 3) pa_nil)) (pa_cons (pe_meth (pv 0) cl T.members F4 hr b4 .nil pass0 (pa_cons (pv 3) pa_nil)) (pa_cons (pe_meth (pv 0) cl T.notes F5 hr b5 .nil pass0 (pa_cons (pv 3) pa_nil)) pa_nil))))))
        (pss_one (ps_expr (pe_bm PySem.F.plainAttrs_list PySem.F.slot_list_append PySem.F.type_list_append mt_append (pv 2) (pa_cons (pe_op op_cat (pv 4) (pe_lst (pa_cons (pe_meth (pv 0) cl T.cause F6 hr b6 .nil pass0 (pa_cons (pv 3) pa_nil)) (pa_cons (pe_meth (pv 0) cl T.atw F7 hr b7 .nil pass0 (pa_cons (pv 3) pa_nil)) pa_nil)))) pa_nil))))))
      (pss_one (ps_ret (pv 2)))), ?_⟩
    refine ⟨Nat.zero_le _, fun l hl => ?_⟩
    have k0 : Keep [] H (upd H l (.lst [])) := Keep.new hl
    have hL0 := hL.keep k0 (fun b q => absurd q nin0) (fun b q => absurd q nin0)
    refine ⟨_, rfl, _, rfl, by omega, by omega, ?_⟩
    rw [Int.toNat_natCast]
    refine for_range (lo := 0) (n := mo) (fun i σ H' => ∃ (v2 v3 : Option V) (rs : List Addr), σ = [some (.ref p), some (.int (mo : Int)), some (.ref l), v2, v3] ∧ Keep [] H H' ∧ H' l = some (.lst (rs.map V.ref)) ∧ RowsAt (l :: bad) H' rs (es.take i) ∧ rs.Nodup ∧ ∀ r ∈ rs, H r = none)
      ⟨none, none, [], rfl, k0, upd_same, True.intro, List.nodup_nil, fun r h => absurd h List.not_mem_nil⟩ ?_ ?_
    · rintro i σ H1 hi ⟨v2, v3, rs, rfl, k1, e1, r1, nd, fr⟩
      have hil : i < es.length := by omega
      have he : es[i]? = some es[i] := List.getElem?_eq_getElem hil
      generalize es[i] = e at he
      have z0 : (0 : Int) + (i : Int) = (i : Int) := Int.zero_add _
      have hL1 := hL.keep k1 (fun b q => absurd q nin0) (fun b q => absurd q nin0)
      refine ⟨_, rfl, p, L.dx, _, rfl, hL1.ins, flg2 L, _, rfl, p, L, ms, ns, es, i, e, by rw [z0]; rfl, hL1, he, ?_⟩
      refine ⟨_, rfl, p, L.dx, _, rfl, hL1.ins, flg3 L, _, rfl, p, L, ms, ns, es, i, e, by rw [z0]; rfl, hL1, he, ?_⟩
      refine ⟨_, rfl, p, L.dx, _, rfl, hL1.ins, flg4 L, _, rfl, p, L, ms, ns, es, i, e, by rw [z0]; rfl, hL1, he, fun m hm => ?_⟩
      have k2 : Keep [] H (upd H1 m (.lst (memV e.mem))) := k1.newTo hm
      have hL2 := hL.keep k2 (fun b q => absurd q nin0) (fun b q => absurd q nin0)
      refine ⟨_, rfl, p, L.dx, _, rfl, hL2.ins, flg5 L, _, rfl, p, L, ms, ns, es, i, e, by rw [z0]; rfl, hL2, he, fun n hn => ?_⟩
      refine ⟨(by show 4 ≤ sizeLine; decide), fun a ha => ?_⟩
      -- one + [..]
      have k3 : Keep [] H1 (upd (upd (upd H1 m (.lst (memV e.mem))) n (.lst (e.notes.map V.str))) a (.lst [.str e.kind, .str e.text, .ref m, .ref n])) := ((Keep.new hm).newTo hn).newTo ha
      have em : (upd (upd (upd H1 m (.lst (memV e.mem))) n (.lst (e.notes.map V.str))) a (.lst [.str e.kind, .str e.text, .ref m, .ref n])) m = some (.lst (memV e.mem)) := ((Keep.new hn).newTo ha (ex := [])).at upd_same nin0
      have en : (upd (upd (upd H1 m (.lst (memV e.mem))) n (.lst (e.notes.map V.str))) a (.lst [.str e.kind, .str e.text, .ref m, .ref n])) n = some (.lst (e.notes.map V.str)) := (Keep.new ha (ex := [])).at upd_same nin0
      have ea : (upd (upd (upd H1 m (.lst (memV e.mem))) n (.lst (e.notes.map V.str))) a (.lst [.str e.kind, .str e.text, .ref m, .ref n])) a = some (.lst [.str e.kind, .str e.text, .ref m, .ref n]) := upd_same
      have nb : ∀ {G : Hp} {x : Addr}, Keep [] H G → G x = none → x ∉ bad := fun k h z => by
        obtain ⟨o, q⟩ := hbad _ z
        rw [k.at q nin0] at h; cases h
      have nmb : m ∉ bad := nb k1 hm
      have nnb : n ∉ bad := nb k2 hn
      have nml : m ≠ l := Ne.symm (ne_of_none e1 hm)
      have nnl : n ≠ l := Ne.symm (ne_of_none ((Keep.new hm (ex := [])).at e1 nin0) hn)
      generalize (upd (upd (upd H1 m (.lst (memV e.mem))) n (.lst (e.notes.map V.str))) a (.lst [.str e.kind, .str e.text, .ref m, .ref n])) = H2 at k3 em en ea ⊢
      have e2 := k3.at e1 nin0
      have hL3 := hL1.keep k3 (fun b q => absurd q nin0) (fun b q => absurd q nin0)
      refine ⟨_, rfl, .inl ⟨rfl, _, SqL.of e2⟩, _, rfl, ?_⟩
      refine ⟨_, rfl, p, L.dx, _, rfl, hL3.ins, flg6 L, _, rfl, p, L, ms, ns, es, i, e, by rw [z0]; rfl, hL3, he, ?_⟩
      refine ⟨_, rfl, p, L.dx, _, rfl, hL3.ins, flg7 L, _, rfl, p, L, ms, ns, es, i, e, by rw [z0]; rfl, hL3, he, ?_⟩
      refine ⟨(by show 2 ≤ sizeLine; decide), fun b hb => ?_⟩
      have nab : a ≠ b := ne_of_none ea hb
      refine ⟨a, b, _, _, rfl, rfl, by rw [upd_ne nab]; exact ea, upd_same, (by show 6 ≤ sizeLine; decide), fun r hr' => ?_⟩
      have k4 : Keep [] H2 (upd (upd H2 b (.lst [optV e.cause, optV e.atw])) r (.lst ([.str e.kind, .str e.text, .ref m, .ref n] ++ [optV e.cause, optV e.atw]))) := (Keep.new hb).newTo hr'
      have er : (upd (upd H2 b (.lst [optV e.cause, optV e.atw])) r (.lst ([.str e.kind, .str e.text, .ref m, .ref n] ++ [optV e.cause, optV e.atw]))) r = some (.lst [.str e.kind, .str e.text, .ref m, .ref n, optV e.cause, optV e.atw]) := upd_same
      have k13 := k1.trans k3
      have hr3 : H2 r = none := Keep.free (Keep.new hb (ex := [])) hr' nin0
      have nrb : r ∉ bad := nb k13 hr3
      have nrs : r ∉ rs := fun z => by
        obtain ⟨o, q⟩ := r1.is r z
        rw [k3.at q nin0] at hr3; cases hr3
      have nrl : r ≠ l := Ne.symm (ne_of_none ((Keep.new hb (ex := [])).at e2 nin0) hr')
      generalize (upd (upd H2 b (.lst [optV e.cause, optV e.atw])) r (.lst ([.str e.kind, .str e.text, .ref m, .ref n] ++ [optV e.cause, optV e.atw]))) = H3 at k4 er ⊢
      have e3 := k4.at e2 nin0
      have lr : rs.length ≤ 10000 := by rw [r1.len, List.length_take]; omega
      refine ⟨l, _, _, rfl, rfl, e3, Nat.lt_of_le_of_lt (by rw [List.length_map]; exact lr : (rs.map V.ref).length ≤ 10000) (by decide), ?_⟩
      have k5 : Keep [l] H3 (upd H3 l (.lst (rs.map V.ref ++ [V.ref r]))) := Keep.own in1
      have nc : ∀ {x : Addr}, x ≠ l → x ∉ bad → x ∉ l :: bad := fun a b z => by
        rcases List.mem_cons.mp z with q | q
        · exact a q
        · exact b q
      refine ⟨_, _, rs ++ [r], rfl, ((k1.trans k3).trans k4).freshTo hl, by rw [upd_same, List.map_append]; rfl, ?_, ?_, ?_⟩
      · rw [show es.take (i + 1) = es.take i ++ [e] by rw [List.take_add_one, he]; rfl]
        refine RowsAt.snoc ⟨m, n, nc nrl nrb, nc nml nmb, nc nnl nnb, k5.at er (nin1 nrl), k5.at (k4.at em nin0) (nin1 nml), k5.at (k4.at en nin0) (nin1 nnl)⟩ ?_
        exact ((r1.keep (k3.more fun b q => absurd q nin0)).keep (k4.more fun b q => absurd q nin0)).keep (k5.more fun b hb => by rw [List.mem_singleton.mp hb]; exact List.mem_cons_self)
      · exact List.nodup_append.mpr ⟨nd, by simp, fun a ha b hb z => nrs (by rw [← List.mem_singleton.mp hb, ← z]; exact ha)⟩
      · intro x hx
        rcases List.mem_append.mp hx with q | q
        · exact fr x q
        · rw [List.mem_singleton.mp q]; exact Keep.free k13 hr3 nin0
    · rintro σ H1 ⟨v2, v3, rs, rfl, k1, e1, r1, nd, fr⟩
      exact ⟨_, rfl, kk H1 l rs k1 hl e1 r1 nd fr⟩
end
end Fs
/-! The law: some rounds, all of them right. -/
namespace Fs
open PySem L2 TL
def spRnd (Pt : Addr) : Sp := fun vs H Q _ => ∃ p : Addr, vs = [.ref p] ∧ PotAt H p 0 ∧ GxR.TabG H Pt ∧ ∀ H' : Hp, Keep [p, Pt] H H' → GxR.TabG H' Pt → Q (.bl true) H'
abbrev sLaw : Stmt := top 61 --def law
abbrev nLaw : List Str := ["_law_script", "_law_k"]
theorem scLaw : FnScope nLaw ["_law_script"] (defScope sLaw) := ⟨rfl, rfl, rfl, by decide +kernel, rfl, by decide +kernel, by decide +kernel⟩
def spLaw (K : PySem.W.Frag) (Pt : Addr) : Sp := fun vs H Q _ => ∃ (a : Addr) (ns : List Int), vs = [.ref a] ∧ SqL K H a (ns.map V.int) ∧ ns.length ≤ 63 ∧ H Pt = some (.tbl #[]) ∧ ∀ H', Q (.bl true) H'
structure ATxt (K : PySem.W.Frag) (mg : Str → Option Value) (fPo fRo : Addr) : Prop where
  gPo : mg "_law_pot" = some (.ref fPo)
  kPo : PySem.W.keepIn K (.ref fPo) = true
  gRo : mg "_law_round" = some (.ref fRo)
  kRo : PySem.W.keepIn K (.ref fRo) = true
  len : mg "len" = none
  max : mg "max" = none
  min : mg "min" = none
  range : mg "range" = none
  all : mg "all" = none
theorem seq_keep {K : PySem.W.Frag} {H H' : Hp} {a Pt : Addr} {xs : List V} {tb : Array Value} (h : SqL K H a xs) (k : Keep [Pt] H H') (hT : H Pt = some (.tbl tb)) : SqL K H' a xs := by
  rcases h with (h | ⟨o, h⟩) | h
  · exact .inl (.inl (k.at h (nin1 (ne_of h hT (fun z => by cases z)))))
  · exact .inl (.inr ⟨o, k.at h (nin1 (ne_of h hT (fun z => by cases z)))⟩)
  · exact .inr h
section
variable {P : Program} {w : World} {K : PySem.W.Frag} {mg : Str → Option Value} {base : Heap} {fPo fRo Pt : Addr}
theorem law_body {N : Nat} (hN : 1 ≤ N) {dPo dRo : FuncData} {f : Addr} (T : ATxt K mg fPo fRo) (FPo : FnOk P w K mg base CX0 1 fPo dPo ["_law_script", "_law_k"] (spPot K)) (bPo : Binds K dPo ["_law_script", "_law_k"] [])
    (FR : FnG P w K mg base N fRo dRo ["_law_pot_here"] (spRnd Pt)) (bR : Binds K dRo ["_law_pot_here"] [])
    (cdv : Value) (A0 : Around) (outer : List Env) (s : Shared) (H : Hp) (vs : List V) (Q : VK) (Es : XK) (hg : A0.guards = some []) (hr : Room N (A0.deeper (PyProof.Rows.envOfC "law" (defScope sLaw) s.heap.objs.size f cdv))) (h : spLaw K Pt vs H Q Es) :
    ∃ t, PSs (cxOf CX0 P w K mg base nLaw "law" (defScope sLaw) f cdv A0 outer s H Es).nox (defBody sLaw) t ∧ t { nx := fun _ H' => Q .non H', rt := Q } (L2.start nLaw vs) H := by
  obtain ⟨a, ns0, rfl, hS, h63, hT, kk⟩ := h
  have hr1 : Room 1 _ := hr.mono hN
  have hgX : (cxOf CX0 P w K mg base nLaw "law" (defScope sLaw) f cdv A0 outer s H Es).nox.A.guards = some [] := hg
  refine ⟨_, pss_one (ps_ret (pe_callB (cr_all rfl) (by rfl) T.all (by decide +kernel) (pa_cons (pe_lc (own := [("_law_k", 1)]) (g := gName 1) (tt := tYes) (te := tCall (spRnd Pt) [] E0 (tCons (tCall (spPot K) [] E0 (tCons (tVar 0) (tCons (tVar 1) tNil))) tNil)) rfl scLaw.nd
      (pi_range1 rfl T.range (pa_cons (pe_callB (call_max2 rfl) (by rfl) T.max (by decide +kernel) (pa_cons pe_int (pa_cons (pe_callB (call_min2 rfl) (by rfl) T.min (by decide +kernel) (pa_cons pe_int (pa_cons (pe_callB call_len_seq (by rfl) T.len PySem.boot_len (pa_cons (pv 0) pa_nil)) pa_nil))) pa_nil))) pa_nil))
      (blkOk_by (N := nLaw) (sc := defScope sLaw) (by decide +kernel)) (fun _ _ _ _ _ => pg_name (i := 1) scLaw.nd rfl (Or.inl rfl)) (fun _ _ _ _ _ => pts_nil)
      (fun _ _ _ _ _ => by exact (pe_callG FR hgX hr rfl T.gRo T.kRo bR (pa_cons (pe_call FPo hr1 rfl T.gPo T.kPo bPo .nil pass0 (pa_cons (pv 0) (pa_cons (pv 1) pa_nil))) pa_nil)))) pa_nil))), ?_⟩
  refine ⟨_, rfl, a, _, rfl, .inl hS, _, _, rfl, _, _, rfl, ?_⟩
  rw [List.length_map]
  obtain ⟨M, hM, hM5⟩ : ∃ M : Nat, (if (if (ns0.length : Int) < 4 then (ns0.length : Int) else 4) > 1 then (if (ns0.length : Int) < 4 then (ns0.length : Int) else 4) else 1) = (M : Int) ∧ M ≤ 5 := by
    refine ⟨(if (if (ns0.length : Int) < 4 then (ns0.length : Int) else 4) > 1 then (if (ns0.length : Int) < 4 then (ns0.length : Int) else 4) else 1).toNat, ?_, ?_⟩
    · split <;> split <;> omega
    · split <;> split <;> omega
  rw [hM]
  refine ⟨_, rfl, by omega, by omega, fun D hD => ?_⟩
  rw [Int.toNat_natCast]
  have nDa : ∀ {b o}, H b = some o → b ≠ D := fun e => ne_of_none e hD
  refine lc_range (lo := 0) (n := M) (fun i G => Keep [Pt] H G ∧ GxR.TabG G Pt ∧ G D = some (.lst (List.replicate i (V.bl true)))) ⟨Keep.new hD, ⟨#[], by rw [upd_ne (nDa hT)]; exact hT, True.intro⟩, upd_same⟩ ?_ ?_
  · rintro i G hi ⟨kG, tab, eD⟩
    obtain ⟨tb0, hT0, oT0⟩ := id tab
    have z0 : (0 : Int) + (i : Int) = (i : Int) := Int.zero_add _
    refine ⟨rfl, tyes ?_⟩
    refine ⟨_, rfl, _, rfl, a, ns0, i, by rw [z0]; rfl, seq_keep hS kG hT, by omega, fun p G1 hp k1 pot1 => ?_⟩
    obtain ⟨x1, ep1⟩ := pot1.some
    have hT1 : G1 Pt = some (.tbl tb0) := k1.at hT0 nin0
    have eD1 := k1.at eD nin0
    have npD : D ≠ p := ne_of_none eD hp
    have nPD : D ≠ Pt := fun z => by rw [z, hT1] at eD1; cases eD1
    refine ⟨p, rfl, pot1, ⟨tb0, hT1, oT0⟩, fun G2 k2 tab2 => ?_⟩
    have eD2 := k2.at eD1 (fun z => by rcases List.mem_cons.mp z with z | z; exact npD z; exact nPD (List.mem_singleton.mp z))
    obtain ⟨tb2, hT2, oT2⟩ := id tab2
    refine ⟨_, eD2, Nat.lt_of_le_of_lt (by rw [List.length_replicate]; omega : (List.replicate i (V.bl true)).length ≤ 1000) (by decide), ?_, ⟨tb2, by rw [upd_ne nPD.symm]; exact hT2, oT2⟩, by rw [upd_same, List.replicate_succ']⟩
    have k02 : Keep [Pt] H G2 := (kG.trans (k1.more fun b z => absurd z nin0)).lateX k2 fun b hb => by
      rcases List.mem_cons.mp hb with z | z
      · rw [z]
        cases q : H p with
        | none => exact .inr rfl
        | some o =>
          by_cases e : p = Pt
          · rw [e]; exact .inl in1
          · have := kG.at q (nin1 e)
            rw [this] at hp; cases hp
      · exact .inl z
    exact k02.freshTo hD
  · rintro G ⟨kG, tab, eD⟩
    refine ⟨D, List.replicate M true, rfl, ?_, ?_⟩
    · rw [List.map_replicate]; exact SqL.of eD
    · have e : (List.replicate M true).all id = true := by simp
      rw [e]
      exact kk G
end
end Fs
/-! A round begins: kinds, texts, faults, a ledger. -/
namespace Fs
open PySem L2 TL
section
variable {C CK Pt p : Addr} {H : Hp} {tb : Array Value}
/-- the part of a heap that a round keeps -/
structure Home (p Pt : Addr) (tb : Array Value) (H G : Hp) : Prop where
  keep : Keep [p, Pt] H G
  tab : GxR.TabG G Pt
theorem front_run {w1 w2 w3 w4 : Option V} {σr : L2.St} {De : Ends} {T : TS} {mo M R : Nat} (hmo : mo ≤ 12) (hM : 1 ≤ M ∧ M ≤ 30) (hR : 1 ≤ R ∧ R ≤ 100) (pot : PotAt H p 0) (tab : GxR.TabG H Pt)
    (hT : ∀ (l X : Addr) (ps : List (Str × Str)) (tx : List Str) (D : LDA) (es : List Ent) (G : Hp), Sc C CK ps 0 p l X tx G D es → ps.length ≤ mo → es.length ≤ max 15 (max M (R + 1)) → (∃ Lf Df Nf, Tree es Lf Df Nf ∧ ∀ i, i < es.length → Lf i ≤ max 17 R ∧ Df i ≤ max 14 M) → PotAt G p 2500 → Keep [p, Pt] H G → GxR.TabG G Pt → (∀ b ∈ D.zs, H b = none) → H l = none → H X = none → H D.E = none → Pt ∉ p :: D.zs →
      T De (some (.ref p) :: some (.ref l) :: some (.ref X) :: some (.ref D.E) :: some (.ref D.q) :: σr) G) :
    tSeq (tAsg (tCall spKds [] E0 (tCons (tVar 0) (tCons (tC (.int (mo : Int))) tNil))) (gName 1)) (tSeq (tAsg (tCall spTxs [] E0 (tCons (tVar 0) tNil)) (gName 2))
      (tSeq (tAsg (tCall spSome [] E0 (tCons (tVar 0) (tCons (tVar 1) (tCons (tVar 2) (tCons (tC (.int (M : Int))) (tCons (tC (.int (R : Int))) tNil)))))) (gName 3))
        (tSeq (tAsg (tCall (spLedg C CK Pt) [] E0 (tCons (tVar 1) (tCons (tVar 3) tNil))) (gName 4)) T))) De (some (.ref p) :: w1 :: w2 :: w3 :: w4 :: σr) H := by
  obtain ⟨tb, hPt, oT⟩ := tab
  obtain ⟨x0, ep0⟩ := pot.some
  have npT : Pt ≠ p := fun z => by rw [z, ep0] at hPt; cases hPt
  refine ⟨_, rfl, p, 0, mo, rfl, hmo, pot, by decide, fun l ps G1 hl hw hps hP k1 pot1 => ?_⟩
  have hT1 := k1.at hPt (nin1 npT)
  obtain ⟨x1, ep1⟩ := pot1.some
  have nlp : l ≠ p := fun z => by rw [z, ep0] at hl; cases hl
  have nlT : l ≠ Pt := fun z => by rw [z, hPt] at hl; cases hl
  refine ⟨_, rfl, p, _, rfl, pot1, by decide, fun X tx G2 hX htx eX k2 pot2 => ?_⟩
  have hT2 := k2.at hT1 (nin1 npT)
  obtain ⟨x2, ep2⟩ := pot2.some
  have nXp : X ≠ p := fun z => by rw [z, ep1] at hX; cases hX
  have hP2 := hP.keep k2 (nin1 nlp) (lst_no (pot_lst pot1))
  refine ⟨_, rfl, _, rfl, _, rfl, M, R, hM.1, hM.2, hR.1, hR.2, p, l, X, _, ps, tx, rfl, pot2, by decide, hP2, by omega, nlp, htx, eX, nXp, fun E rs es Lf Df Nf G3 fa h1 h101 hlv pot3 => ?_⟩
  have k3 := fa.keep
  have hT3 := k3.at hT2 (nin1 npT)
  obtain ⟨x3, ep3⟩ := pot3.some
  have hP3 := hP2.keep k3 (nin1 nlp) (lst_no (pot_lst pot2))
  refine ⟨_, rfl, _, rfl, l, E, rs, es, ps, rfl, hP3, hw, by omega, fa.ent, fa.rows.less (fun b z => absurd z nin0), fa.built, by omega, ⟨tb, hT3, oT⟩, fun q A ms ns G4 k4 fA led fN tab4 kin => ?_⟩
  have S := Sc.make (Pt := Pt) pot2 hP2 hw (by omega) nlp htx eX nXp fa h1 (by omega) pot3 hT3 k4 fA led fN kin
  have k13 : Keep [p] H G3 := (k1.trans k2).trans k3
  have old : ∀ {b}, G3 b = none → H b = none := fun {b} hb => Keep.free k13 hb (nin1 fun z => by rw [z, ep3] at hb; cases hb)
  have old2 : ∀ {b}, G2 b = none → H b = none := fun {b} hb => Keep.free (k1.trans k2) hb (nin1 fun z => by rw [z, ep2] at hb; cases hb)
  have fz : ∀ b ∈ (⟨q, A, ms, ns, E, rs⟩ : LDA).zs, H b = none := fun b hb => by
    rcases List.mem_append.mp hb with z | z
    · exact old (fA b z)
    · rcases List.mem_append.mp z with z | z
      · exact old (fN b z)
      · exact old2 (fa.fresh b z)
  have pm : ∀ {b}, b ∈ [p] → b ∈ [p, Pt] := fun hb => by rw [List.mem_singleton.mp hb]; exact List.mem_cons_self
  have k14 : Keep [p, Pt] H G4 := (k13.more fun b hb => pm hb).trans (k4.more fun b hb => by rw [List.mem_singleton.mp hb]; exact List.mem_cons_of_mem _ List.mem_cons_self)
  refine hT l X ps tx ⟨q, A, ms, ns, E, rs⟩ es G4 S hps h101 ⟨Lf, Df, Nf, fa.tree, hlv⟩ ((pot3.keep k4 (nin1 npT.symm)).le (by omega)) k14 tab4 fz hl ?_ (old2 fa.E0) ?_
  · exact Keep.free k1 hX (nin1 fun z => by rw [z, ep1] at hX; cases hX)
  · intro z
    rcases List.mem_cons.mp z with z | z
    · exact npT z
    · have := fz Pt z
      rw [hPt] at this; cases this
end
end Fs
/-! A round on its way, where parts are made. -/
namespace Fs
open PySem L2 TL
structure RS (C CK p l X Pt : Addr) (ps : List (Str × Str)) (tx : List Str) (H G : Hp) (D : LDA) (es xs : List Ent) (c m : Nat) : Prop where
  S : ScB C CK ps c p l X tx G D es xs
  pot : PotAt G p m
  keep : Keep [p, Pt] H G
  tab : GxR.TabG G Pt
  fz : ∀ b ∈ D.zs, H b = none
  nPt : Pt ∉ p :: D.zs
section
variable {C CK p l X Pt : Addr} {ps : List (Str × Str)} {tx : List Str} {H G G' : Hp} {D : LDA} {es es' xs ys : List Ent} {c m m' : Nat}
theorem RS.keep0 (R : RS C CK p l X Pt ps tx H G D es xs c m) (k : Keep [] G G') : RS C CK p l X Pt ps tx H G' D es xs c m := by
  obtain ⟨tb, hT, oT⟩ := R.tab
  exact ⟨R.S.keep0 k, R.pot.keep k nin0, R.keep.trans (k.more fun b z => absurd z nin0), ⟨tb, k.at hT nin0, oT⟩, R.fz, R.nPt⟩
theorem RS.nPp (R : RS C CK p l X Pt ps tx H G D es xs c m) : Pt ≠ p := fun z => R.nPt (by rw [z]; exact List.mem_cons_self)
theorem RS.dig (R : RS C CK p l X Pt ps tx H G D es xs c m) (k : Keep [p] G G') (pot : PotAt G' p m') : RS C CK p l X Pt ps tx H G' D es xs c m' := by
  obtain ⟨tb, hT, oT⟩ := R.tab
  exact ⟨R.S.keepP R.pot k, pot, R.keep.trans (k.more fun b hb => by rw [List.mem_singleton.mp hb]; exact List.mem_cons_self), ⟨tb, k.at hT (nin1 R.nPp), oT⟩, R.fz, R.nPt⟩
theorem RS.le (R : RS C CK p l X Pt ps tx H G D es xs c m) (h : m ≤ m') : RS C CK p l X Pt ps tx H G D es xs c m' := ⟨R.S, R.pot.le h, R.keep, R.tab, R.fz, R.nPt⟩
theorem RS.new (R : RS C CK p l X Pt ps tx H G D es xs c m) {b : Addr} (hb : G b = none) : H b = none := Keep.free R.keep hb fun z => by
  obtain ⟨tb, hT, oT⟩ := R.tab
  obtain ⟨y, ep⟩ := R.pot.some
  rcases List.mem_cons.mp z with z | z
  · rw [z, ep] at hb; cases hb
  · rw [List.mem_singleton.mp z, hT] at hb; cases hb
theorem RS.right (R : RS C CK p l X Pt ps tx H G D es xs c m) {mm nn : List Addr} (S' : ScB C CK ps c p l X tx G' (D.more mm nn) es (xs ++ ys)) (k : Keep D.A.ls G G') (new : ∀ b ∈ nn, G b = none) : RS C CK p l X Pt ps tx H G' (D.more mm nn) es (xs ++ ys) c m := by
  obtain ⟨tb, hT, oT⟩ := R.tab
  have zA : ∀ {b : Addr}, b ∈ D.A.ls → b ∈ D.zs := fun z => List.mem_append_left _ z
  refine ⟨S', R.pot.keep k (fun z => R.S.st.np (List.mem_cons_of_mem _ (List.mem_append_left _ z))), R.keep.lateX k fun b hb => .inr (R.fz b (zA hb)), ⟨tb, k.at hT (fun z => R.nPt (List.mem_cons_of_mem _ (zA z))), oT⟩, fun b hb => ?_, fun z => ?_⟩
  · rcases (LDA.more_zs D mm nn).mp hb with z | z
    · exact R.fz b z
    · exact R.new (new b z)
  · rcases List.mem_cons.mp z with z | z
    · exact R.nPp z
    · rcases (LDA.more_zs D mm nn).mp z with z | z
      · exact R.nPt (List.mem_cons_of_mem _ z)
      · have := new Pt z
        rw [hT] at this; cases this
theorem RS.deed (R : RS C CK p l X Pt ps tx H G D es xs c m) {c' : Nat} (S' : StB C CK ps c' p G' D es' xs) (hl : es'.length = es.length) (hm : es'.map Ent.mem = es.map Ent.mem) (k : Keep (p :: D.zs) G G') (pot : PotAt G' p m') : RS C CK p l X Pt ps tx H G' D es' xs c' m' := by
  obtain ⟨tb, hT, oT⟩ := R.tab
  refine ⟨R.S.deed R.pot S' hm hl k, pot, R.keep.lateX k fun b hb => ?_, ⟨tb, k.at hT R.nPt, oT⟩, R.fz, R.nPt⟩
  rcases List.mem_cons.mp hb with z | z
  · rw [z]; exact .inl List.mem_cons_self
  · exact .inr (R.fz b z)
theorem RS.start (S : Sc C CK ps c p l X tx G D es) (pot : PotAt G p m) (k : Keep [p, Pt] H G) (tab : GxR.TabG G Pt) (fz : ∀ b ∈ D.zs, H b = none) (nPt : Pt ∉ p :: D.zs) : RS C CK p l X Pt ps tx H G D es [] c m := ⟨S.toB, pot, k, tab, fz, nPt⟩
theorem RS.nEp (R : RS C CK p l X Pt ps tx H G D es xs c m) : D.E ≠ p := fun z => R.S.st.np (by rw [z]; exact List.mem_cons_self)
end
end Fs
/-! All that a ledger tells, as rows of its own: a scene. -/
namespace Fs
open PySem L2 TL
def SX (ps : List (Str × Str)) (cap : Nat) (es : List Ent) : Prop := ∀ e ∈ es, SmC ps es.length cap e
theorem SX.news {ps : List (Str × Str)} {cap : Nat} {es xs : List Ent} (h : SX ps cap es) (n : News es xs) : SX ps cap (es ++ xs) := fun e he => by
  have up : es.length ≤ (es ++ xs).length := by rw [List.length_append]; omega
  rcases List.mem_append.mp he with q | q
  · exact ⟨(h e q).1.more up, (h e q).2⟩
  · obtain ⟨i, hi⟩ := List.mem_iff_getElem?.mp q
    have hil := (List.getElem?_eq_some_iff.mp hi).1
    obtain ⟨a, b, c, d, f⟩ := n i e hi
    have mm : ∀ m ∈ e.mem, m < (es ++ xs).length := fun m hm => by have := d m hm; rw [List.length_append]; omega
    have kd : KindOk ps e.mem e.kind := ⟨fun z => absurd z b, fun _ => a⟩
    have k8 : e.kind.cps.toList.length ≤ 8 ∧ ∀ c ∈ e.kind.cps.toList, c < 128 := by rw [a]; decide +kernel
    rcases f with ⟨t, n, u, g⟩ | ⟨e0, m0, t, n, u, g⟩
    · refine ⟨⟨k8.1, k8.2, ?_, c, mm, ⟨by rw [n]; exact Nat.zero_le _, fun z hz => (by rw [n] at hz; exact absurd hz List.not_mem_nil)⟩, fun y hy => (by rw [u] at hy; cases hy), fun y hy => (by rw [g] at hy; cases hy)⟩, by rw [n]; exact Nat.zero_le _, kd⟩
      rw [t]
      exact ⟨Nat.zero_le _, fun c hc => by revert c hc; decide +kernel⟩
    · obtain ⟨⟨_, _, b3, _, _, b6, b7, b8⟩, b9, _⟩ := h e0 m0
      exact ⟨⟨k8.1, k8.2, by rw [t]; exact b3, c, mm, by rw [n]; exact b6, fun y hy => Nat.lt_of_lt_of_le (b7 y (by rw [← u]; exact hy)) up, fun y hy => Nat.lt_of_lt_of_le (b8 y (by rw [← g]; exact hy)) up⟩, by rw [n]; exact b9, kd⟩
theorem wf_sheaf {ps : List (Str × Str)} (h : Wf ps) : sS ∉ sF :: ps.map Prod.fst := by
  induction h with
  | nil => decide +kernel
  | @snoc ps z y _ _ hz _ ih =>
    rw [List.map_append, ← List.cons_append]
    intro q
    rcases List.mem_append.mp q with q | q
    · exact ih q
    · have e : sS = z := List.mem_singleton.mp q
      exact hz (by rw [← e]; exact List.mem_cons_self)
theorem SX.sheaf {ps : List (Str × Str)} {cap : Nat} {es : List Ent} (hw : Wf ps) (h : SX ps cap es) : ∀ e ∈ es, e.kind = sS → e.mem ≠ [] := fun e he hk hm => wf_sheaf hw (by rw [← hk]; exact (h e he).2.2.1 hm)
theorem SX.small {ps : List (Str × Str)} {cap : Nat} {es : List Ent} (h : SX ps cap es) (l : es.length ≤ 10000) : AllSmall es := fun e he => (h e he).1.more l
theorem SX.deed {ps : List (Str × Str)} {cap cap' : Nat} {es es' xs : List Ent} (h : SX ps cap (es ++ xs)) (hl : es'.length = es.length) (hc : cap ≤ cap') (h' : ∀ e ∈ es', SmC ps es'.length cap' e) : SX ps cap' (es' ++ xs) := fun e he => by
  have el : (es' ++ xs).length = (es ++ xs).length := by rw [List.length_append, List.length_append, hl]
  rw [el]
  rcases List.mem_append.mp he with q | q
  · exact ⟨(h' e q).1.more (by rw [List.length_append]; omega), (h' e q).2⟩
  · obtain ⟨a, b, c⟩ := h e (List.mem_append_right _ q)
    exact ⟨a, Nat.le_trans b hc, c⟩
theorem RowsAt.take {bad : List Addr} {H : Hp} : ∀ {n : Nat} {as : List Addr} {es : List Ent}, RowsAt bad H as es → RowsAt bad H (as.take n) (es.take n)
  | 0, _, _, _ => True.intro
  | n + 1, [], [], _ => True.intro
  | n + 1, _ :: as, _ :: es, h => ⟨h.1, RowsAt.take (n := n) h.2⟩
  | _ + 1, [], _ :: _, h => h.elim
  | _ + 1, _ :: _, [], h => h.elim
def LDA.stood (D : LDA) (F : Addr) (rs : List Addr) : LDA := { D with E := F, rs := rs }
section
variable {C CK : Addr} {ps : List (Str × Str)} {cap : Nat} {p l X : Addr} {tx : List Str} {H G : Hp} {D : LDA} {es xs : List Ent} {n : Nat}
theorem ScB.stood (S : ScB C CK ps cap p l X tx H D es xs) (pot : PotAt H p n) (sx : SX ps cap (es ++ xs)) (len : (es ++ xs).length ≤ 10000) {F : Addr} {rs : List Addr} (k : Keep [] H G) (nF : H F = none) (eF : G F = some (.lst (rs.map V.ref)))
    (rows : RowsAt (F :: p :: (D.A.ls ++ D.ns)) G rs (es ++ xs)) (nd : rs.Nodup) (new : ∀ r ∈ rs, H r = none) : ScB C CK ps cap p l X tx G (D.stood F rs) (es ++ xs) [] := by
  have e0 : (es ++ xs) ++ [] = es ++ xs := List.append_nil _
  have S2 := S.keep0 k
  obtain ⟨x0, ep⟩ := pot.some
  have alive : ∀ {b : Addr}, (∃ o, H b = some o) → b ≠ F := fun {b} ⟨o, e⟩ z => by rw [z, nF] at e; cases e
  have no2 : ∀ {b : Addr} {o : HO}, H b = some o → b ∉ rs := fun {b o} e z => by rw [new b z] at e; cases e
  have zs' : ∀ b ∈ (D.stood F rs).zs, b ∈ D.zs ∨ b ∈ rs := fun b hb => by
    have hb : b ∈ D.A.ls ++ (D.ns ++ rs) := hb
    show b ∈ D.A.ls ++ (D.ns ++ D.rs) ∨ b ∈ rs
    simp only [List.mem_append] at hb ⊢
    rcases hb with h | h | h <;> simp [h]
  have st : StB C CK ps cap p G (D.stood F rs) (es ++ xs) [] := by
    refine ⟨by rw [e0]; exact S2.st.led, S2.st.kin, eF, rows.less fun a ha => ?_, nd, fun z => ?_, fun z => ?_, S.treeX, sx, S.st.rowX, by rw [e0]; exact S.st.rowX⟩
    · have ha : a ∈ p :: F :: (D.A.ls ++ D.ns) := ha
      simp only [List.mem_cons, List.mem_append] at ha ⊢
      rcases ha with h | h | h | h <;> simp [h]
    · have z : F ∈ D.A.ls ++ D.ns := z
      exact alive (by
        rcases List.mem_append.mp z with h | h
        · obtain ⟨y, e⟩ := S.st.lists F (List.mem_append_left _ h); exact ⟨_, e⟩
        · obtain ⟨y, e⟩ := S.st.lists F (List.mem_append_right _ (List.mem_append_left _ h)); exact ⟨_, e⟩) rfl
    · rcases List.mem_cons.mp z with h | h
      · exact alive ⟨_, ep⟩ h
      · exact S.st.np (List.mem_cons_of_mem _ h)
  refine ⟨st, by rw [e0]; exact S.treeX, fun e he => absurd he List.not_mem_nil, S2.prs, S.wf, S.few, S.txs, S2.hX, fun z => ?_, fun z => ?_, by rw [List.length_append]; have := S.pos; omega, len⟩
  · rcases List.mem_cons.mp z with h | h
    · exact S.nlp h
    · rcases zs' l h with h | h
      · exact S.nl (List.mem_cons_of_mem _ h)
      · obtain ⟨y, e⟩ := S.prs.some
        exact no2 e h
  · rcases List.mem_cons.mp z with h | h
    · exact S.nXp h
    · rcases zs' X h with h | h
      · exact S.nX (List.mem_cons_of_mem _ h)
      · exact no2 S.hX h
end
end Fs
/-! What is shown of a fault without its kind and members. -/
namespace Fs
open PySem L2 TL
def likeD (e : Ent) : PyData := .list [.str e.text, .list (e.notes.map PyData.str), optD e.cause, optD e.atw]
theorem like_ok {n : Nat} {e : Ent} (h : Sm n e) (hn : n ≤ 10000) : (likeD e).showable = true ∧ (likeD e).hasDict = false ∧ (likeD e).depth ≤ 60 ∧ (likeD e).shown.length ≤ sizeLine := by
  obtain ⟨h1, h2, ⟨h3, h4⟩, h5, h6, h7, h8, h9⟩ := h
  obtain ⟨ki, te, me, no, ca, at'⟩ := e
  obtain ⟨s1, s2, s3⟩ := strs_ok no
  obtain ⟨c1, c2, c3⟩ := opt_ok h8 hn
  obtain ⟨d1, d2, d3⟩ := opt_ok h9 hn
  have a2 : (PyData.str te).shown.length ≤ 10 * 40 + 2 := str_short h3 fun c hc => (h4 c hc).1
  have a4 : (PyData.list (no.map PyData.str)).shown.length ≤ 13000 := strs_shown h7.1 h7.2
  have a5 : (optD ca).shown.length ≤ 4 := opt_shown h8 hn
  have a6 : (optD at').shown.length ≤ 4 := opt_shown h9 hn
  refine ⟨?_, ?_, ?_, ?_⟩
  · simp only [likeD, PyData.showable, PyData.showableAll, s1, c1, d1, Bool.and_self]
  · simp only [likeD, PyData.hasDict, PyData.hasDictAll, s2, c2, d2, Bool.or_self]
  · simp only [likeD, PyData.depth, PyData.depthAll, c3, d3]
    omega
  · unfold likeD
    simp only [PyData.shown]
    have g := listText_le (PyData.shownAll [.str te, .list (no.map PyData.str), optD ca, optD at'])
    simp only [PyData.shownAll, piled_cons, piled_nil] at g ⊢
    exact Nat.le_trans (by omega : _ ≤ 15000) (by decide)
end Fs
/-! Ways as data; ways as keys of a dict. -/
namespace Fs
open PySem L2 TL
def wayT (w : List Nat) : PyData := .tuple (w.map fun k : Nat => PyData.int (k : Int))
def twsD (ws : List (List Nat)) : PyData := .list (ws.map wayT)
theorem dp_wayT {K : PySem.W.Frag} {H : Hp} {t : Addr} {w : List Nat} (h : H t = some (.tup (memV w))) : Dp K H (.ref t) (wayT w) := .tup (SqT.of h) (dp_ints w)
theorem TwsAt.dp {K : PySem.W.Frag} {H : Hp} : ∀ {ts : List Addr} {ws : List (List Nat)}, TwsAt H ts ws → DpAll K H (ts.map V.ref) (ws.map wayT)
  | [], [], _ => .nil
  | _ :: ts, _ :: ws, h => .cons (dp_wayT h.1) (TwsAt.dp h.2)
  | [], _ :: _, h => h.elim
  | _ :: _, [], h => h.elim
theorem tws_flat (ws : List (List Nat)) : PyData.canLayAll0 (ws.map wayT) = true ∧ PyData.depthAll (ws.map wayT) ≤ 3 := by
  induction ws with
  | nil => simp [PyData.canLayAll0, PyData.depthAll]
  | cons w r ih =>
    have h1 := ints_lay w
    have h2 := ints_deep w
    obtain ⟨i1, i2⟩ := ih
    rw [List.map_cons]
    refine ⟨?_, ?_⟩
    · simp only [PyData.canLayAll0, wayT, PyData.canLay0, h1, i1, Bool.and_self]
    · simp only [PyData.depthAll, wayT, PyData.depth]
      omega
theorem tws_shaped (ws : List (List Nat)) : SeqAt.shaped (twsD ws) = true := by
  obtain ⟨h1, h2⟩ := tws_flat ws
  have a1 : (twsD ws).canLay0 = true := by
    unfold twsD
    simp only [PyData.canLay0]
    exact h1
  have a2 : (twsD ws).depth ≤ 64 := by
    unfold twsD
    simp only [PyData.depth]
    omega
  unfold SeqAt.shaped
  rw [a1, decide_eq_true a2]
  rfl
theorem way_shaped (w : List Nat) : SeqAt.shaped (wayT w) = true := by
  have h1 := ints_lay w
  have h2 := ints_deep w
  have a1 : (wayT w).canLay0 = true := by
    unfold wayT
    simp only [PyData.canLay0]
    exact h1
  have a2 : (wayT w).depth ≤ 64 := by
    unfold wayT
    simp only [PyData.depth]
    omega
  unfold SeqAt.shaped
  rw [a1, decide_eq_true a2]
  rfl
theorem tws_nil (ws : List (List Nat)) : PyData.eqv (twsD ws) (twsD []) = ws.isEmpty := by
  cases ws <;> simp [twsD, PyData.eqv, PyData.eqvAll]
theorem ints_eqv : ∀ a b : List Nat, PyData.eqvAll (a.map fun k : Nat => PyData.int (k : Int)) (b.map fun k : Nat => PyData.int (k : Int)) = decide (a = b)
  | [], [] => by simp [PyData.eqvAll]
  | [], _ :: _ => by simp [PyData.eqvAll]
  | _ :: _, [] => by simp [PyData.eqvAll]
  | x :: a, y :: b => by
    have ih := ints_eqv a b
    rw [List.map_cons, List.map_cons]
    show (PyData.eqv (.int (x : Int)) (.int (y : Int)) && PyData.eqvAll _ _) = _
    rw [ih]
    have e : PyData.eqv (.int (x : Int)) (.int (y : Int)) = decide (x = y) := by
      show ((x : Int) == (y : Int)) = _
      by_cases h : x = y
      · rw [h, decide_eq_true rfl]; simp
      · rw [decide_eq_false h]
        exact beq_eq_false_iff_ne.mpr fun z => h (by omega)
    rw [e, ← Bool.decide_and]
    refine decide_eq_decide.mpr ?_
    rw [List.cons.injEq]
theorem way_eqv (a b : List Nat) : PyData.eqv (wayT a) (wayT b) = decide (a = b) := ints_eqv a b
/-- ways as keys -/
def keyW (w : List Nat) : List Key := w.map fun n : Nat => (Sum.inl (n : Int) : Key)
theorem keyW_kV (w : List Nat) : (keyW w).map kV = memV w := by unfold keyW; rw [List.map_map]; rfl
theorem keyW_inj : ∀ {a b : List Nat}, keyW a = keyW b → a = b
  | [], [], _ => rfl
  | [], _ :: _, h => by cases h
  | _ :: _, [], h => by cases h
  | x :: a, y :: b, h => by
    obtain ⟨h1, h2⟩ := List.cons.inj (show (Sum.inl (x : Int) : Key) :: keyW a = Sum.inl (y : Int) :: keyW b from h)
    have := Sum.inl.inj h1
    rw [keyW_inj h2, show x = y by omega]
def chK (ws : List (List Nat)) : List (List Key × V) := ws.map fun w => (keyW w, V.bl true)
theorem chK_in (ws : List (List Nat)) (w : List Nat) : (valV (chK ws) (keyW w)).isSome = decide (w ∈ ws) := by
  induction ws with
  | nil => rfl
  | cons v r ih =>
    unfold chK valV at *
    rw [List.map_cons, List.find?_cons]
    by_cases h : v = w
    · rw [h, decide_eq_true rfl, decide_eq_true List.mem_cons_self]; rfl
    · rw [decide_eq_false fun z => h (keyW_inj z)]
      show (Option.map _ _).isSome = _
      rw [ih]
      refine decide_eq_decide.mpr ?_
      rw [List.mem_cons]
      constructor
      · exact .inr
      · rintro (z | z)
        · exact absurd z.symm h
        · exact z
theorem chK_put {ws : List (List Nat)} {w : List Nat} (h : w ∉ ws) : putK (chK ws) (keyW w) (V.bl true) = chK (ws ++ [w]) := by
  unfold putK
  have e : ((chK ws).any fun kv => decide (kv.1 = keyW w)) = false := by
    rw [List.any_eq_false]
    intro x hx
    unfold chK at hx
    obtain ⟨v, hv, rfl⟩ := List.mem_map.mp hx
    rw [decide_eq_true_eq]
    intro q
    exact h (by rw [← keyW_inj q]; exact hv)
  rw [e]
  show chK ws ++ _ = _
  unfold chK
  rw [List.map_append]; rfl
theorem DGet.w {H : Hp} {a b : Addr} {ws : List (List Nat)} {w : List Nat} (e : H a = some (.dT (chK ws))) (eb : H b = some (.tup (memV w))) : DGet H a (.ref b) (valV (chK ws) (keyW w)) := DGet.t e (by rw [keyW_kV]; exact eb)
end Fs
/-! The law: _law_whole. -/
namespace Fs
open PySem L2 TL
abbrev sWhL : Stmt := top 50 --def _law_whole
theorem scWhL : FnScope ["_law_thing"] ["_law_thing"] (defScope sWhL) := ⟨rfl, rfl, rfl, by decide +kernel, rfl, by decide +kernel, by decide +kernel⟩
def spWhL : Sp := fun vs H Q _ => ∃ o : Option Nat, vs = [optV o] ∧ Q (.bl o.isSome) H
section
variable {P : Program} {w : World} {K : PySem.W.Frag} {mg : Str → Option Value} {base : Heap}
theorem ok_whL {f : Addr} {fd : FuncData} (F : Fun K "_law_whole" "_law_whole" sWhL f fd) (mI : mg "isinstance" = none) (mT : mg "int" = none) (mB : mg "bool" = none) : FnOk P w K mg base CX0 1 f fd ["_law_thing"] spWhL := by
  refine F.ok scWhL (fun vs H Q E h => ?_) (fun cdv A outer s H vs Q E hr h => ?_)
  · obtain ⟨i, rfl, _⟩ := h
    rfl
  · obtain ⟨o, rfl, kk⟩ := h
    refine ⟨_, pss_one (ps_ret (pe_and (pe_callB call_isi (by rfl) mI (by decide +kernel) (pa_cons (pv 0) (pa_cons (pe_bltn (v := .ty "int") (u := .type "int") (by rfl) mT (by decide +kernel) rfl) pa_nil)))
      (pe_one (pe_not (pe_callB call_isi (by rfl) mI (by decide +kernel) (pa_cons (pv 0) (pa_cons (pe_bltn (v := .ty "bool") (u := .type "bool") (by rfl) mB (by decide +kernel) rfl) pa_nil))))))), ?_⟩
    cases o with
    | none => exact ⟨_, rfl, _, _, _, _, _, rfl, .ty "int", .base .non, kit_ty (r := false) (by decide +kernel), false, rfl, iteF kk⟩
    | some k =>
      refine ⟨_, rfl, _, _, _, _, _, rfl, .ty "int", .base (.int _), kit_ty (r := true) (by decide +kernel), true, rfl, iteT ?_⟩
      exact ⟨_, rfl, _, _, _, _, _, rfl, .ty "bool", .base (.int _), kit_ty (r := false) (by decide +kernel), false, rfl, kk⟩
end
end Fs
/-! The law: whether a part is right. -/
namespace Fs
open PySem L2 TL
abbrev sPRt : Stmt := top 51 --def _law_part_right
abbrev aPRt : List Str := ["_law_ledger_here", "_law_faults_here", "_law_found", "_law_k", "_law_ahead", "_law_chosen", "_law_many"]
abbrev nPRt : List Str := ["_law_ledger_here", "_law_faults_here", "_law_found", "_law_k", "_law_ahead", "_law_chosen", "_law_many", "_law_leaves_here", "_law_some_here", "_law_told_here", "_law_size", "_law_at", "_law_places", "_law_inner", "_law_one", "_law_way", "_law_number"]
theorem scPRt : FnScope nPRt aPRt (defScope sPRt) := ⟨rfl, rfl, rfl, by decide +kernel, rfl, by decide +kernel, by decide +kernel⟩
theorem plcs_any {es : List Ent} {k : Nat} {e : Ent} (B : Back es) (he : es[k]? = some e) (hne : e.mem ≠ []) {pre : List Nat} {ws : List (List Nat)} {i : Nat} (hi : i < e.mem.length) :
    (((((lvW es k).map fun x => pre ++ x.1).filter fun v => decide (v ∈ ws)).map fun v => decide (v.take (pre.length + 1) = pre ++ [i])).any id) = (((lvW es (e.mem.getD i 0)).map Prod.fst).any fun w => decide (pre ++ i :: w ∈ ws)) := by
  rw [Bool.eq_iff_iff, List.any_eq_true, List.any_eq_true]
  constructor
  · rintro ⟨b, hb, hbt⟩
    obtain ⟨v, hv, rfl⟩ := List.mem_map.mp hb
    obtain ⟨hv1, hv2⟩ := List.mem_filter.mp hv
    obtain ⟨x, hx, rfl⟩ := List.mem_map.mp hv1
    obtain ⟨j, w', e1, h2, h3⟩ := (way_nest B he hne).mp (List.mem_map_of_mem (f := Prod.fst) hx)
    have ht := of_decide_eq_true (p := (pre ++ x.1).take (pre.length + 1) = pre ++ [i]) hbt
    rw [e1, List.take_append, List.take_of_length_le (by omega : pre.length ≤ pre.length + 1), Nat.add_sub_cancel_left] at ht
    have hj : j = i := by
      have := List.append_cancel_left ht
      simpa using this
    subst hj
    exact ⟨w', h3, by rw [← e1]; exact hv2⟩
  · rintro ⟨w', h3, hw⟩
    have hm := (way_nest B he hne).mpr ⟨i, w', rfl, hi, h3⟩
    obtain ⟨x, hx, e1⟩ := List.mem_map.mp hm
    refine ⟨true, List.mem_map.mpr ⟨pre ++ i :: w', List.mem_filter.mpr ⟨List.mem_map.mpr ⟨x, hx, by rw [e1]⟩, hw⟩, ?_⟩, rfl⟩
    refine decide_eq_true ?_
    rw [List.take_append, List.take_of_length_le (by omega : pre.length ≤ pre.length + 1), Nat.add_sub_cancel_left]
    rfl
structure PRx (K : PySem.W.Frag) (mg : Str → Option Value) (C fLv fW f f2 f3 f4 f5 f6 f7 : Addr) : Prop where
  cl : Cls K C
  kind : Meth K C "kind" f2
  text : Meth K C "text" f3
  mem : Meth K C "members" f4
  notes : Meth K C "notes" f5
  cause : Meth K C "cause" f6
  atw : Meth K C "at_work" f7
  gL : mg "_law_leaves" = some (.ref fLv)
  kL : PySem.W.keepIn K (.ref fLv) = true
  gW : mg "_law_whole" = some (.ref fW)
  kW : PySem.W.keepIn K (.ref fW) = true
  gR : mg "_law_part_right" = some (.ref f)
  kR : PySem.W.keepIn K (.ref f) = true
  len : mg "len" = none
  range : mg "range" = none
  any : mg "any" = none
  zip : mg "zip" = none
  repr : mg "repr" = none
def spPRt (C CK : Addr) (d : Nat) : Sp := fun vs H Q _ => ∃ (ps : List (Str × Str)) (cap : Nat) (p l X : Addr) (tx : List Str) (D : LDA) (es xs : List Ent) (a Cd : Addr) (k many n : Nat) (pre : List Nat) (ws : List (List Nat)) (r : Option Nat) (Lf Df Nf : Nat → Nat), vs = [.ref D.q, .ref D.E, optV r, .int (k : Int), .ref a, .ref Cd, .int (many : Int)] ∧ Df k < d ∧
  ScB C CK ps cap p l X tx H D es xs ∧ Tree es Lf Df Nf ∧ k < es.length ∧ H a = some (.tup (memV pre)) ∧ pre.length + d ≤ 100 ∧ H Cd = some (.dT (chK ws)) ∧ PR es (es ++ xs) many n (fun w => decide (pre ++ w ∈ ws)) k r ∧ ∀ H', Keep [] H H' → Q (.bl true) H'
section
variable {P : Program} {w : World} {K : PySem.W.Frag} {mg : Str → Option Value} {base : Heap} {C CK fLv fW f2 f3 f4 f5 f6 f7 : Addr}
theorem pr0 {f : Addr} {fd : FuncData} {k : Nat} : FnG P w K mg base k f fd aPRt (spPRt C CK 0) :=
  ⟨fun vs H Q E h => by obtain ⟨_, _, _, _, _, _, _, _, _, _, _, _, _, _, _, _, _, _, _, _, _, h, _⟩ := h; omega, fun A outer s H us vs Q E _ _ _ _ _ h => by obtain ⟨_, _, _, _, _, _, _, _, _, _, _, _, _, _, _, _, _, _, _, _, _, h, _⟩ := h; omega⟩
theorem prS {f : Addr} {fd dLv dW d2 d3 d4 d5 d6 d7 : FuncData} (F : Fun K "_law_part_right" "_law_part_right" sPRt f fd) (T : PRx K mg C fLv fW f f2 f3 f4 f5 f6 f7) (bR : Binds K fd aPRt [])
    (FV : FnOk P w K mg base CX0 1 fLv dLv ["_law_faults_here", "_law_k"] spLvs) (bV : Binds K dLv ["_law_faults_here", "_law_k"] []) (FW : FnOk P w K mg base CX0 1 fW dW ["_law_thing"] spWhL) (bW : Binds K dW ["_law_thing"] [])
    (F2 : FnOk P w K mg base CX0 3 f2 d2 ["self", "k"] (spGet C fun e => .str e.kind)) (b2 : Binds K d2 ["self", "k"] []) (F3 : FnOk P w K mg base CX0 3 f3 d3 ["self", "k"] (spGet C fun e => .str e.text)) (b3 : Binds K d3 ["self", "k"] [])
    (F4 : FnOk P w K mg base CX0 3 f4 d4 ["self", "k"] (spGetL C fun e => memV e.mem)) (b4 : Binds K d4 ["self", "k"] []) (F5 : FnOk P w K mg base CX0 3 f5 d5 ["self", "k"] (spGetL C fun e => e.notes.map V.str)) (b5 : Binds K d5 ["self", "k"] [])
    (F6 : FnOk P w K mg base CX0 3 f6 d6 ["self", "k"] (spGet C fun e => optV e.cause)) (b6 : Binds K d6 ["self", "k"] []) (F7 : FnOk P w K mg base CX0 3 f7 d7 ["self", "k"] (spGet C fun e => optV e.atw)) (b7 : Binds K d7 ["self", "k"] [])
    {d : Nat} (FR : FnG P w K mg base (4 + d) f fd aPRt (spPRt C CK d)) : FnG P w K mg base (4 + d + 1) f fd aPRt (spPRt C CK (d + 1)) := by
  refine okG F scPRt (fun vs H Q E h => ?_) (fun cdv A0 outer s H vs Q Es hg hr h => ?_)
  · obtain ⟨ps, cap, p, l, X, tx, D, es, xs, a, Cd, k, many, n, pre, ws, r, Lf, Df, Nf, rfl, _⟩ := h
    rfl
  · obtain ⟨ps, cap, p, l, X, tx, D, es, xs, a, Cd, k, many, n, pre, ws, r, Lf, Df, Nf, rfl, hd, S, T', hk, ea, hpre, eC, pr, kk⟩ := h
    have hr1 : Room 1 _ := hr.mono (by omega)
    have hr3 : Room 3 _ := hr.mono (by omega)
    have hgX : (cxOf CX0 P w K mg base nPRt "_law_part_right" (defScope sPRt) f cdv A0 outer s H Es).nox.A.guards = some [] := hg
    have hu := hr.units
    have hu1 := hu_of hr
    refine ⟨_, pss_cons (ps_setLc (i := 7) (own := [("_law_way", 15), ("_law_number", 16)]) (g := gTup K 2 (gCons (gName 15) (gCons (gName 16) gNil))) (tt := tYes) (te := tOp (rCatA K) (tVar 4) (tVar 15)) rfl scPRt.nd rfl rfl (sw_true rfl rfl rfl (by decide +kernel)) (pi_list (pe_call FV hr1 rfl T.gL T.kL bV .nil pass0 (pa_cons (pv 1) (pa_cons (pv 3) pa_nil))))
          (blkOk_by (N := nPRt) (sc := defScope sPRt) (by decide +kernel)) (fun _ _ _ _ _ => by exact (pg_tup rfl (pgs_cons (pg_name (i := 15) scPRt.nd rfl (Or.inl rfl)) (pgs_cons (pg_name (i := 16) scPRt.nd rfl (Or.inl rfl)) pgs_nil)))) (fun _ _ _ _ _ => pts_nil) (fun _ _ _ _ _ => by exact (pe_op op_catA (pv 4) (pv 15))))
      (pss_cons (ps_set (i := 8) scPRt.nd rfl (Or.inr rfl) (pe_lc (own := [("_law_way", 15)]) (g := gName 15) (tt := tB (tDIn (tVar 15) (tVar 5))) (te := tVar 15) rfl scPRt.nd (pi_list (pv 7))
          (blkOk_by (N := nPRt) (sc := defScope sPRt) (by decide +kernel)) (fun _ _ _ _ _ => pg_name (i := 15) scPRt.nd rfl (Or.inl rfl)) (fun _ _ _ _ _ => by exact (pts_one (pt_cmp (pc_din hu1 (pv 15) (pv 5))))) (fun _ _ _ _ _ => pv 15)))
      (pss_cons (ps_if (pt_cmpR (op_eqD hu) (pv 8) (pe_lst pa_nil) (nomark _)) (pss_one (ps_ret (pe_cmpR op_isN (pv 2) pe_non (nomark _)))) pss_nil)
      (pss_cons (ps_if (pt_cmpR op_eq (pe_callB call_len_seq (by rfl) T.len PySem.boot_len (pa_cons (pv 8) pa_nil)) (pe_callB call_len_seq (by rfl) T.len PySem.boot_len (pa_cons (pv 7) pa_nil)) (nomark _)) (pss_one (ps_ret (pe_and (pe_call FW hr1 rfl T.gW T.kW bW .nil pass0 (pa_cons (pv 2) pa_nil)) (pe_one (pe_cmpR op_eq (pv 2) (pv 3) (nomark _)))))) pss_nil)
      (pss_cons (ps_if (PW.pt (pw_or (pt_not (pt_val (pe_call FW hr1 rfl T.gW T.kW bW .nil pass0 (pa_cons (pv 2) pa_nil)))) (pw_or (pt_cmpR op_lt (pv 2) (pv 6) (nomark _)) (pw_or1 (pt_cmpR op_ne (pe_meth (pv 0) T.cl T.kind F2 hr3 b2 .nil pass0 (pa_cons (pv 2) pa_nil)) pe_str (nomark _)))))) (pss_one (ps_ret pe_bl)) pss_nil)
      (pss_cons (ps_set (i := 9) scPRt.nd rfl (Or.inl rfl) (pe_lst (pa_cons (pe_meth (pv 0) T.cl T.text F3 hr3 b3 .nil pass0 (pa_cons (pv 2) pa_nil)) (pa_cons (pe_meth (pv 0) T.cl T.notes F5 hr3 b5 .nil pass0 (pa_cons (pv 2) pa_nil)) (pa_cons (pe_meth (pv 0) T.cl T.cause F6 hr3 b6 .nil pass0 (pa_cons (pv 2) pa_nil)) (pa_cons (pe_meth (pv 0) T.cl T.atw F7 hr3 b7 .nil pass0 (pa_cons (pv 2) pa_nil)) pa_nil))))))
      (pss_cons (ps_if (pt_cmpR op_ne (pe_callB (call_reprD hgX hu) (by rfl) T.repr (by decide +kernel) (pa_cons (pv 9) pa_nil)) (pe_callB (call_reprD hgX hu) (by rfl) T.repr (by decide +kernel) (pa_cons (pe_op op_cat (pe_lst (pa_cons (pe_ix ix_list (pe_ix ix_list (pv 1) (pv 3) (fun _ _ => rfl)) pe_int (fun _ _ => rfl)) pa_nil)) (pe_slice sl_list (pe_ix ix_list (pv 1) (pv 3) (fun _ _ => rfl)) (po_some pe_int) po_none)) pa_nil)) (nomark _)) (pss_one (ps_ret pe_bl)) pss_nil)
      (pss_cons (ps_set (i := 10) scPRt.nd rfl (Or.inr rfl) (pe_op op_add (pe_callB call_len_seq (by rfl) T.len PySem.boot_len (pa_cons (pv 4) pa_nil)) pe_int))
      (pss_cons (ps_setLc (i := 12) (own := [("_law_at", 11)]) (g := gName 11) (tt := tB (tCB (rAny K) (tCons (tLc (iList K (tVar 8)) (gName 15) tYes (tOp (rEqD K) (L2.tSl (rSlA K) (tVar 15) tNoPart (tPart (tVar 10))) (tOp (rCatA K) (tVar 4) (tTup (tCons (tVar 11) tNil)))) [15]) tNil))) (te := tVar 11) rfl scPRt.nd rfl rfl (sw_true rfl rfl rfl (by decide +kernel)) (pi_range1 rfl T.range (pa_cons (pe_callB call_len_seq (by rfl) T.len PySem.boot_len (pa_cons (pe_ix ix_list (pe_ix ix_list (pv 1) (pv 3) (fun _ _ => rfl)) pe_int (fun _ _ => rfl)) pa_nil)) pa_nil))
          (blkOk_by (N := nPRt) (sc := defScope sPRt) (by decide +kernel)) (fun _ _ _ _ _ => pg_name (i := 11) scPRt.nd rfl (Or.inr rfl)) (fun _ _ _ _ _ => by exact (pts_one (pt_val (pe_callB (cr_any rfl) (by rfl) T.any (by decide +kernel) (pa_cons (pe_lc (own := [("_law_way", 15)]) (g := gName 15) (tt := tYes) (te := tOp (rEqD K) (L2.tSl (rSlA K) (tVar 15) tNoPart (tPart (tVar 10))) (tOp (rCatA K) (tVar 4) (tTup (tCons (tVar 11) tNil)))) rfl scPRt.nd (pi_list (pv 8)) (blkOk_by (N := nPRt) (by kernel_rfl)) (fun _ _ _ _ _ => pg_name (i := 15) scPRt.nd rfl (Or.inl rfl)) (fun _ _ _ _ _ => pts_nil)
              (fun _ _ _ _ _ => by exact (pe_cmpR (op_eqD hu) (pe_slice sl_tupA (pv 15) po_none (po_some (pv 10))) (pe_op op_catA (pv 4) (pe_tup (pa_cons (pv 11) pa_nil))) (nomark _)))) pa_nil))))) (fun _ _ _ _ _ => pv 11))
      (pss_cons (ps_set (i := 13) scPRt.nd rfl (Or.inl rfl) (pe_meth (pv 0) T.cl T.mem F4 hr3 b4 .nil pass0 (pa_cons (pv 2) pa_nil)))
      (pss_cons (ps_if (pt_cmpR op_ne (pe_callB call_len_seq (by rfl) T.len PySem.boot_len (pa_cons (pv 13) pa_nil)) (pe_callB call_len_seq (by rfl) T.len PySem.boot_len (pa_cons (pv 12) pa_nil)) (nomark _)) (pss_one (ps_ret pe_bl)) pss_nil)
      (pss_cons (ps_for PassesOwn.never rfl (pi_zip rfl T.zip (pa_cons (pv 13) (pa_cons (pv 12) pa_nil))) (by exact (pg_tup rfl (pgs_cons (pg_name (i := 14) scPRt.nd rfl (Or.inl rfl)) (pgs_cons (pg_name (i := 11) scPRt.nd rfl (Or.inl rfl)) pgs_nil))))
        (pss_one (ps_if (pt_not (pt_val (pe_callG FR hgX hr rfl T.gR T.kR bR (pa_cons (pv 0) (pa_cons (pv 1) (pa_cons (pv 14) (pa_cons (pe_ix ix_list (pe_ix ix_list (pe_ix ix_list (pv 1) (pv 3) (fun _ _ => rfl)) pe_int (fun _ _ => rfl)) (pv 11) (fun _ _ => rfl)) (pa_cons (pe_op op_catA (pv 4) (pe_tup (pa_cons (pv 11) pa_nil))) (pa_cons (pv 5) (pa_cons (pv 6) pa_nil)))))))))) (pss_one (ps_ret pe_bl)) pss_nil)))
      (pss_one (ps_ret pe_bl))))))))))))), ?_⟩
    obtain ⟨f1, f2⟩ := T'.few k _ (List.getElem?_eq_getElem hk)
    have B0 := T'.back'
    have h101 : ∀ e ∈ es, e.mem.length ≤ 101 := fun e he => S.mem101 e (List.mem_append_left _ he)
    have lvl : (lvW es k).length = Lf k := lvW_len T' (k + 1) k (Nat.lt_succ_self _) hk
    have lvp : 1 ≤ Lf k := (T'.pos k k (Nat.le_refl _) hk).1
    have ldp : ∀ x ∈ lvW es k, x.1.length ≤ Df k := lvW_deep T' (k + 1) k (Nat.lt_succ_self _)
    have he := List.getElem?_eq_getElem hk
    generalize es[k] = e at he
    have hem := List.mem_of_getElem? he
    refine ⟨_, rfl, _, rfl, D.E, k, _, D.rs, es, Lf, Df, Nf, rfl, S.st.ent, S.st.rows, T', hk, h101, fun H1 F ts fs k1 hF eF wF lv => ?_⟩
    have efs := lv.ways T'
    subst efs
    refine ⟨F, rfl, ⟨_, SqL.of eF⟩, fun D1 hD1 => ?_⟩
    have hD10 : H D1 = none := Keep.free k1 hD1 nin0
    refine lc_list (K := K) (a := F) (xs := ts.map V.ref) (fun i G => Keep [] H1 G ∧ ∃ as : List Addr, G D1 = some (.lst (as.map V.ref)) ∧ TwsAt G as (((lvW es k).take i).map fun x => pre ++ x.1)) ⟨Keep.new hD1, [], upd_same, True.intro⟩ (fun i G _ hI => SqL.of (hI.1.at eF nin0)) (fun i x G hx hI => ?_) (fun G1 hI => ?_)
    · obtain ⟨kG, as, eD, wa⟩ := hI
      rw [List.getElem?_map] at hx
      obtain ⟨tj, htj, rfl⟩ := Option.map_eq_some_iff.mp hx
      have hil : i < (lvW es k).length := by rw [← wF.len]; exact (List.getElem?_eq_some_iff.mp htj).1
      have hfi := List.getElem?_eq_getElem hil
      generalize (lvW es k)[i] = y at hfi
      obtain ⟨t', ht', b, e1, e2⟩ := wF.at hfi
      rw [htj] at ht'
      cases ht'
      have tk : (lvW es k).take (i + 1) = (lvW es k).take i ++ [y] := by rw [List.take_add_one, hfi]; rfl
      have hy := ldp y (List.mem_of_getElem? hfi)
      refine ⟨tj, _, rfl, SqT.of (kG.at e1 nin0), rfl, _, _, rfl, _, _, rfl, rfl, rfl, tyes ?_⟩
      refine ⟨_, rfl, _, rfl, ?_⟩
      refine catA_one (kG.at (k1.at ea nin0) nin0) (kG.at e2 nin0) (by rw [List.length_map, List.length_map]; exact Nat.le_trans (by omega : _ ≤ 1000) (by decide)) fun c H3 k3 ec => ?_
      rw [memV_app] at ec
      have la : as.length ≤ 101 := by
        have h1 := wa.len
        rw [List.length_map, List.length_take] at h1
        omega
      have eD3 := k3.at eD nin0
      refine ⟨_, eD3, Nat.lt_of_le_of_lt (by rw [List.length_map]; omega : (as.map V.ref).length ≤ 1000) (by decide), (kG.trans k3).freshTo hD1, as ++ [c], by rw [upd_same, List.map_append]; rfl, ?_⟩
      rw [tk, List.map_append]
      have kD : ∀ a' xs, H3 a' = some (.tup xs) → (upd H3 D1 (.lst (as.map V.ref ++ [.ref c]))) a' = some (.tup xs) := fun a' xs q => by
        rw [upd_ne (ne_of q eD3 (fun z => by cases z))]; exact q
      exact (wa.map fun a' xs q => kD _ _ (k3.at q nin0)).snoc (kD _ _ ec)
    obtain ⟨kG1, as1, eD1, wa1⟩ := hI
    rw [List.length_map, wF.len, List.take_length] at wa1
    have k01 := k1.trans kG1
    have L1len : ((lvW es k).map fun x => pre ++ x.1).length = Lf k := by rw [List.length_map, lvl]
    refine ⟨_, rfl, D1, rfl, ⟨_, SqL.of eD1⟩, fun D2 hD2 => ?_⟩
    refine lc_list (K := K) (a := D1) (xs := as1.map V.ref) (fun i G => Keep [] G1 G ∧ ∃ as : List Addr, G D2 = some (.lst (as.map V.ref)) ∧ TwsAt G as ((((lvW es k).map fun x => pre ++ x.1).take i).filter fun v => decide (v ∈ ws))) ⟨Keep.new hD2, [], upd_same, True.intro⟩ (fun i G _ hI => SqL.of (hI.1.at eD1 nin0)) (fun i x G hx hI => ?_) (fun G2 hI => ?_)
    · obtain ⟨kG, as, eD, wa⟩ := hI
      rw [List.getElem?_map] at hx
      obtain ⟨tj, htj, rfl⟩ := Option.map_eq_some_iff.mp hx
      have hil : i < ((lvW es k).map fun x => pre ++ x.1).length := by rw [← wa1.len]; exact (List.getElem?_eq_some_iff.mp htj).1
      have hfi := List.getElem?_eq_getElem hil
      generalize ((lvW es k).map fun x => pre ++ x.1)[i] = y at hfi
      obtain ⟨t', ht', e1⟩ := wa1.at hfi
      rw [htj] at ht'
      cases ht'
      have tk : ((lvW es k).map fun x => pre ++ x.1).take (i + 1) = ((lvW es k).map fun x => pre ++ x.1).take i ++ [y] := by rw [List.take_add_one, hfi]; rfl
      have la : as.length ≤ 101 := by
        have h1 := wa.len
        have h2 := List.length_filter_le (fun v => decide (v ∈ ws)) (((lvW es k).map fun x => pre ++ x.1).take i)
        rw [List.length_take] at h2
        omega
      refine ⟨rfl, ?_⟩
      refine ⟨_, rfl, _, rfl, Cd, _, rfl, DGet.w ((k01.trans kG).at eC nin0) (kG.at e1 nin0), _, rfl, ?_⟩
      rw [chK_in]
      by_cases hin : y ∈ ws
      · rw [decide_eq_true hin]
        refine iteT ?_
        refine ⟨_, rfl, _, eD, Nat.lt_of_le_of_lt (by rw [List.length_map]; omega : (as.map V.ref).length ≤ 1000) (by decide), kG.freshTo hD2, as ++ [tj], by rw [upd_same, List.map_append]; rfl, ?_⟩
        rw [tk, List.filter_append, List.filter_cons, decide_eq_true hin]
        have kD : ∀ a' xs, G a' = some (.tup xs) → (upd G D2 (.lst (as.map V.ref ++ [.ref tj]))) a' = some (.tup xs) := fun a' xs q => by
          rw [upd_ne (ne_of q eD (fun z => by cases z))]; exact q
        exact (wa.map kD).snoc (kD _ _ (kG.at e1 nin0))
      · rw [decide_eq_false hin]
        refine iteF ?_
        refine ⟨kG, as, eD, ?_⟩
        rw [tk, List.filter_append, List.filter_cons, decide_eq_false hin]
        show TwsAt G as (_ ++ [])
        rw [List.append_nil]
        exact wa
    obtain ⟨kG2, as2, eD2, wa2⟩ := hI
    rw [List.length_map, wa1.len, List.take_length] at wa2
    have k02 := k01.trans kG2
    have eD12 := kG2.at eD1 nin0
    have l1 : as1.length = Lf k := by rw [wa1.len, L1len]
    have l2 := wa2.len
    have memL : ∀ {v : List Nat}, v ∈ ((lvW es k).map fun x => pre ++ x.1) ↔ ∃ w ∈ (lvW es k).map Prod.fst, v = pre ++ w := fun {v} => by
      constructor
      · intro h
        obtain ⟨x, hx, rfl⟩ := List.mem_map.mp h
        exact ⟨x.1, List.mem_map_of_mem hx, rfl⟩
      · rintro ⟨w, hw, rfl⟩
        obtain ⟨x, hx, rfl⟩ := List.mem_map.mp hw
        exact List.mem_map_of_mem (f := fun x : WH => pre ++ x.1) hx
    refine ⟨_, rfl, Nat.zero_le _, fun e2 he2 => ?_⟩
    have k3 : Keep [] G2 (upd G2 e2 (.lst [])) := Keep.new he2
    have a3 : (upd G2 e2 (.lst [])) e2 = some (.lst []) := upd_same
    generalize (upd G2 e2 (.lst [])) = G3 at k3 a3 ⊢
    have k03 := k02.trans k3
    have eD13 := k3.at eD12 nin0
    have eD23 := k3.at eD2 nin0
    have wa23 := wa2.map fun a xs q => k3.at q nin0
    refine ⟨twsD (((lvW es k).map fun x => pre ++ x.1).filter fun v => decide (v ∈ ws)), twsD [], .lst (SqL.of eD23) wa23.dp, .lst (SqL.of a3) .nil, tws_shaped _, tws_shaped _, _, rfl, ?_⟩
    rw [tws_nil]
    cases n with
    | zero => exact pr.elim
    | succ n =>
    obtain ⟨e', he', pr⟩ := pr
    rw [he] at he'
    cases he'
    have Lne : ((lvW es k).map fun x => pre ++ x.1) ≠ [] := fun h => by rw [h] at L1len; simp at L1len; omega
    rcases pr with (⟨pr, rfl⟩ | ⟨pr, rfl⟩) | ⟨⟨w1, hw1, hc1⟩, ⟨w2, hw2, hc2⟩, f', e'', rfl, hmany, hf, ⟨q1, q2, q3, q4, q5⟩, hlen, hsub⟩
    · have z : (((lvW es k).map fun x => pre ++ x.1).filter fun v => decide (v ∈ ws)) = [] := List.filter_eq_nil_iff.mpr fun v hv => by
        obtain ⟨w, hw, rfl⟩ := memL.mp hv
        have h2 : decide (pre ++ w ∈ ws) = false := pr w hw
        rw [h2]
        exact Bool.false_ne_true
      rw [z]
      refine iteT ⟨_, rfl, rfl, ?_⟩
      exact kk G3 k03
    · have z : (((lvW es k).map fun x => pre ++ x.1).filter fun v => decide (v ∈ ws)) = ((lvW es k).map fun x => pre ++ x.1) := List.filter_eq_self.mpr fun v hv => by
        obtain ⟨w, hw, rfl⟩ := memL.mp hv
        exact pr w hw
      rw [z] at l2 ⊢
      rw [show ((lvW es k).map fun x => pre ++ x.1).isEmpty = false from by cases q : ((lvW es k).map fun x => pre ++ x.1) with | nil => exact absurd q Lne | cons x r => rfl]
      refine iteF ?_
      refine ⟨_, rfl, D2, _, rfl, .inl (SqL.of eD23), _, rfl, D1, _, rfl, .inl (SqL.of eD13), rfl, _, rfl, ?_⟩
      rw [List.length_map, List.length_map, l2, l1, L1len, decide_eq_true rfl]
      refine iteT ?_
      refine ⟨_, rfl, some k, rfl, true, rfl, iteT ⟨_, rfl, _, rfl, rfl, ?_⟩⟩
      show Q (.bl (decide (optV (some k) = V.int (k : Int)))) G3
      rw [decide_eq_true (show optV (some k) = V.int (k : Int) from rfl)]
      exact kk G3 k03
    · have z1 : (((lvW es k).map fun x => pre ++ x.1).filter fun v => decide (v ∈ ws)) ≠ [] := fun h => by
        have := List.filter_eq_nil_iff.mp h (pre ++ w1) (memL.mpr ⟨w1, hw1, rfl⟩)
        exact this hc1
      have z2 : (((lvW es k).map fun x => pre ++ x.1).filter fun v => decide (v ∈ ws)).length ≠ Lf k := fun h => by
        have h2 := List.filter_eq_self.mp (List.Sublist.eq_of_length List.filter_sublist (by rw [h, L1len])) (pre ++ w2) (memL.mpr ⟨w2, hw2, rfl⟩)
        have hc2' : decide (pre ++ w2 ∈ ws) = false := hc2
        rw [hc2'] at h2
        cases h2
      have hne : e.mem ≠ [] := fun h => by
        rw [lvW_leaf he h] at hw1 hw2
        have e1 : w1 = [] := by simpa using hw1
        have e2 : w2 = [] := by simpa using hw2
        rw [e1] at hc1; rw [e2] at hc2
        have hc1 : decide (pre ++ [] ∈ ws) = true := hc1
        have hc2 : decide (pre ++ [] ∈ ws) = false := hc2
        rw [hc1] at hc2; cases hc2
      have hany := fun {i : Nat} (hi : i < e.mem.length) => plcs_any (pre := pre) (ws := ws) B0 he hne hi
      rw [show (((lvW es k).map fun x => pre ++ x.1).filter fun v => decide (v ∈ ws)).isEmpty = false from by cases q : (((lvW es k).map fun x => pre ++ x.1).filter fun v => decide (v ∈ ws)) with | nil => exact absurd q z1 | cons x r => rfl]
      generalize hsel : (((lvW es k).map fun x => pre ++ x.1).filter fun v => decide (v ∈ ws)) = sel at l2 z1 z2 hany wa23
      have selL : ∀ v ∈ sel, pre.length + 1 ≤ v.length ∧ v.length ≤ pre.length + 15 := fun v hv => by
        rw [← hsel] at hv
        obtain ⟨w, hw, rfl⟩ := memL.mp (List.mem_filter.mp hv).1
        obtain ⟨i, w', rfl, _, _⟩ := (way_nest B0 he hne).mp hw
        obtain ⟨x, hx, ex⟩ := List.mem_map.mp hw
        have := ldp x hx
        rw [ex] at this
        rw [List.length_append]
        rw [List.length_cons] at this ⊢
        omega
      refine iteF ?_
      refine ⟨_, rfl, D2, _, rfl, .inl (SqL.of eD23), _, rfl, D1, _, rfl, .inl (SqL.of eD13), rfl, _, rfl, ?_⟩
      rw [List.length_map, List.length_map, l2, l1, decide_eq_false (fun h => z2 (by have := V.int.inj h; omega))]
      refine iteF ?_
      have S3 := S.keep0 k03
      refine ⟨_, rfl, some f', rfl, true, rfl, iteF ?_⟩
      refine ⟨_, rfl, _, rfl, _, _, rfl, rfl, _, rfl, ?_⟩
      rw [decide_eq_false (by omega)]
      refine iteF ?_
      refine ⟨_, rfl, D.q, D.A.dx, _, rfl, S3.st.led.ins, flg2 D.A, _, rfl, D.q, D.A, D.ms, D.ns, es ++ xs, f', e'', rfl, S3.st.led, hf, rfl, _, rfl, ?_⟩
      refine iteNS (congrArg V.str q1) ?_
      -- text, notes, cause, at work
      refine ⟨_, rfl, D.q, D.A.dx, _, rfl, S3.st.led.ins, flg3 D.A, _, rfl, D.q, D.A, D.ms, D.ns, es ++ xs, f', e'', rfl, S3.st.led, hf, ?_⟩
      refine ⟨_, rfl, D.q, D.A.dx, _, rfl, S3.st.led.ins, flg5 D.A, _, rfl, D.q, D.A, D.ms, D.ns, es ++ xs, f', e'', rfl, S3.st.led, hf, fun nl hnl => ?_⟩
      have k4 : Keep [] G3 (upd G3 nl (.lst (e''.notes.map V.str))) := Keep.new hnl
      have a4 : (upd G3 nl (.lst (e''.notes.map V.str))) nl = some (.lst (e''.notes.map V.str)) := upd_same
      generalize (upd G3 nl (.lst (e''.notes.map V.str))) = G4 at k4 a4 ⊢
      have S4 := S3.keep0 k4
      refine ⟨_, rfl, D.q, D.A.dx, _, rfl, S4.st.led.ins, flg6 D.A, _, rfl, D.q, D.A, D.ms, D.ns, es ++ xs, f', e'', rfl, S4.st.led, hf, ?_⟩
      refine ⟨_, rfl, D.q, D.A.dx, _, rfl, S4.st.led.ins, flg7 D.A, _, rfl, D.q, D.A, D.ms, D.ns, es ++ xs, f', e'', rfl, S4.st.led, hf, ?_⟩
      refine ⟨(by show 4 ≤ sizeLine; decide), fun Lt hLt => ?_⟩
      have k5 : Keep [] G4 (upd G4 Lt (.lst [.str e''.text, .ref nl, optV e''.cause, optV e''.atw])) := Keep.new hLt
      have a5 : (upd G4 Lt (.lst [.str e''.text, .ref nl, optV e''.cause, optV e''.atw])) Lt = some (.lst [.str e''.text, .ref nl, optV e''.cause, optV e''.atw]) := upd_same
      generalize (upd G4 Lt (.lst [.str e''.text, .ref nl, optV e''.cause, optV e''.atw])) = G5 at k5 a5 ⊢
      rw [q2, q3, q4, q5] at *
      have k05 := (k03.trans k4).trans k5
      have S5 := S.keep0 k05
      have elen := S.len
      obtain ⟨o1, o2, o3, o4⟩ := like_ok (S.st.sm e hem).1 (by omega)
      obtain ⟨r', hq, m, n', g1, g2, g3, g4, g5, g6⟩ := S5.st.rows.at he
      refine ⟨_, rfl, Lt, likeD e, rfl, .lst (SqL.of a5) (.cons (.str _) (.cons (.lst (SqL.of (k5.at a4 nin0)) (dp_strs _)) (.cons (dp_opt _) (.cons (dp_opt _) .nil)))), o1, o2, o3, o4, ?_⟩
      refine ⟨_, rfl, _, rfl, D.E, _, _, V.ref r', rfl, rfl, SqL.of S5.st.ent, atI_nat (by rw [List.getElem?_map, hq]; rfl), r', _, 1, .str e.text, rfl, rfl, SqL.of g4, rfl, (by show 1 ≤ sizeLine; decide), fun La hLa => ?_⟩
      have k6 : Keep [] G5 (upd G5 La (.lst [.str e.text])) := Keep.new hLa
      have a6 : (upd G5 La (.lst [.str e.text])) La = some (.lst [.str e.text]) := upd_same
      generalize (upd G5 La (.lst [.str e.text])) = G6 at k6 a6 ⊢
      refine ⟨_, rfl, _, rfl, D.E, _, _, V.ref r', rfl, rfl, SqL.of (k6.at S5.st.ent nin0), atI_nat (by rw [List.getElem?_map, hq]; rfl), _, rfl, ?_⟩
      dsimp only [tNoPart]
      refine ⟨r', _, rfl, SqL.of (k6.at g4 nin0), fun Lb hLb => ?_⟩
      have ecut : cutV [V.str e.kind, .str e.text, .ref m, .ref n', optV e.cause, optV e.atw] (some 3) none = [.ref n', optV e.cause, optV e.atw] := rfl
      rw [ecut]
      have k7 : Keep [] G6 (upd G6 Lb (.lst [.ref n', optV e.cause, optV e.atw])) := Keep.new hLb
      have a7 : (upd G6 Lb (.lst [.ref n', optV e.cause, optV e.atw])) Lb = some (.lst [.ref n', optV e.cause, optV e.atw]) := upd_same
      generalize (upd G6 Lb (.lst [.ref n', optV e.cause, optV e.atw])) = G7 at k7 a7 ⊢
      refine ⟨La, Lb, _, _, rfl, rfl, k7.at a6 nin0, a7, (by show 4 ≤ sizeLine; decide), fun Lc hLc => ?_⟩
      have k8 : Keep [] G7 (upd G7 Lc (.lst ([V.str e.text] ++ [.ref n', optV e.cause, optV e.atw]))) := Keep.new hLc
      have a8 : (upd G7 Lc (.lst ([V.str e.text] ++ [.ref n', optV e.cause, optV e.atw]))) Lc = some (.lst [.str e.text, .ref n', optV e.cause, optV e.atw]) := upd_same
      generalize (upd G7 Lc (.lst ([V.str e.text] ++ [.ref n', optV e.cause, optV e.atw]))) = G8 at k8 a8 ⊢
      have k58 := (k6.trans k7).trans k8
      refine ⟨Lc, likeD e, rfl, .lst (SqL.of a8) (.cons (.str _) (.cons (.lst (SqL.of (k58.at g6 nin0)) (dp_strs _)) (.cons (dp_opt _) (.cons (dp_opt _) .nil)))), o1, o2, o3, o4, rfl, _, rfl, ?_⟩
      refine iteNS rfl ?_
      have k08 := k05.trans k58
      have ea8 := k08.at ea nin0
      refine ⟨_, rfl, a, _, rfl, .inr (SqT.of ea8), _, _, rfl, rfl, ?_⟩
      have esz : (((memV pre).length : Int) + 1) = ((pre.length + 1 : Nat) : Int) := by rw [List.length_map]; omega
      change gName 10 (V.int (((memV pre).length : Int) + 1)) _ G8 _
      rw [esz]
      have S8 := S.keep0 k08
      have g48 := k58.at g4 nin0
      have g58 := k58.at g5 nin0
      have lme := h101 e hem
      have k38 : Keep [] G3 G8 := ((k4.trans k5).trans k58)
      have eD28 := k38.at eD23 nin0
      have wa28 := wa23.map fun a xs q => k38.at q nin0
      have lsel : sel.length ≤ 101 := by
        rw [← hsel]
        have := List.length_filter_le (fun v => decide (v ∈ ws)) ((lvW es k).map fun x => pre ++ x.1)
        omega
      refine ⟨_, rfl, _, rfl, D.E, _, _, V.ref r', rfl, rfl, SqL.of S8.st.ent, atI_nat (by rw [List.getElem?_map, hq]; rfl), r', _, 2, .ref m, rfl, rfl, SqL.of g48, rfl, m, _, rfl, .inl (SqL.of g58), _, rfl, by rw [List.length_map]; omega, by rw [List.length_map]; omega, fun D3 hD3 => ?_⟩
      rw [Int.toNat_natCast, List.length_map]
      refine lc_range (lo := 0) (n := e.mem.length) (fun i G => Keep [] G8 G ∧ G D3 = some (.lst (memV ((List.range i).filter fun i => ((lvW es (e.mem.getD i 0)).map Prod.fst).any fun w => decide (pre ++ i :: w ∈ ws))))) ⟨Keep.new hD3, upd_same⟩ ?_ ?_
      · rintro i G hi ⟨kG, eD⟩
        have z0 : (0 : Int) + (i : Int) = (i : Int) := Int.zero_add _
        rw [z0]
        refine ⟨rfl, ?_⟩
        refine ⟨_, rfl, D2, rfl, ⟨_, SqL.of (kG.at eD28 nin0)⟩, fun D4 hD4 => ?_⟩
        refine lc_list (K := K) (a := D2) (xs := as2.map V.ref) (fun j G' => Keep [] G G' ∧ G' D4 = some (.lst (((sel.take j).map fun v => decide (v.take (pre.length + 1) = pre ++ [i])).map V.bl))) ⟨Keep.new hD4, upd_same⟩ (fun j G' _ hI => SqL.of ((kG.trans hI.1).at eD28 nin0)) (fun j x G' hx hI => ?_) (fun G' hI => ?_)
        · obtain ⟨kG', eD4⟩ := hI
          rw [List.getElem?_map] at hx
          obtain ⟨tj, htj, rfl⟩ := Option.map_eq_some_iff.mp hx
          have hjl : j < sel.length := by rw [← l2]; exact (List.getElem?_eq_some_iff.mp htj).1
          have hfj := List.getElem?_eq_getElem hjl
          generalize sel[j] = v at hfj
          obtain ⟨t', ht', e1⟩ := wa28.at hfj
          rw [htj] at ht'
          cases ht'
          have tk : sel.take (j + 1) = sel.take j ++ [v] := by rw [List.take_add_one, hfj]; rfl
          obtain ⟨v1, v2⟩ := selL v (List.mem_of_getElem? hfj)
          refine ⟨rfl, tyes ?_⟩
          refine ⟨_, rfl, ?_⟩
          dsimp only [tNoPart]
          refine ⟨_, rfl, _, rfl, ?_⟩
          refine slA_one ((kG.trans kG').at e1 nin0) fun c G5' k5' ec => ?_
          rw [cut_to (by rw [List.length_map]; omega), memV_take] at ec
          refine ⟨_, rfl, _, rfl, (by show 1 ≤ sizeLine; decide), fun tb htb => ?_⟩
          have kb : Keep [] G5' (upd G5' tb (.tup [.int (i : Int)])) := Keep.new htb
          refine catA_one (kb.at (k5'.at ((kG.trans kG').at ea8 nin0) nin0) nin0) upd_same (by rw [List.length_map]; exact Nat.le_trans (by show pre.length + 1 ≤ 1000; omega) (by decide)) fun c2 G6' k6' ec2 => ?_
          have ec2 : G6' c2 = some (.tup (memV (pre ++ [i]))) := by rw [ec2]; unfold memV; rw [List.map_append]; rfl
          have k56 := kb.trans k6'
          refine ⟨wayT (v.take (pre.length + 1)), wayT (pre ++ [i]), dp_wayT (k56.at ec nin0), dp_wayT ec2, way_shaped _, way_shaped _, ?_⟩
          rw [way_eqv]
          have eD4' := (k5'.trans k56).at eD4 nin0
          refine ⟨_, eD4', Nat.lt_of_le_of_lt (by rw [List.length_map, List.length_map, List.length_take]; omega : _ ≤ 1000) (by decide), (kG'.trans (k5'.trans k56)).freshTo hD4, ?_⟩
          rw [upd_same, tk, List.map_append, List.map_append]; rfl
        · obtain ⟨kG', eD4⟩ := hI
          rw [List.length_map, l2, List.take_length] at eD4
          refine ⟨D4, _, rfl, SqL.of eD4, _, rfl, ?_⟩
          rw [hany hi]
          have rs : (List.range (i + 1)) = List.range i ++ [i] := List.range_succ
          have kGG := kG.trans kG'
          have eD' := kG'.at eD nin0
          cases hb : (((lvW es (e.mem.getD i 0)).map Prod.fst).any fun w => decide (pre ++ i :: w ∈ ws)) with
          | true =>
            refine iteT ⟨_, rfl, _, eD', Nat.lt_of_le_of_lt (by
              rw [List.length_map]
              have := List.length_filter_le (fun i => ((lvW es (e.mem.getD i 0)).map Prod.fst).any fun w => decide (pre ++ i :: w ∈ ws)) (List.range i)
              rw [List.length_range] at this
              omega : _ ≤ 1000) (by decide), kGG.freshTo hD3, ?_⟩
            rw [upd_same, rs, List.filter_append, List.filter_cons, hb]
            unfold memV
            rw [List.map_append]; rfl
          | false =>
            refine iteF ⟨kGG, ?_⟩
            rw [eD', rs, List.filter_append, List.filter_cons, hb]
            show _ = some (HO.lst (memV (_ ++ [])))
            rw [List.append_nil]
      · rintro G9 ⟨k9, eD3⟩
        have eP : ((List.range e.mem.length).filter fun i => ((lvW es (e.mem.getD i 0)).map Prod.fst).any fun w => decide (pre ++ i :: w ∈ ws)) = plcs es (fun w => decide (pre ++ w ∈ ws)) e := rfl
        rw [eP] at eD3
        have Pl : ∀ i ∈ plcs es (fun w => decide (pre ++ w ∈ ws)) e, i < e.mem.length := fun i hi => (plcs_in.mp hi).1
        generalize plcs es (fun w => decide (pre ++ w ∈ ws)) e = Ps at eD3 hlen hsub Pl
        have k09 := k08.trans k9
        have S9 := S.keep0 k09
        refine ⟨_, rfl, D.q, D.A.dx, _, rfl, S9.st.led.ins, flg4 D.A, _, rfl, D.q, D.A, D.ms, D.ns, es ++ xs, f', e'', rfl, S9.st.led, hf, fun Li hLi => ?_⟩
        have k10 : Keep [] G9 (upd G9 Li (.lst (memV e''.mem))) := Keep.new hLi
        have a10 : (upd G9 Li (.lst (memV e''.mem))) Li = some (.lst (memV e''.mem)) := upd_same
        generalize (upd G9 Li (.lst (memV e''.mem))) = G10 at k10 a10 ⊢
        have eD310 := k10.at eD3 nin0
        refine ⟨_, rfl, Li, _, rfl, .inl (SqL.of a10), _, rfl, D3, _, rfl, .inl (SqL.of eD310), rfl, _, rfl, ?_⟩
        rw [List.length_map, List.length_map, hlen]
        refine iteNS rfl ?_
        have k010 := k09.trans k10
        refine ⟨_, rfl, _, rfl, Li, D3, _, _, rfl, SqL.of a10, SqL.of eD310, ?_⟩
        refine RZ.for_zipL (xs := memV e''.mem) (ys := memV Ps) (by rw [List.length_map, List.length_map, hlen]) (fun j σ G => ∃ v11 v14 : Option V, σ = [some (.ref D.q), some (.ref D.E), some (optV (some f')), some (.int (k : Int)), some (.ref a), some (.ref Cd), some (.int (many : Int)), some (.ref D1), some (.ref D2), some (.ref Lt), some (.int ((pre.length + 1 : Nat) : Int)), v11, some (.ref D3), some (.ref Li), v14, none, none] ∧ Keep [] G10 G)
          ⟨none, none, rfl, Keep.refl _ _⟩ ?_ ?_ ?_
        · rintro j σ G ⟨v11, v14, rfl, kG⟩
          exact ⟨SqL.of (kG.at a10 nin0), SqL.of (kG.at eD310 nin0)⟩
        · rintro j x y Tz σ G hx hy ⟨v11, v14, rfl, kG⟩ hT
          rw [List.getElem?_map] at hx hy
          obtain ⟨m', hm', rfl⟩ := Option.map_eq_some_iff.mp hx
          obtain ⟨i, hi, rfl⟩ := Option.map_eq_some_iff.mp hy
          have hil := Pl i (List.mem_of_getElem? hi)
          have hk' := getD_mem hil
          have hmi := List.getElem?_eq_getElem hil
          have hgd : e.mem.getD i 0 = e.mem[i] := by rw [List.getD_eq_getElem?_getD, hmi]; rfl
          have hsub' := hsub j i m' hi hm'
          rw [hgd] at hsub' hk'
          generalize e.mem[i] = k' at hmi hk' hsub'
          have hkl := T'.back k e he k' hk'
          have hdk := (T'.nest k e he hne).2.2.1 k' hk'
          have kT := kG.newTo hT (o := .tup [.int (m' : Int), .int (i : Int)])
          refine ⟨Tz, _, rfl, SqT.of upd_same, rfl, _, _, rfl, _, _, rfl, rfl, ?_⟩
          generalize (upd G Tz (.tup [.int (m' : Int), .int (i : Int)])) = G11 at kT ⊢
          have k8T := (k9.trans k10).trans kT
          have k0T := k08.trans k8T
          have ST := S.keep0 k0T
          refine ⟨_, rfl, _, rfl, _, rfl, _, rfl, _, rfl, D.E, _, _, V.ref r', rfl, rfl, SqL.of ST.st.ent, atI_nat (by rw [List.getElem?_map, hq]; rfl), r', _, 2, .ref m, rfl, rfl, SqL.of (k8T.at g48 nin0), rfl, _, rfl, m, _, _, .int (k' : Int), rfl, rfl, SqL.of (k8T.at g58 nin0), atI_nat (by rw [List.getElem?_map, hmi]; rfl), ?_⟩
          refine ⟨_, rfl, _, rfl, (by show 1 ≤ sizeLine; decide), fun tb htb => ?_⟩
          have kb : Keep [] G11 (upd G11 tb (.tup [.int (i : Int)])) := Keep.new htb
          refine catA_one (kb.at (k0T.at ea nin0) nin0) upd_same (by rw [List.length_map]; exact Nat.le_trans (by show pre.length + 1 ≤ 1000; omega) (by decide)) fun c2 G12 k12 ec2 => ?_
          have ec2 : G12 c2 = some (.tup (memV (pre ++ [i]))) := by rw [ec2]; unfold memV; rw [List.map_append]; rfl
          have kb12 := kb.trans k12
          have epre : (fun w => decide ((pre ++ [i]) ++ w ∈ ws)) = fun w => decide (pre ++ i :: w ∈ ws) := funext fun w => by rw [List.append_assoc]; rfl
          refine ⟨_, rfl, _, rfl, ps, cap, p, l, X, tx, D, es, xs, c2, Cd, k', many, n, pre ++ [i], ws, some m', Lf, Df, Nf, rfl, by omega, ST.keep0 kb12, T', by omega, ec2, by rw [List.length_append]; show pre.length + 1 + d ≤ 100; omega, kb12.at (k0T.at eC nin0) nin0, by rw [epre]; exact hsub', fun G13 k13 => ⟨_, rfl, iteF ?_⟩⟩
          exact ⟨_, _, rfl, (kT.trans kb12).trans k13⟩
        · rintro σ G ⟨v11, v14, rfl, kG⟩
          exact kk G (k010.trans kG)
theorem ok_prt {f : Addr} {fd dLv dW d2 d3 d4 d5 d6 d7 : FuncData} (F : Fun K "_law_part_right" "_law_part_right" sPRt f fd) (T : PRx K mg C fLv fW f f2 f3 f4 f5 f6 f7) (bR : Binds K fd aPRt [])
    (FV : FnOk P w K mg base CX0 1 fLv dLv ["_law_faults_here", "_law_k"] spLvs) (bV : Binds K dLv ["_law_faults_here", "_law_k"] []) (FW : FnOk P w K mg base CX0 1 fW dW ["_law_thing"] spWhL) (bW : Binds K dW ["_law_thing"] [])
    (F2 : FnOk P w K mg base CX0 3 f2 d2 ["self", "k"] (spGet C fun e => .str e.kind)) (b2 : Binds K d2 ["self", "k"] []) (F3 : FnOk P w K mg base CX0 3 f3 d3 ["self", "k"] (spGet C fun e => .str e.text)) (b3 : Binds K d3 ["self", "k"] [])
    (F4 : FnOk P w K mg base CX0 3 f4 d4 ["self", "k"] (spGetL C fun e => memV e.mem)) (b4 : Binds K d4 ["self", "k"] []) (F5 : FnOk P w K mg base CX0 3 f5 d5 ["self", "k"] (spGetL C fun e => e.notes.map V.str)) (b5 : Binds K d5 ["self", "k"] [])
    (F6 : FnOk P w K mg base CX0 3 f6 d6 ["self", "k"] (spGet C fun e => optV e.cause)) (b6 : Binds K d6 ["self", "k"] []) (F7 : FnOk P w K mg base CX0 3 f7 d7 ["self", "k"] (spGet C fun e => optV e.atw)) (b7 : Binds K d7 ["self", "k"] []) : ∀ d : Nat, FnG P w K mg base (4 + d) f fd aPRt (spPRt C CK d)
  | 0 => pr0
  | d + 1 => prS F T bR FV bV FW bW F2 b2 F3 b3 F4 b4 F5 b5 F6 b6 F7 b7 (ok_prt F T bR FV bV FW bW F2 b2 F3 b3 F4 b4 F5 b5 F6 b6 F7 b7 d)
end
end Fs
/-! The law: which leaves go where, by dicts of ways. -/
namespace Fs
open PySem L2 TL
abbrev sShr : Stmt := top 54 --def _law_shares
abbrev aShr : List Str := ["_law_pairs", "_law_faults_here", "_law_k", "_law_tests_here"]
abbrev nShr : List Str := ["_law_pairs", "_law_faults_here", "_law_k", "_law_tests_here", "_law_shares_here", "_law_way", "_law_number", "_law_at", "_law_turn"]
theorem scShr : FnScope nShr aShr (defScope sShr) := ⟨rfl, rfl, rfl, by decide +kernel, rfl, by decide +kernel, by decide +kernel⟩
/-- dicts of ways -/
def ShAt (G : Hp) (ds : List Addr) (f : Nat → List (List Nat)) : Prop := ∀ (j : Nat) (d : Addr), ds[j]? = some d → G d = some (.dT (chK (f j)))
theorem ShAt.put {G : Hp} {ds : List Addr} {f g : Nat → List (List Nat)} {j : Nat} {d : Addr} {w : List Nat} (nd : ds.Nodup) (h : ShAt G ds f) (hd : ds[j]? = some d) (hg : ∀ i, g i = if i = j then f i ++ [w] else f i) (hw : w ∉ f j) : ShAt (upd G d (.dT (putK (chK (f j)) (keyW w) (V.bl true)))) ds g := fun i a ha => by
  rw [hg]
  by_cases z : i = j
  · subst z
    rw [hd] at ha
    cases ha
    rw [if_pos rfl, upd_same, chK_put hw]
  · rw [if_neg z]
    have ne : a ≠ d := fun q => by
      subst q
      have h1 := (List.getElem?_eq_some_iff.mp ha).1
      exact z ((List.getElem?_inj h1 nd).mp (by rw [ha, hd]))
    rw [upd_ne ne]
    exact h i a ha
def spShr (C CK : Addr) : Sp := fun vs H Q _ => ∃ (ps : List (Str × Str)) (cap : Nat) (p l X L : Addr) (tx : List Str) (D : LDA) (es xs : List Ent) (k : Nat) (zs : List (Ts × V)), vs = [.ref l, .ref D.E, .int (k : Int), .ref L] ∧ ScB C CK ps cap p l X tx H D es xs ∧ k < es.length ∧ TssAt ps 9 H L zs ∧ zs.length ≤ 100 ∧
  ∀ (H' : Hp) (Sh : Addr) (ds : List Addr), Keep [] H H' → H Sh = none → H' Sh = some (.lst (ds.map V.ref)) → ds.length = zs.length + 1 → (∀ d ∈ ds, H d = none) → ds.Nodup → ShAt H' ds (bagW ps es zs k) → Q (.ref Sh) H'
section
variable {P : Program} {w : World} {K : PySem.W.Frag} {mg : Str → Option Value} {base : Heap} {C CK fLv fFit : Addr}
theorem ok_shr {f : Addr} {fd dL dF : FuncData} (F : Fun K "_law_shares" "_law_shares" sShr f fd) (FL : FnOk P w K mg base CX0 1 fLv dL ["_law_faults_here", "_law_k"] spLvs) (gL : mg "_law_leaves" = some (.ref fLv)) (kL : PySem.W.keepIn K (.ref fLv) = true) (bL : Binds K dL ["_law_faults_here", "_law_k"] [])
    (FF : FnOk P w K mg base CX0 12 fFit dF aFit (spFit 10)) (gF : mg "_law_fits" = some (.ref fFit)) (kF : PySem.W.keepIn K (.ref fFit) = true) (bF : Binds K dF aFit []) (mL : mg "len" = none) (mR : mg "range" = none) : FnOk P w K mg base CX0 13 f fd aShr (spShr C CK) := by
  refine F.ok scShr (fun vs H Q E h => ?_) (fun cdv A0 outer s H vs Q Es hr h => ?_)
  · obtain ⟨ps, cap, p, l, X, L, tx, D, es, xs, k, zs, rfl, _⟩ := h
    rfl
  · obtain ⟨ps, cap, p, l, X, L, tx, D, es, xs, k, zs, rfl, S, hk, tz, hz, kk⟩ := h
    have hr1 : Room 1 _ := hr.mono (by decide)
    have hu1 := hu_of hr
    refine ⟨_, pss_cons (ps_setLc (i := 4) (own := [("_law_turn", 8)]) (g := gName 8) (tt := tYes) (te := tDNewT) rfl scShr.nd rfl rfl (sw_true rfl rfl rfl (by decide +kernel)) (pi_range1 rfl mR (pa_cons (pe_op op_add (pe_callB call_len_seq (by rfl) mL PySem.boot_len (pa_cons (pv 3) pa_nil)) pe_int) pa_nil))
          (blkOk_by (N := nShr) (sc := defScope sShr) (by decide +kernel)) (fun _ _ _ _ _ => pg_name (i := 8) scShr.nd rfl (Or.inl rfl)) (fun _ _ _ _ _ => pts_nil) (fun _ _ _ _ _ => by exact pe_dnewT))
      (pss_cons (ps_for PassesOwn.never rfl (pi_list (pe_call FL hr1 rfl gL kL bL .nil pass0 (pa_cons (pv 1) (pa_cons (pv 2) pa_nil)))) (by exact (pg_tup rfl (pgs_cons (pg_name (i := 5) scShr.nd rfl (Or.inl rfl)) (pgs_cons (pg_name (i := 6) scShr.nd rfl (Or.inl rfl)) pgs_nil))))
        (pss_cons (ps_set (i := 7) scShr.nd rfl (Or.inl rfl) pe_int)
        (pss_cons (ps_while PassesOwn.never (PW.pt (pw_and (pt_cmpR op_lt (pv 7) (pe_callB call_len_seq (by rfl) mL PySem.boot_len (pa_cons (pv 3) pa_nil)) (nomark _)) (pw_and1 (pt_not (pt_val (pe_call FF hr rfl gF kF bF .nil pass0 (pa_cons (pv 0) (pa_cons (pe_ix ix_list (pv 1) (pv 6) (fun _ _ => rfl)) (pa_cons (pe_ix ix_list (pv 3) (pv 7) (fun _ _ => rfl)) pa_nil)))))))))
          (pss_one (ps_set (i := 7) scShr.nd rfl (Or.inl rfl) (pe_op op_add (pv 7) pe_int))))
        (pss_one (ps_dput hu1 (pe_ix ix_list (pv 4) (pv 7) (fun _ _ => rfl)) (pv 5) pe_bl rfl)))))
      (pss_one (ps_ret (pv 4)))), ?_⟩
    obtain ⟨Lf, Df, Nf, T⟩ := S.st.tree
    have B := T.back'
    have lvl : (lvW es k).length = Lf k := lvW_len T (k + 1) k (Nat.lt_succ_self _) hk
    obtain ⟨f1, f2⟩ := T.few k _ (List.getElem?_eq_getElem hk)
    refine ⟨_, rfl, L, _, rfl, .inl (SqL.of tz.1), _, _, rfl, rfl, _, rfl, by rw [List.length_map]; omega, by rw [List.length_map]; omega, fun Sh hSh => ?_⟩
    rw [List.length_map, show ((zs.length : Int) + 1).toNat = zs.length + 1 by omega]
    refine lc_range (lo := 0) (n := zs.length + 1) (fun i G => Keep [] H G ∧ ∃ as : List Addr, G Sh = some (.lst (as.map V.ref)) ∧ as.length = i ∧ as.Nodup ∧ ∀ a ∈ as, H a = none ∧ a ≠ Sh ∧ G a = some (.dT [])) ⟨Keep.new hSh, [], upd_same, rfl, List.nodup_nil, fun a h => absurd h List.not_mem_nil⟩ (fun i G hi hI => ?_) (fun G3 hI => ?_)
    · obtain ⟨kG, as, eT, al, nd, ha⟩ := hI
      refine ⟨rfl, tyes fun y hy => ?_⟩
      have nyT : y ≠ Sh := fun z => by rw [z, eT] at hy; cases hy
      have ky : Keep [] G (upd G y (.dT [])) := Keep.new hy
      have ey : (upd G y (.dT [])) y = some (.dT []) := upd_same
      generalize (upd G y (.dT [])) = G2 at ky ey ⊢
      have eT2 := ky.at eT nin0
      refine ⟨_, eT2, Nat.lt_of_le_of_lt (by rw [List.length_map]; omega : (as.map V.ref).length ≤ 1000) (by decide), (kG.trans ky).freshTo hSh, as ++ [y], by rw [upd_same, List.map_append]; rfl, by rw [List.length_append, al]; rfl, nodup_more nd fun z => ?_, fun a hm => ?_⟩
      · have := (ha y z).2.2
        rw [hy] at this; cases this
      · rcases List.mem_append.mp hm with z | z
        · obtain ⟨q1, q2, q3⟩ := ha a z
          exact ⟨q1, q2, by rw [upd_ne q2]; exact ky.at q3 nin0⟩
        · rw [List.mem_singleton.mp z]
          exact ⟨Keep.free kG hy nin0, nyT, by rw [upd_ne nyT]; exact ey⟩
    obtain ⟨kG3, ds, eSh, dl, nd, hds⟩ := hI
    have S3 := S.keep0 kG3
    refine ⟨_, rfl, _, rfl, D.E, k, _, D.rs, es, Lf, Df, Nf, rfl, S3.st.ent, S3.st.rows, T, hk, S.lrs, fun H1 F ts fs k1 hF eF wF lv => ?_⟩
    have efs := lv.ways T
    subst efs
    have k01 := kG3.trans k1
    have hF0 : H F = none := Keep.free kG3 hF nin0
    have dne : ∀ d ∈ ds, d ≠ F := fun d hd z => by
      have := (hds d hd).2.2
      rw [z, hF] at this; cases this
    have nSF : Sh ≠ F := fun z => by rw [z, hF] at eSh; cases eSh
    have nSL : L ≠ Sh := fun z => by rw [← z, tz.1] at hSh; cases hSh
    let fB : Nat → Nat → List (List Nat) := fun i j => (((lvW es k).take i).filter fun x => decide (plN ps es zs x.2 = j)).map Prod.fst
    refine ⟨F, rfl, ⟨_, SqL.of eF⟩, ?_⟩
    refine for_list (xs := ts.map V.ref) (fun i σ G => ∃ v5 v6 v7 : Option V, σ = [some (.ref l), some (.ref D.E), some (.int (k : Int)), some (.ref L), some (.ref Sh), v5, v6, v7, none] ∧ Keep [] H G ∧ G F = some (.lst (ts.map V.ref)) ∧ G Sh = some (.lst (ds.map V.ref)) ∧ WaysAt G ts (lvW es k) ∧ ShAt G ds (fB i)) ⟨none, none, none, rfl, k01, eF, k1.at eSh nin0, wF, fun j d hd => k1.at (hds d (List.mem_of_getElem? hd)).2.2 nin0⟩ ?_ ?_ ?_
    · rintro i σ G hi ⟨v5, v6, v7, rfl, kG, eFG, eSG, wG, sG⟩
      exact SqL.of eFG
    · rintro i x σ G hx ⟨v5, v6, v7, rfl, kG, eFG, eSG, wG, sG⟩
      rw [List.getElem?_map] at hx
      obtain ⟨tj, htj, rfl⟩ := Option.map_eq_some_iff.mp hx
      have hil : i < (lvW es k).length := by rw [← wG.len]; exact (List.getElem?_eq_some_iff.mp htj).1
      have hfi := List.getElem?_eq_getElem hil
      generalize (lvW es k)[i] = y at hfi
      obtain ⟨t', ht', a, e1, e2⟩ := wG.at hfi
      rw [htj] at ht'
      cases ht'
      have hym := List.mem_of_getElem? hfi
      have hy := lv.inn y hym
      have he := List.getElem?_eq_getElem hy
      have hpl : plN ps es zs y.2 = (firstT ps es[y.2] zs).getD zs.length := by unfold plN; rw [he]
      have hple : plN ps es zs y.2 ≤ zs.length := plN_le
      generalize es[y.2] = e at he hpl
      have tk : ∀ j, fB (i + 1) j = if j = plN ps es zs y.2 then fB i j ++ [y.1] else fB i j := fun j => by
        show (((lvW es k).take (i + 1)).filter _).map _ = _
        rw [List.take_add_one, hfi, List.filter_append, List.map_append]
        show _ ++ (([y].filter _).map _) = _
        rw [List.filter_cons]
        by_cases q : plN ps es zs y.2 = j
        · rw [decide_eq_true q, if_pos q.symm]; rfl
        · rw [decide_eq_false q, if_neg (show ¬ j = plN ps es zs y.2 from fun z => q z.symm)]
          show fB i j ++ [] = _
          rw [List.append_nil]
      have hnin : y.1 ∉ fB i (plN ps es zs y.2) := fun h => by
        obtain ⟨u, hu, eu⟩ := List.mem_map.mp h
        have hu := (List.mem_filter.mp hu).1
        have nd := lvW_nd B k
        have sp : (lvW es k).map Prod.fst = ((lvW es k).take i).map Prod.fst ++ y.1 :: ((lvW es k).drop (i + 1)).map Prod.fst := by
          conv => lhs; rw [← List.take_append_drop i (lvW es k)]
          rw [List.map_append, List.drop_eq_getElem_cons hil]
          rw [List.getElem?_eq_getElem hil] at hfi
          rw [Option.some.inj hfi]
          rfl
        rw [sp, List.nodup_append] at nd
        exact nd.2.2 y.1 (by rw [← eu]; exact List.mem_map_of_mem hu) y.1 List.mem_cons_self rfl
      have lB : (fB i (plN ps es zs y.2)).length ≤ 101 := by
        have h2 : (fB i (plN ps es zs y.2)).length ≤ ((lvW es k).take i).length := by
          show ((List.filter _ _).map _).length ≤ _
          rw [List.length_map]; exact List.length_filter_le _ _
        rw [List.length_take] at h2
        omega
      refine ⟨tj, _, rfl, SqT.of e1, rfl, _, _, rfl, _, _, rfl, rfl, ?_⟩
      -- where it stands at the end
      have put : ∀ (G5 : Hp), Keep [] G G5 → ∃ d, ds[plN ps es zs y.2]? = some d ∧ G5 Sh = some (.lst (ds.map V.ref)) ∧ G5 a = some (.tup (memV y.1)) ∧ G5 d = some (.dT (chK (fB i (plN ps es zs y.2)))) ∧ Keep [] H (upd G5 d (.dT (putK (chK (fB i (plN ps es zs y.2))) (keyW y.1) (V.bl true)))) ∧ (upd G5 d (.dT (putK (chK (fB i (plN ps es zs y.2))) (keyW y.1) (V.bl true)))) F = some (.lst (ts.map V.ref)) ∧ (upd G5 d (.dT (putK (chK (fB i (plN ps es zs y.2))) (keyW y.1) (V.bl true)))) Sh = some (.lst (ds.map V.ref)) ∧ WaysAt (upd G5 d (.dT (putK (chK (fB i (plN ps es zs y.2))) (keyW y.1) (V.bl true)))) ts (lvW es k) ∧ ShAt (upd G5 d (.dT (putK (chK (fB i (plN ps es zs y.2))) (keyW y.1) (V.bl true)))) ds (fB (i + 1)) := fun G5 k5 => by
        have hjl : plN ps es zs y.2 < ds.length := by omega
        have hd := List.getElem?_eq_getElem hjl
        generalize ds[plN ps es zs y.2] = d at hd
        have hdm := List.mem_of_getElem? hd
        obtain ⟨q1, q2, _⟩ := hds d hdm
        have eSh5 := k5.at eSG nin0
        have s5 : ShAt G5 ds (fB i) := fun j d' h' => k5.at (sG j d' h') nin0
        have ed := s5 _ d hd
        have wG5 := wG.map fun a xs q => k5.at q nin0
        refine ⟨d, hd, eSh5, k5.at e2 nin0, ed, (kG.trans k5).freshTo q1, by rw [upd_ne (dne d hdm).symm]; exact k5.at eFG nin0, by rw [upd_ne q2.symm]; exact eSh5, wG5.map fun a' xs q => by rw [upd_ne (ne_of q ed (fun z => by cases z))]; exact q, s5.put nd hd tk hnin⟩
      refine ⟨fun m σ' G' => Keep [] G G' ∧ ∃ j : Nat, j ≤ zs.length ∧ m = zs.length - j ∧ σ' = [some (.ref l), some (.ref D.E), some (.int (k : Int)), some (.ref L), some (.ref Sh), some (.ref a), some (.int (y.2 : Int)), some (.int (j : Int)), none] ∧ firstT ps e (zs.take j) = none, ⟨_, Keep.refl _ _, 0, Nat.zero_le _, rfl, rfl, rfl⟩, ?_⟩
      rintro m σ' G' ⟨kG', j, hj, rfl, rfl, h0⟩
      have kH := kG.trans kG'
      have eL := kH.at tz.1 nin0
      have S' := S.keep0 kH
      have fin : plN ps es zs y.2 = j → ∀ G5 : Hp, Keep [] G G5 → ∃ d, _ := fun e5 G5 k5 => put G5 k5
      refine ⟨_, rfl, _, rfl, L, _, rfl, .inl (SqL.of eL), ?_⟩
      rw [List.length_map]
      by_cases hlt : j < zs.length
      · refine ⟨_, _, rfl, rfl, _, rfl, ?_⟩
        rw [decide_eq_true (by omega)]
        refine iteT ?_
        have hzi := List.getElem?_eq_getElem hlt
        generalize zs[j] = z at hzi
        obtain ⟨ta, ok, hd⟩ := tz.2 z (List.mem_of_getElem? hzi)
        obtain ⟨r', hq, rw'⟩ := S'.st.rows.at he
        refine ⟨_, rfl, _, rfl, _, rfl, D.E, _, _, V.ref r', rfl, rfl, SqL.of S'.st.ent, atI_nat (by rw [List.getElem?_map, hq]; rfl), _, rfl, _, rfl, L, _, _, z.2, rfl, rfl, SqL.of eL, atI_nat (by rw [List.getElem?_map, hzi]; rfl), l, r', z.2, ps, e, z.1, rfl, by omega, S'.prs, S'.wf, S'.few, kind_all (S.st.sm e (List.mem_of_getElem? he)).2.2, ⟨_, rw'⟩, ta.keep0 kH, ok, fun G2 k2 => ⟨_, rfl, ?_⟩⟩
        cases q : fitsT ps e z.1 with
        | true =>
          refine iteF ?_
          have h1 := firstT_hit hzi h0 q
          have hj1 : plN ps es zs y.2 = j := by rw [hpl, h1]; rfl
          obtain ⟨d, p1, p2, p3, p4, p5, p6, p7, p8, p9⟩ := put G2 (kG'.trans k2)
          rw [hj1] at p1 p4 p5 p6 p7 p8 p9
          refine ⟨_, rfl, _, rfl, Sh, _, _, V.ref d, rfl, rfl, SqL.of p2, atI_nat (by rw [List.getElem?_map, p1]; rfl), _, rfl, d, _, rfl, DPut.t (k := keyW y.1) p4 (by rw [keyW_kV]; exact p3) (Nat.lt_of_le_of_lt (by rw [← hj1]; unfold chK; rw [List.length_map]; omega : _ ≤ 1000) (by decide)), ?_⟩
          exact ⟨_, _, _, rfl, p5, p6, p7, p8, p9⟩
        | false =>
          refine iteT ⟨fun σ' G' => G' = G2 ∧ σ' = [some (.ref l), some (.ref D.E), some (.int (k : Int)), some (.ref L), some (.ref Sh), some (.ref a), some (.int (y.2 : Int)), some (.int ((j : Int) + 1)), none], ?_, ?_⟩
          · rintro σ' G' ⟨rfl, rfl⟩
            refine ⟨zs.length - (j + 1), by omega, kG'.trans k2, j + 1, hlt, rfl, by rfl, ?_⟩
            rw [firstT_step hzi, h0, q]; rfl
          · exact ⟨_, rfl, _, _, rfl, rfl, rfl, rfl⟩
      · refine ⟨_, _, rfl, rfl, _, rfl, ?_⟩
        rw [decide_eq_false (by omega)]
        refine iteF (iteF ?_)
        have ej : j = zs.length := by omega
        rw [ej, List.take_length] at h0
        have hj1 : plN ps es zs y.2 = j := by rw [hpl, h0, ej]; rfl
        obtain ⟨d, p1, p2, p3, p4, p5, p6, p7, p8, p9⟩ := put G' kG'
        rw [hj1] at p1 p4 p5 p6 p7 p8 p9
        refine ⟨_, rfl, _, rfl, Sh, _, _, V.ref d, rfl, rfl, SqL.of p2, atI_nat (by rw [List.getElem?_map, p1]; rfl), _, rfl, d, _, rfl, DPut.t (k := keyW y.1) p4 (by rw [keyW_kV]; exact p3) (Nat.lt_of_le_of_lt (by rw [← hj1]; unfold chK; rw [List.length_map]; omega : _ ≤ 1000) (by decide)), ?_⟩
        exact ⟨_, _, _, rfl, p5, p6, p7, p8, p9⟩
    · rintro σ G ⟨v5, v6, v7, rfl, kG, eFG, eSG, wG, sG⟩
      rw [List.length_map, wG.len] at sG
      refine ⟨_, rfl, kk G Sh ds kG hSh eSG dl (fun d hd => (hds d hd).1) nd fun j d hd => ?_⟩
      rw [sG j d hd]
      show some (HO.dT (chK ((((lvW es k).take _).filter _).map _))) = _
      rw [List.take_length]; rfl
end
end Fs
/-! A dict whose keys are tuples, compared with {}. -/
namespace Fs
open PySem PySem.Spec PySem.Calls PySem.W PyProof.Rows PyProof.V L2
section
variable {prog : Program} {w : World} {A : Around} {E : Value → Shared → Prop} {s : Shared}
theorem samePairs0 {nm : String} {a b : Addr} {oa ob : Obj} {es es' : Array DictEntry} {ep ep' : Nat} {Q : Bool → Shared → Prop} (ha : (a == sysModules) = false) (hb : (b == sysModules) = false)
    (hoa : s.heap.get? a = some oa) (hda : oa.data = .dict es ep) (hob : s.heap.get? b = some ob) (hdb : ob.data = .dict es' ep') (h0 : es'.size = 0) (h : Q (es.size == 0) s) :
    wpAny (model prog w) A (Builtin.Dict.samePairs nm a b) Q E s := by
  unfold Builtin.Dict.samePairs Builtin.Dict.showsAll
  rw [if_neg (show ¬ (a == sysModules) = true by rw [ha]; exact Bool.false_ne_true), if_neg (show ¬ (b == sysModules) = true by rw [hb]; exact Bool.false_ne_true)]
  refine wpAny_bind (wpAny_pure (wpAny_bind (wpAny_pure ?_)))
  refine wpAny_bind (wpAny_dictEntries hoa hda ?_)
  dsimp only
  refine wpAny_bind (wpAny_dictEntries hob hdb ?_)
  by_cases hsz : es.size = 0
  case neg =>
    rw [if_pos (by rw [h0]; simpa using hsz)]
    rw [show (es.size == 0) = false by simpa using hsz] at h
    exact wpAny_bind (wpAny_rule (wpAny_pure h))
  case pos =>
    rw [hsz] at h
    rw [if_neg (by rw [hsz, h0]; simp)]
    refine wpAny_bind (wpAny_dictEpoch hoa hda ?_)
    refine wpAny_bind ?_
    rw [Std.Legacy.Range.forIn_eq_forIn_range']
    simp only [Std.Legacy.Range.size, Nat.sub_zero, Nat.add_sub_cancel, Nat.div_one]
    rw [hsz]
    exact wpAny_pure (wpAny_pure h)
theorem eq_dict0 {a b : Addr} {oa ob : Obj} {es es' : Array DictEntry} {ep ep' : Nat} {Q : Value → Shared → Prop} (ha : (a == sysModules) = false) (hb : (b == sysModules) = false)
    (hoa : s.heap.get? a = some oa) (ca : oa.cls = .type "dict") (hda : oa.data = .dict es ep) (hob : s.heap.get? b = some ob) (cb : ob.cls = .type "dict") (hdb : ob.data = .dict es' ep') (hu : A.units < cLine) (h0 : es'.size = 0) (h : Q (.bool (es.size == 0)) s) :
    wpAny (model prog w) A (compareOp .Eq (.ref a) (.ref b)) Q E s := by
  have ta : s.TypeIs (.ref a) "dict" := ⟨_, hoa, ca⟩
  have tb : s.TypeIs (.ref b) "dict" := ⟨_, hob, cb⟩
  refine wpAny_richCompare_same_room (op := .Eq) ta tb PySem.F.slot_dict_eq (wpAny_call_entry PySem.F.slot_dict_eq ta PySem.F.entry_dict_eq ?_ (PySem.F.args_dict_eq_2 _ _)) hu
  show wpAny _ _ (Builtin.Dict.dictSlotArgs "__eq__" ⟨[.ref a, .ref b], []⟩ >>= _) _ _ s
  refine wpAny_bind ?_
  unfold Builtin.Dict.dictSlotArgs
  refine wpAny_bind (wpAny_notOrdered_dict ta ?_)
  show wpAny _ _ (pure (Value.ref a, Value.ref b)) _ _ s
  refine wpAny_pure ?_
  refine wpAny_bind (wpAny_isInstance (T := "dict") tb PySem.F.sub_dict_dict ?_)
  simp only [Bool.not_true, Bool.false_eq_true, if_false]
  refine wpAny_bind (wpAny_pure (wpAny_bind (wpAny_pure ?_)))
  refine wpAny_bind (samePairs0 ha hb hoa hda hob hdb h0 ?_)
  refine wpAny_pure ⟨_, rfl, ?_, ?_⟩
  · exact fun x => nomatch x
  · simpa using h
end
/-- a dict of ways is {} -/
def rEqE : R2 := fun x y H Q => ∃ (a b : Addr) (kvs : List (List Key × V)), x = .ref a ∧ y = .ref b ∧ H a = some (.dT kvs) ∧ H b = some (.dT []) ∧ Q (.bl kvs.isEmpty) H
theorem op_eqE {X : Cx} (hu : X.A.units < cLine) : OpR X (compareOp .Eq) rEqE := by
  intro pins s σ H x y v u Q I rx ry h
  obtain ⟨a, b, kvs, rfl, rfl, ea, eb, q⟩ := h
  obtain rfl : v = Value.ref a := rx
  obtain rfl : u = Value.ref b := ry
  obtain ⟨_, ya, xs, kx, o, es, ep, h1, h2, h3, h4, _⟩ := (show ObjOk X.prog X.w H s.heap a (.dT kvs) from I.hok a _ ea)
  obtain ⟨_, yb, ys, ky, o', es', ep', g1, g2, g3, g4, _⟩ := (show ObjOk X.prog X.w H s.heap b (.dT []) from I.hok b _ eb)
  have hy : es'.size = 0 := by
    have hl := Paired.length ky
    have : es'.toList.length = ys.length := by rw [g4, List.length_map]
    rw [Array.length_toList] at this
    rw [this, ← hl]; rfl
  have hx : (es.size == 0) = kvs.isEmpty := by
    have hl := Paired.length kx
    have e : es.size = xs.length := by rw [← Array.length_toList, h4, List.length_map]
    rw [e, ← hl]
    cases kvs <;> rfl
  refine eq_dict0 ya yb h1 h2.1 h3 g1 g2.1 g3 hu hy (fin_bl I q (by rw [hx]))
end Fs
/-! The law: whether a hand is right. -/
namespace Fs
open PySem L2 TL
abbrev sHdR : Stmt := top 55 --def _law_hand_right
abbrev aHdR : List Str := ["_law_ledger_here", "_law_faults_here", "_law_found", "_law_k", "_law_chosen", "_law_many"]
abbrev nHdR : List Str := ["_law_ledger_here", "_law_faults_here", "_law_found", "_law_k", "_law_chosen", "_law_many", "_law_told_here"]
theorem scHdR : FnScope nHdR aHdR (defScope sHdR) := ⟨rfl, rfl, rfl, by decide +kernel, rfl, by decide +kernel, by decide +kernel⟩
/-- a hand is right -/
def HdOk (es F : List Ent) (many k : Nat) (ws : List (List Nat)) (r : Option Nat) : Prop :=
  ((∃ e, es[k]? = some e ∧ e.mem = []) ∧ ws ≠ [] ∧ ∃ f, r = some f ∧ many ≤ f ∧ F[f]? = some (handE k)) ∨ ((ws = [] ∨ ∃ e, es[k]? = some e ∧ e.mem ≠ []) ∧ PR es F many 16 (inB ws) k r)
theorem HR.hand {dd : Nat} {F : List Ent} {ps : List (Str × Str)} {es : List Ent} {zs : List (Ts × V)} {k j : Nat} {r : Option Nat} (h : HR dd F ps es zs k j r) (hj : j < zs.length) : HdOk es F es.length k (bagW ps es zs k j) r := by
  rcases h.pr with ⟨_, b, c, d⟩ | ⟨a, b⟩
  · exact .inl ⟨b, c, d⟩
  · exact .inr ⟨a hj, b⟩
theorem chK_empty (ws : List (List Nat)) : (chK ws).isEmpty = ws.isEmpty := by unfold chK; cases ws <;> rfl
def handD (k : Nat) : PyData := .list [.str "", .list [.int (k : Int)], .list [], .none, .none]
theorem hand_ok {k : Nat} (h : k < 10000) : (handD k).showable = true ∧ (handD k).hasDict = false ∧ (handD k).depth ≤ 60 ∧ (handD k).shown.length ≤ sizeLine := by
  have hk : (PyData.int (k : Int)).showable = true := by
    simp only [PyData.showable, decide_eq_true_eq]
    exact log_small4 (by omega)
  have z : (PyData.str "").showable = true := by simp only [PyData.showable]
  refine ⟨?_, ?_, ?_, ?_⟩
  · simp only [handD, PyData.showable, PyData.showableAll, Bool.and_self, Bool.and_true] at hk ⊢
    exact hk
  · simp only [handD, PyData.hasDict, PyData.hasDictAll, Bool.or_self]
  · simp only [handD, PyData.depth, PyData.depthAll]; decide
  · have e1 := int_short h
    have e2 : (PyData.str "").shown.length ≤ 10 := Nat.le_trans (str_short (n := 0) (z := "") (by decide +kernel) (fun c hc => by revert c hc; decide +kernel)) (by decide)
    have e3 : PyData.none.shown.length ≤ 4 := by simp only [PyData.shown]; decide +kernel
    have g1 := listText_le (PyData.shownAll [.int (k : Int)])
    have g2 := listText_le (PyData.shownAll [])
    have g := listText_le (PyData.shownAll [.str "", .list [.int (k : Int)], .list [], .none, .none])
    have el : (PyData.list [.int (k : Int)]).shown = listText (PyData.shownAll [.int (k : Int)]) := by simp only [PyData.shown]
    have en : (PyData.list []).shown = listText (PyData.shownAll []) := by simp only [PyData.shown]
    unfold handD
    simp only [PyData.shown]
    simp only [PyData.shownAll, piled_cons, piled_nil, el, en] at g g1 g2 ⊢
    refine Nat.le_trans (?_ : _ ≤ 1000) (by decide)
    omega
def spHdR (C CK : Addr) : Sp := fun vs H Q _ => ∃ (ps : List (Str × Str)) (cap : Nat) (p l X : Addr) (tx : List Str) (D : LDA) (es xs : List Ent) (Cd : Addr) (k many : Nat) (ws : List (List Nat)) (r : Option Nat) (Lf Df Nf : Nat → Nat), vs = [.ref D.q, .ref D.E, optV r, .int (k : Int), .ref Cd, .int (many : Int)] ∧
  ScB C CK ps cap p l X tx H D es xs ∧ Tree es Lf Df Nf ∧ k < es.length ∧ H Cd = some (.dT (chK ws)) ∧ HdOk es (es ++ xs) many k ws r ∧ ∀ H', Keep [] H H' → Q (.bl true) H'
section
variable {P : Program} {w : World} {K : PySem.W.Frag} {mg : Str → Option Value} {base : Heap} {C CK fLv fW fPr f2 f3 f4 f5 f6 f7 : Addr}
theorem ok_hdr {f : Addr} {fd dP dW d2 d3 d4 d5 d6 d7 : FuncData} (F : Fun K "_law_hand_right" "_law_hand_right" sHdR f fd) (T : PRx K mg C fLv fW fPr f2 f3 f4 f5 f6 f7) (FP : FnG P w K mg base 20 fPr dP aPRt (spPRt C CK 16)) (bP : Binds K dP aPRt [])
    (FW : FnOk P w K mg base CX0 1 fW dW ["_law_thing"] spWhL) (bW : Binds K dW ["_law_thing"] [])
    (F2 : FnOk P w K mg base CX0 3 f2 d2 ["self", "k"] (spGet C fun e => .str e.kind)) (b2 : Binds K d2 ["self", "k"] []) (F3 : FnOk P w K mg base CX0 3 f3 d3 ["self", "k"] (spGet C fun e => .str e.text)) (b3 : Binds K d3 ["self", "k"] [])
    (F4 : FnOk P w K mg base CX0 3 f4 d4 ["self", "k"] (spGetL C fun e => memV e.mem)) (b4 : Binds K d4 ["self", "k"] []) (F5 : FnOk P w K mg base CX0 3 f5 d5 ["self", "k"] (spGetL C fun e => e.notes.map V.str)) (b5 : Binds K d5 ["self", "k"] [])
    (F6 : FnOk P w K mg base CX0 3 f6 d6 ["self", "k"] (spGet C fun e => optV e.cause)) (b6 : Binds K d6 ["self", "k"] []) (F7 : FnOk P w K mg base CX0 3 f7 d7 ["self", "k"] (spGet C fun e => optV e.atw)) (b7 : Binds K d7 ["self", "k"] []) : FnG P w K mg base 21 f fd aHdR (spHdR C CK) := by
  refine okG F scHdR (fun vs H Q E h => ?_) (fun cdv A0 outer s H vs Q Es hg hr h => ?_)
  · obtain ⟨ps, cap, p, l, X, tx, D, es, xs, Cd, k, many, ws, r, Lf, Df, Nf, rfl, _⟩ := h
    rfl
  · obtain ⟨ps, cap, p, l, X, tx, D, es, xs, Cd, k, many, ws, r, Lf, Df, Nf, rfl, S, T', hk, eC, ok, kk⟩ := h
    have hr1 : Room 1 _ := hr.mono (by omega)
    have hr3 : Room 3 _ := hr.mono (by omega)
    have hgX : (cxOf CX0 P w K mg base nHdR "_law_hand_right" (defScope sHdR) f cdv A0 outer s H Es).nox.A.guards = some [] := hg
    have hu := hr.units
    refine ⟨_, pss_cons (ps_if (PW.pt (pw_or (pt_cmpR (op_neD hu) (pe_ix ix_list (pe_ix ix_list (pv 1) (pv 3) (fun _ _ => rfl)) pe_int (fun _ _ => rfl)) (pe_lst pa_nil) (nomark _)) (pw_or1 (pt_cmpR (op_eqE (Nat.lt_of_le_of_lt (Nat.le_add_right _ 64) hu)) (pv 4) pe_dnewT (nomark _)))))
        (pss_one (ps_ret (pe_callG FP hgX hr rfl T.gR T.kR bP (pa_cons (pv 0) (pa_cons (pv 1) (pa_cons (pv 2) (pa_cons (pv 3) (pa_cons (pe_tup pa_nil) (pa_cons (pv 4) (pa_cons (pv 5) pa_nil)))))))))) pss_nil)
      (pss_cons (ps_if (PW.pt (pw_or (pt_not (pt_val (pe_call FW hr1 rfl T.gW T.kW bW .nil pass0 (pa_cons (pv 2) pa_nil)))) (pw_or (pt_cmpR op_lt (pv 2) (pv 5) (nomark _)) (pw_or1 (pt_cmpR op_ne (pe_meth (pv 0) T.cl T.kind F2 hr3 b2 .nil pass0 (pa_cons (pv 2) pa_nil)) pe_str (nomark _)))))) (pss_one (ps_ret pe_bl)) pss_nil)
      (pss_cons (ps_set (i := 6) scHdR.nd rfl (Or.inl rfl) (pe_lst (pa_cons (pe_meth (pv 0) T.cl T.text F3 hr3 b3 .nil pass0 (pa_cons (pv 2) pa_nil)) (pa_cons (pe_meth (pv 0) T.cl T.mem F4 hr3 b4 .nil pass0 (pa_cons (pv 2) pa_nil)) (pa_cons (pe_meth (pv 0) T.cl T.notes F5 hr3 b5 .nil pass0 (pa_cons (pv 2) pa_nil)) (pa_cons (pe_meth (pv 0) T.cl T.cause F6 hr3 b6 .nil pass0 (pa_cons (pv 2) pa_nil)) pa_nil))))))
      (pss_one (ps_ret (pe_cmpR op_eq (pe_callB (call_reprD hgX hu) (by rfl) T.repr (by decide +kernel) (pa_cons (pe_op op_cat (pv 6) (pe_lst (pa_cons (pe_meth (pv 0) T.cl T.atw F7 hr3 b7 .nil pass0 (pa_cons (pv 2) pa_nil)) pa_nil))) pa_nil))
          (pe_callB (call_reprD hgX hu) (by rfl) T.repr (by decide +kernel) (pa_cons (pe_lst (pa_cons pe_str (pa_cons (pe_lst (pa_cons (pv 3) pa_nil)) (pa_cons (pe_lst pa_nil) (pa_cons pe_non (pa_cons pe_non pa_nil)))))) pa_nil)) (nomark _)))))), ?_⟩
    have hl := S.len
    have he := List.getElem?_eq_getElem hk
    generalize es[k] = e at he
    obtain ⟨r', hq, m, n', g1, g2, g3, g4, g5, g6⟩ := S.st.rows.at he
    have fk := (T'.few k e he).2
    have part : ∀ {H2 : Hp} {Qd : V → Hp → Prop}, Keep [] H H2 → PR es (es ++ xs) many 16 (inB ws) k r → (∀ G, Keep [] H2 G → Qd (.bl true) G) → ∀ a, H2 a = some (.tup (memV [])) → spPRt C CK 16 [.ref D.q, .ref D.E, optV r, .int (k : Int), .ref a, .ref Cd, .int (many : Int)] H2 Qd Es := fun k2 pr fin a ha =>
      ⟨ps, cap, p, l, X, tx, D, es, xs, a, Cd, k, many, 16, [], ws, r, Lf, Df, Nf, rfl, by omega, S.keep0 k2, T', hk, ha, by decide, k2.at eC nin0, pr, fun G k3 => fin G k3⟩
    -- members
    refine ⟨_, rfl, _, rfl, D.E, _, _, V.ref r', rfl, rfl, SqL.of S.st.ent, atI_nat (by rw [List.getElem?_map, hq]; rfl), r', _, 2, .ref m, rfl, rfl, SqL.of g4, rfl, Nat.zero_le _, fun e2 he2 => ?_⟩
    have k1 : Keep [] H (upd H e2 (.lst [])) := Keep.new he2
    have a1 : (upd H e2 (.lst [])) e2 = some (.lst (memV [])) := upd_same
    generalize (upd H e2 (.lst [])) = H1 at k1 a1 ⊢
    refine ⟨intsD e.mem, intsD [], dp_intsD (k1.at g5 nin0), dp_intsD a1, ints_shaped _, ints_shaped _, _, rfl, ?_⟩
    rw [ints_nil]
    have nest : ∀ {H2 : Hp} {Qd : V → Hp → Prop}, Keep [] H H2 → PR es (es ++ xs) many 16 (inB ws) k r → (∀ G, Keep [] H2 G → Qd (.bl true) G) → ∀ a, H2 a = none → spPRt C CK 16 [.ref D.q, .ref D.E, optV r, .int (k : Int), .ref a, .ref Cd, .int (many : Int)] (upd H2 a (.tup [])) Qd Es := fun k2 pr fin a ha =>
      part (k2.trans (Keep.new ha)) pr (fun G k3 => fin G ((Keep.new ha).trans k3)) a upd_same
    by_cases hm : e.mem = []
    · rw [hm]
      refine iteF ?_
      refine ⟨_, rfl, fun d2 hd2 => ?_⟩
      have k2 : Keep [] H1 (upd H1 d2 (.dT [])) := Keep.new hd2
      have a2 : (upd H1 d2 (.dT [])) d2 = some (.dT []) := upd_same
      generalize (upd H1 d2 (.dT [])) = H2 at k2 a2 ⊢
      have k02 := k1.trans k2
      refine ⟨Cd, d2, _, rfl, rfl, k02.at eC nin0, a2, _, rfl, ?_⟩
      rw [chK_empty]
      rcases ok with ⟨_, hw, f', rfl, hmany, hf⟩ | ⟨hw, pr⟩
      · rw [show ws.isEmpty = false by cases q : ws with | nil => exact absurd q hw | cons a b => rfl]
        refine iteF ?_
        have S2 := S.keep0 k02
        refine ⟨_, rfl, some f', rfl, true, rfl, iteF ?_⟩
        refine ⟨_, rfl, _, rfl, _, _, rfl, rfl, _, rfl, ?_⟩
        rw [decide_eq_false (by omega)]
        refine iteF ?_
        refine ⟨_, rfl, D.q, D.A.dx, _, rfl, S2.st.led.ins, flg2 D.A, _, rfl, D.q, D.A, D.ms, D.ns, es ++ xs, f', handE k, rfl, S2.st.led, hf, rfl, _, rfl, ?_⟩
        refine iteNS rfl ?_
        refine ⟨_, rfl, D.q, D.A.dx, _, rfl, S2.st.led.ins, flg3 D.A, _, rfl, D.q, D.A, D.ms, D.ns, es ++ xs, f', handE k, rfl, S2.st.led, hf, ?_⟩
        refine ⟨_, rfl, D.q, D.A.dx, _, rfl, S2.st.led.ins, flg4 D.A, _, rfl, D.q, D.A, D.ms, D.ns, es ++ xs, f', handE k, rfl, S2.st.led, hf, fun ml hml => ?_⟩
        have k3 : Keep [] H2 (upd H2 ml (.lst (memV (handE k).mem))) := Keep.new hml
        have a3 : (upd H2 ml (.lst (memV (handE k).mem))) ml = some (.lst [.int (k : Int)]) := upd_same
        generalize (upd H2 ml (.lst (memV (handE k).mem))) = H3 at k3 a3 ⊢
        have S3 := S2.keep0 k3
        refine ⟨_, rfl, D.q, D.A.dx, _, rfl, S3.st.led.ins, flg5 D.A, _, rfl, D.q, D.A, D.ms, D.ns, es ++ xs, f', handE k, rfl, S3.st.led, hf, fun nl hnl => ?_⟩
        have k4 : Keep [] H3 (upd H3 nl (.lst ((handE k).notes.map V.str))) := Keep.new hnl
        have a4 : (upd H3 nl (.lst ((handE k).notes.map V.str))) nl = some (.lst []) := upd_same
        generalize (upd H3 nl (.lst ((handE k).notes.map V.str))) = H4 at k4 a4 ⊢
        have S4 := S3.keep0 k4
        refine ⟨_, rfl, D.q, D.A.dx, _, rfl, S4.st.led.ins, flg6 D.A, _, rfl, D.q, D.A, D.ms, D.ns, es ++ xs, f', handE k, rfl, S4.st.led, hf, ?_⟩
        refine ⟨(by show 4 ≤ sizeLine; decide), fun Lt hLt => ?_⟩
        have k5 : Keep [] H4 (upd H4 Lt (.lst [.str "", .ref ml, .ref nl, .non])) := Keep.new hLt
        have a5 : (upd H4 Lt (.lst [.str "", .ref ml, .ref nl, .non])) Lt = some (.lst [.str "", .ref ml, .ref nl, .non]) := upd_same
        change gName 6 (V.ref Lt) _ (upd H4 Lt (.lst [.str "", .ref ml, .ref nl, .non])) _
        generalize (upd H4 Lt (.lst [.str "", .ref ml, .ref nl, .non])) = H5 at k5 a5 ⊢
        have S5 := S4.keep0 k5
        refine ⟨_, rfl, _, rfl, D.q, D.A.dx, _, rfl, S5.st.led.ins, flg7 D.A, _, rfl, D.q, D.A, D.ms, D.ns, es ++ xs, f', handE k, rfl, S5.st.led, hf, ?_⟩
        refine ⟨(by show 1 ≤ sizeLine; decide), fun b hb => ?_⟩
        have k6 : Keep [] H5 (upd H5 b (.lst [(fun e : Ent => optV e.atw) (handE k)])) := Keep.new hb
        have a6 : (upd H5 b (.lst [(fun e : Ent => optV e.atw) (handE k)])) b = some (.lst [.non]) := upd_same
        generalize (upd H5 b (.lst [(fun e : Ent => optV e.atw) (handE k)])) = H6 at k6 a6 ⊢
        refine ⟨Lt, b, _, _, rfl, rfl, k6.at a5 nin0, a6, (by show 5 ≤ sizeLine; decide), fun c hc => ?_⟩
        have k7 : Keep [] H6 (upd H6 c (.lst ([.str "", .ref ml, .ref nl, .non] ++ [.non]))) := Keep.new hc
        have a7 : (upd H6 c (.lst ([.str "", .ref ml, .ref nl, .non] ++ [.non]))) c = some (.lst [.str "", .ref ml, .ref nl, .non, .non]) := upd_same
        generalize (upd H6 c (.lst ([.str "", .ref ml, .ref nl, .non] ++ [.non]))) = H7 at k7 a7 ⊢
        have k47 := (k5.trans k6).trans k7
        obtain ⟨o1, o2, o3, o4⟩ := hand_ok (k := k) (by omega)
        refine ⟨c, handD k, rfl, .lst (SqL.of a7) (.cons (.str _) (.cons (.lst (SqL.of (k47.at (k4.at a3 nin0) nin0)) (.cons (.int _) .nil)) (.cons (.lst (SqL.of (k47.at a4 nin0)) .nil) (.cons .non (.cons .non .nil))))), o1, o2, o3, o4, ?_⟩
        refine ⟨_, rfl, (by show 1 ≤ sizeLine; decide), fun q1 hq1 => ?_⟩
        have k8 : Keep [] H7 (upd H7 q1 (.lst [.int (k : Int)])) := Keep.new hq1
        have a8 : (upd H7 q1 (.lst [.int (k : Int)])) q1 = some (.lst [.int (k : Int)]) := upd_same
        generalize (upd H7 q1 (.lst [.int (k : Int)])) = H8 at k8 a8 ⊢
        refine ⟨Nat.zero_le _, fun q2 hq2 => ?_⟩
        have k9 : Keep [] H8 (upd H8 q2 (.lst [])) := Keep.new hq2
        have a9 : (upd H8 q2 (.lst [])) q2 = some (.lst []) := upd_same
        generalize (upd H8 q2 (.lst [])) = H9 at k9 a9 ⊢
        refine ⟨(by show 5 ≤ sizeLine; decide), fun q3 hq3 => ?_⟩
        have k10 : Keep [] H9 (upd H9 q3 (.lst [.str "", .ref q1, .ref q2, .non, .non])) := Keep.new hq3
        have a10 : (upd H9 q3 (.lst [.str "", .ref q1, .ref q2, .non, .non])) q3 = some (.lst [.str "", .ref q1, .ref q2, .non, .non]) := upd_same
        generalize (upd H9 q3 (.lst [.str "", .ref q1, .ref q2, .non, .non])) = H10 at k10 a10 ⊢
        refine ⟨q3, handD k, rfl, .lst (SqL.of a10) (.cons (.str _) (.cons (.lst (SqL.of (k10.at (k9.at a8 nin0) nin0)) (.cons (.int _) .nil)) (.cons (.lst (SqL.of (k10.at a9 nin0)) .nil) (.cons .non (.cons .non .nil))))), o1, o2, o3, o4, rfl, ?_⟩
        rw [decide_eq_true rfl]
        exact kk H10 (k02.trans ((((((k3.trans k4).trans k47).trans k8).trans k9).trans k10)))
      · rcases hw with hw | ⟨e', he', hne⟩
        · rw [hw]
          refine iteT ?_
          refine ⟨_, rfl, _, rfl, _, rfl, _, rfl, Nat.zero_le _, fun a ha => ?_⟩
          refine ⟨_, rfl, _, rfl, ?_⟩
          exact nest k02 pr (fun G k3 => kk G (k02.trans k3)) a ha
        · rw [he] at he'
          cases he'
          exact absurd hm hne
    · rw [show e.mem.isEmpty = false by cases q : e.mem with | nil => exact absurd q hm | cons a b => rfl]
      refine iteT (iteT ?_)
      rcases ok with ⟨⟨e', he', z⟩, _⟩ | ⟨_, pr⟩
      · rw [he] at he'
        cases he'
        exact absurd z hm
      · refine ⟨_, rfl, _, rfl, _, rfl, _, rfl, Nat.zero_le _, fun a ha => ?_⟩
        refine ⟨_, rfl, _, rfl, ?_⟩
        exact nest k1 pr (fun G k3 => kk G (k1.trans k3)) a ha
end
end Fs
/-! The law: whether what is taken out is right. -/
namespace Fs
open PySem L2 TL
abbrev sTkR : Stmt := top 56 --def _law_taken_right
abbrev aTkR : List Str := ["_law_ledger_here", "_law_pairs", "_law_faults_here", "_law_k", "_law_tests_here", "_law_found", "_law_many"]
abbrev nTkR : List Str := ["_law_ledger_here", "_law_pairs", "_law_faults_here", "_law_k", "_law_tests_here", "_law_found", "_law_many", "_law_shares_here", "_law_hand", "_law_chosen"]
theorem scTkR : FnScope nTkR aTkR (defScope sTkR) := ⟨rfl, rfl, rfl, by decide +kernel, rfl, by decide +kernel, by decide +kernel⟩
structure TRx (K : PySem.W.Frag) (mg : Str → Option Value) (fSh fHd fPr : Addr) : Prop where
  gS : mg "_law_shares" = some (.ref fSh)
  kS : PySem.W.keepIn K (.ref fSh) = true
  gH : mg "_law_hand_right" = some (.ref fHd)
  kH : PySem.W.keepIn K (.ref fHd) = true
  gP : mg "_law_part_right" = some (.ref fPr)
  kP : PySem.W.keepIn K (.ref fPr) = true
  isi : mg "isinstance" = none
  tup : mg "tuple" = none
  lst : mg "list" = none
  len : mg "len" = none
  zip : mg "zip" = none
def spTkR (C CK : Addr) : Sp := fun vs H Q _ => ∃ (ps : List (Str × Str)) (cap : Nat) (p l X L R Hl : Addr) (tx : List Str) (D : LDA) (es xs : List Ent) (k many : Nat) (zs : List (Ts × V)) (rs : List (Option Nat)) (r : Option Nat), vs = [.ref D.q, .ref l, .ref D.E, .int (k : Int), .ref L, .ref R, .int (many : Int)] ∧
  ScB C CK ps cap p l X tx H D es xs ∧ k < es.length ∧ TssAt ps 9 H L zs ∧ zs.length ≤ 100 ∧ H R = some (.tup [.ref Hl, optV r]) ∧ H Hl = some (.lst (rs.map optV)) ∧ rs.length = zs.length ∧ (∀ (j : Nat) (o : Option Nat), rs[j]? = some o → HdOk es (es ++ xs) many k (bagW ps es zs k j) o) ∧ PR es (es ++ xs) many 16 (inB (bagW ps es zs k zs.length)) k r ∧ ∀ H', Keep [] H H' → Q (.bl true) H'
section
variable {P : Program} {w : World} {K : PySem.W.Frag} {mg : Str → Option Value} {base : Heap} {C CK fSh fHd fPr : Addr}
theorem ok_tkr {f : Addr} {fd dS dH dP : FuncData} (F : Fun K "_law_taken_right" "_law_taken_right" sTkR f fd) (T : TRx K mg fSh fHd fPr) (FS : FnOk P w K mg base CX0 13 fSh dS aShr (spShr C CK)) (bS : Binds K dS aShr []) (FH : FnG P w K mg base 21 fHd dH aHdR (spHdR C CK)) (bH : Binds K dH aHdR [])
    (FP : FnG P w K mg base 20 fPr dP aPRt (spPRt C CK 16)) (bP : Binds K dP aPRt []) : FnG P w K mg base 22 f fd aTkR (spTkR C CK) := by
  refine okG F scTkR (fun vs H Q E h => ?_) (fun cdv A0 outer s H vs Q Es hg hr h => ?_)
  · obtain ⟨ps, cap, p, l, X, L, R, Hl, tx, D, es, xs, k, many, zs, rs, r, rfl, _⟩ := h
    rfl
  · obtain ⟨ps, cap, p, l, X, L, R, Hl, tx, D, es, xs, k, many, zs, rs, r, rfl, S, hk, tz, hz, eR, eHl, hrs, hands, left, kk⟩ := h
    have hr13 : Room 13 _ := hr.mono (by omega)
    have hr20 : Room 20 _ := hr.mono (by omega)
    have hgX : (cxOf CX0 P w K mg base nTkR "_law_taken_right" (defScope sTkR) f cdv A0 outer s H Es).nox.A.guards = some [] := hg
    refine ⟨_, (pss_cons (ps_if (PW.pt (pw_or (pt_not (pt_val (pe_callB call_isi (by rfl) T.isi (by decide +kernel) (pa_cons (pv 5) (pa_cons (pe_bltn (v := .ty "tuple") (u := .type "tuple") (by rfl) T.tup (by decide +kernel) rfl) pa_nil))))) (pw_or (pt_cmpR op_ne (pe_callB call_len_seq (by rfl) T.len PySem.boot_len (pa_cons (pv 5) pa_nil)) pe_int (nomark _)) (pw_or1 (pt_not (pt_val (pe_callB call_isi (by rfl) T.isi (by decide +kernel) (pa_cons (pe_ix ix_tup (pv 5) pe_int (fun _ _ => rfl)) (pa_cons (pe_bltn (v := .ty "list") (u := .type "list") (by rfl) T.lst (by decide +kernel) rfl) pa_nil))))))))) (pss_one (ps_ret pe_bl)) pss_nil)
      (pss_cons (ps_set (i := 7) scTkR.nd rfl (Or.inl rfl) (pe_call FS hr13 rfl T.gS T.kS bS .nil pass0 (pa_cons (pv 1) (pa_cons (pv 2) (pa_cons (pv 3) (pa_cons (pv 4) pa_nil))))))
      (pss_cons (ps_if (pt_cmpR op_ne (pe_callB call_len_seq (by rfl) T.len PySem.boot_len (pa_cons (pe_ix ix_tup (pv 5) pe_int (fun _ _ => rfl)) pa_nil)) (pe_callB call_len_seq (by rfl) T.len PySem.boot_len (pa_cons (pv 4) pa_nil)) (nomark _)) (pss_one (ps_ret pe_bl)) pss_nil)
      (pss_cons (ps_for PassesOwn.never rfl (pi_zip rfl T.zip (pa_cons (pe_ix ix_tup (pv 5) pe_int (fun _ _ => rfl)) (pa_cons (pv 7) pa_nil))) (by exact (pg_tup rfl (pgs_cons (pg_name (i := 8) scTkR.nd rfl (Or.inl rfl)) (pgs_cons (pg_name (i := 9) scTkR.nd rfl (Or.inl rfl)) pgs_nil)))) (pss_one (ps_if (pt_not (pt_val (pe_callG FH hgX hr rfl T.gH T.kH bH (pa_cons (pv 0) (pa_cons (pv 2) (pa_cons (pv 8) (pa_cons (pv 3) (pa_cons (pv 9) (pa_cons (pv 6) pa_nil))))))))) (pss_one (ps_ret pe_bl)) pss_nil)))
      (pss_one (ps_ret (pe_callG FP hgX hr20 rfl T.gP T.kP bP (pa_cons (pv 0) (pa_cons (pv 2) (pa_cons (pe_ix ix_tup (pv 5) pe_int (fun _ _ => rfl)) (pa_cons (pv 3) (pa_cons (pe_tup pa_nil) (pa_cons (pe_ix ix_list (pv 7) (pe_callB call_len_seq (by rfl) T.len PySem.boot_len (pa_cons (pv 4) pa_nil)) (fun _ _ => rfl)) (pa_cons (pv 6) pa_nil)))))))))))))), ?_⟩
    obtain ⟨Lf, Df, Nf, Tr⟩ := S.st.tree
    have f2 := (Tr.few k _ (List.getElem?_eq_getElem hk)).2
    refine ⟨_, rfl, _, _, _, _, _, rfl, .ty "tuple", .base (.tup eR), kit_ty (r := true) (by decide +kernel), true, rfl, iteF ?_⟩
    refine ⟨_, rfl, R, _, rfl, .inr (SqT.of eR), rfl, _, rfl, iteNS rfl ?_⟩
    refine ⟨_, rfl, R, _, 0, .ref Hl, rfl, rfl, SqT.of eR, rfl, _, _, _, _, _, rfl, .ty "list", .base (.lst eHl), kit_ty (r := true) (by decide +kernel), true, rfl, iteF ?_⟩
    refine ⟨_, rfl, _, rfl, _, rfl, _, rfl, ps, cap, p, l, X, L, tx, D, es, xs, k, zs, rfl, S, hk, tz, hz, fun H1 Sh ds k1 hSh eSh dl nds ndd sh => ?_⟩
    have S1 := S.keep0 k1
    have eR1 := k1.at eR nin0
    have eHl1 := k1.at eHl nin0
    refine ⟨_, rfl, R, _, 0, .ref Hl, rfl, rfl, SqT.of eR1, rfl, Hl, _, rfl, .inl (SqL.of eHl1), _, rfl, L, _, rfl, .inl (SqL.of (k1.at tz.1 nin0)), rfl, _, rfl, ?_⟩
    refine iteNS (by rw [List.length_map, List.length_map, hrs]) ?_
    refine ⟨_, rfl, R, _, 0, .ref Hl, rfl, rfl, SqT.of eR1, rfl, _, rfl, Hl, Sh, _, _, rfl, SqL.of eHl1, SqL.of eSh, ?_⟩
    refine for_it (walk_zip (K := K) (a := Hl) (b := Sh) (xs := rs.map optV) (ys := ds.map V.ref) (n := zs.length) (by rw [List.length_map, List.length_map, hrs, dl]; omega)) (fun i σ G => ∃ v8 v9 : Option V, σ = [some (.ref D.q), some (.ref l), some (.ref D.E), some (.int (k : Int)), some (.ref L), some (.ref R), some (.int (many : Int)), some (.ref Sh), v8, v9] ∧ Keep [] H1 G) ⟨none, none, rfl, Keep.refl _ _⟩ (fun i σ G _ hI => by
      obtain ⟨v8, v9, rfl, kG⟩ := hI
      exact ⟨SqL.of (kG.at eHl1 nin0), SqL.of (kG.at eSh nin0)⟩) ?_ ?_
    · rintro j x σ G G2 hj ⟨v8, v9, rfl, kG⟩ ⟨T1, y1, y2, rfl, hT, rfl, q1, q2⟩
      have q1 : (rs.map optV)[j]? = some y1 := q1
      have q2 : (ds.map V.ref)[j]? = some y2 := q2
      rw [List.getElem?_map] at q1 q2
      obtain ⟨o, ho, rfl⟩ := Option.map_eq_some_iff.mp q1
      obtain ⟨d, hd, rfl⟩ := Option.map_eq_some_iff.mp q2
      have kT : Keep [] H1 (upd G T1 (.tup [optV o, V.ref d])) := kG.newTo hT
      refine ⟨T1, _, rfl, SqT.of upd_same, rfl, _, _, rfl, _, _, rfl, rfl, ?_⟩
      generalize (upd G T1 (.tup [optV o, V.ref d])) = G2 at kT ⊢
      have S2 := S1.keep0 kT
      refine ⟨_, rfl, _, rfl, _, rfl, _, rfl, _, rfl, _, rfl, ps, cap, p, l, X, tx, D, es, xs, d, k, many, bagW ps es zs k j, o, Lf, Df, Nf, rfl, S2, Tr, hk, kT.at (sh j d hd) nin0, hands j o ho, fun G3 k3 => ⟨_, rfl, iteF ?_⟩⟩
      exact ⟨_, _, rfl, kT.trans k3⟩
    · rintro σ G ⟨v8, v9, rfl, kG⟩
      have hdl : zs.length < ds.length := by omega
      have hd := List.getElem?_eq_getElem hdl
      generalize ds[zs.length] = d at hd
      have k02 := k1.trans kG
      refine ⟨_, rfl, _, rfl, _, rfl, R, _, 1, optV r, rfl, rfl, SqT.of (kG.at eR1 nin0), rfl, _, rfl, Nat.zero_le _, fun a ha => ?_⟩
      have k3 : Keep [] G (upd G a (.tup [])) := Keep.new ha
      have a3 : (upd G a (.tup [])) a = some (.tup (memV [])) := upd_same
      generalize (upd G a (.tup [])) = G3 at k3 a3 ⊢
      have k13 := kG.trans k3
      refine ⟨_, rfl, _, rfl, L, _, rfl, .inl (SqL.of ((k1.trans k13).at tz.1 nin0)), Sh, _, _, V.ref d, rfl, rfl, SqL.of (k13.at eSh nin0), by rw [List.length_map]; exact atI_nat (by rw [List.getElem?_map, hd]; rfl), _, rfl, ?_⟩
      exact ⟨ps, cap, p, l, X, tx, D, es, xs, a, d, k, many, 16, [], bagW ps es zs k zs.length, r, Lf, Df, Nf, rfl, by omega, S1.keep0 k13, Tr, hk, a3, by decide, k13.at (sh _ d hd) nin0, left, fun G4 k4 => kk G4 ((k1.trans k13).trans k4)⟩
end
end Fs
/-! repr of a number or None; tests as data; all that is told. -/
namespace Fs
open PySem L2 TL
def reprO : Option Nat → Str
  | none => "None"
  | some k => toString ((k : Nat) : Int)
theorem call_reprO {X : Cx} : CallR X (.builtin "repr") (fun xs H Q => ∃ o : Option Nat, xs = [optV o] ∧ (∀ k, o = some k → k ≤ 1000) ∧ Q (.str (reprO o)) H) := by
  intro pins s σ H xs us Q I r h
  obtain ⟨o, rfl, hk, q⟩ := h
  obtain ⟨u, rfl, ru⟩ := vals1 r
  cases o with
  | none =>
    obtain rfl : u = Value.none := ru
    exact PySem.P.repr_of_none ⟨.str _, H, I.tok _, ⟨_, rfl⟩, q⟩
  | some k =>
    obtain ⟨t, rfl⟩ := ru
    exact PySem.P.repr_of_int (log_small (by have := hk k rfl; omega)) ⟨.str _, H, I.tok _, ⟨_, rfl⟩, q⟩
/-- a test as data -/
def testD : Ts → PyData
  | .one w x => .tuple [.str w, .str x]
  | .not a => .tuple [.str wNot, testD a]
  | .two w a b => .tuple [.str w, testD a, testD b]
theorem TestAt.dpt {K : PySem.W.Frag} {H : Hp} : ∀ {t : Ts} {v : V}, TestAt H t v → Dp K H v (testD t)
  | .one w x, _, h => by
    obtain ⟨p, rfl, e⟩ := h
    exact .tup (SqT.of e) (.cons (.str _) (.cons (.str _) .nil))
  | .not a, _, h => by
    obtain ⟨p, u, rfl, e, g⟩ := h
    exact .tup (SqT.of e) (.cons (.str _) (.cons g.dpt .nil))
  | .two w a b, _, h => by
    obtain ⟨p, u, u', rfl, e, g, g'⟩ := h
    exact .tup (SqT.of e) (.cons (.str _) (.cons g.dpt (.cons g'.dpt .nil)))
theorem ascii_ok {z : Str} (h : ∀ c ∈ z.cps.toList, c < 128) : PyData.strOk z = true := by
  unfold PyData.strOk
  rw [← Array.all_toList, List.all_eq_true]
  exact fun c hc => decide_eq_true (Nat.lt_of_lt_of_le (h c hc) (by decide))
theorem Wf.ascii {ps : List (Str × Str)} (h : Wf ps) : ∀ x ∈ ps.map Prod.fst, PyData.strOk x = true := by
  induction h with
  | nil => exact fun x h => absurd h List.not_mem_nil
  | @snoc ps z y hw hz hn hy ih =>
    intro x hx
    rw [List.map_append] at hx
    rcases List.mem_append.mp hx with v | v
    · exact ih x v
    · have e : x = z := by simpa using v
      rw [e]
      exact ascii_ok fun c hc => by
        have := hz.2.2 c hc
        unfold small at this
        simp only [Bool.and_eq_true, decide_eq_true_eq] at this
        omega
theorem allK_ok {ps : List (Str × Str)} (h : Wf ps) {x : Str} (hx : x ∈ allK ps) : PyData.strOk x = true := by
  rcases List.mem_cons.mp hx with z | z
  · rw [z]; decide +kernel
  · rcases List.mem_cons.mp z with z | z
    · rw [z]; decide +kernel
    · exact h.ascii x z
theorem one_ok {w : Str} (h : w = wKind ∨ w = wSays ∨ w = wNoted) : PyData.strOk w = true := by rcases h with h | h | h <;> rw [h] <;> decide +kernel
theorem two_ok {w : Str} (h : w = wAnd ∨ w = wOr) : PyData.strOk w = true := by rcases h with h | h <;> rw [h] <;> decide +kernel
theorem test_lay {ps : List (Str × Str)} (hw : Wf ps) : ∀ {t : Ts}, t.Ok ps → (testD t).canLay0 = true ∧ (testD t).depth ≤ t.dp + 1
  | .one w x, h => by
    have h1 : PyData.strOk w = true := one_ok (by rcases h with ⟨h, _⟩ | ⟨h, _⟩; exact .inl h; exact .inr h)
    have h2 : PyData.strOk x = true := by rcases h with ⟨_, h⟩ | ⟨_, h⟩; exact allK_ok hw h; exact tx_ok h
    refine ⟨?_, ?_⟩
    · simp only [testD, PyData.canLay0, PyData.canLayAll0, h1, h2, Bool.and_self]
    · simp only [testD, PyData.depth, PyData.depthAll, Ts.dp]; decide
  | .not a, h => by
    obtain ⟨h1, h2⟩ := test_lay hw (t := a) h
    have h3 : PyData.strOk wNot = true := by decide +kernel
    refine ⟨?_, ?_⟩
    · simp only [testD, PyData.canLay0, PyData.canLayAll0, h1, h3, Bool.and_self]
    · simp only [testD, PyData.depth, PyData.depthAll, Ts.dp]; omega
  | .two w a b, h => by
    obtain ⟨h1, h2⟩ := test_lay hw (t := a) h.2.1
    obtain ⟨h3, h4⟩ := test_lay hw (t := b) h.2.2
    have h5 := two_ok h.1
    have l1 : a.dp ≤ Nat.max a.dp b.dp := Nat.le_max_left _ _
    have l2 : b.dp ≤ Nat.max a.dp b.dp := Nat.le_max_right _ _
    refine ⟨?_, ?_⟩
    · simp only [testD, PyData.canLay0, PyData.canLayAll0, h1, h3, h5, Bool.and_self]
    · simp only [testD, PyData.depth, PyData.depthAll, Ts.dp]; omega
theorem test_refl : ∀ t : Ts, PyData.eqv (testD t) (testD t) = true
  | .one w x => by simp [testD, PyData.eqv, PyData.eqvAll]
  | .not a => by simp [testD, PyData.eqv, PyData.eqvAll, test_refl a]
  | .two w a b => by simp [testD, PyData.eqv, PyData.eqvAll, test_refl a, test_refl b]
end Fs
/-! Rows of tests as data. -/
namespace Fs
open PySem L2 TL
def tssD (zs : List (Ts × V)) : PyData := .list (zs.map fun z => testD z.1)
theorem TssAt.dp {K : PySem.W.Frag} {ps : List (Str × Str)} {d : Nat} {H : Hp} {L : Addr} {zs : List (Ts × V)} (h : TssAt ps d H L zs) : Dp K H (.ref L) (tssD zs) := by
  refine .lst (SqL.of h.1) ?_
  have := h.2
  clear h
  induction zs with
  | nil => exact .nil
  | cons z r ih => exact .cons (this z List.mem_cons_self).1.dpt (ih fun y hy => this y (List.mem_cons_of_mem _ hy))
theorem tss_shaped {ps : List (Str × Str)} {d : Nat} {H : Hp} {L : Addr} {zs : List (Ts × V)} (hw : Wf ps) (h : TssAt ps d H L zs) (hd : d ≤ 10) : SeqAt.shaped (tssD zs) = true := by
  have hz : PyData.canLayAll0 (zs.map fun z => testD z.1) = true ∧ PyData.depthAll (zs.map fun z => testD z.1) ≤ 12 := by
    have := h.2
    clear h
    induction zs with
    | nil => simp [PyData.canLayAll0, PyData.depthAll]
    | cons z r ih =>
      obtain ⟨i1, i2⟩ := ih fun y hy => this y (List.mem_cons_of_mem _ hy)
      obtain ⟨_, ok, hdp⟩ := this z List.mem_cons_self
      obtain ⟨j1, j2⟩ := test_lay hw ok
      rw [List.map_cons]
      refine ⟨?_, ?_⟩
      · simp only [PyData.canLayAll0, i1, j1, Bool.and_self]
      · simp only [PyData.depthAll]; omega
  have a1 : (tssD zs).canLay0 = true := by
    unfold tssD
    simp only [PyData.canLay0]
    exact hz.1
  have a2 : (tssD zs).depth ≤ 64 := by
    unfold tssD
    simp only [PyData.depth]
    omega
  unfold SeqAt.shaped
  rw [a1, decide_eq_true a2]
  rfl
theorem tss_refl (zs : List (Ts × V)) : PyData.eqv (tssD zs) (tssD zs) = true := by
  unfold tssD
  simp only [PyData.eqv]
  induction zs with
  | nil => simp [PyData.eqvAll]
  | cons k r ih => rw [List.map_cons]; simp [PyData.eqvAll, test_refl, ih]
end Fs
/-! The law: what is taken out of a fault. -/
namespace Fs
open PySem L2 TL
abbrev sRt : Stmt := top 58 --def _law_right
abbrev aRt : List Str := ["_law_ledger_here", "_law_pairs", "_law_faults_here", "_law_k", "_law_tests_here"]
abbrev nRt : List Str := ["_law_ledger_here", "_law_pairs", "_law_faults_here", "_law_k", "_law_tests_here", "_law_many", "_law_stood", "_law_handed", "_law_found"]
theorem scRt : FnScope nRt aRt (defScope sRt) := ⟨rfl, rfl, rfl, by decide +kernel, rfl, by decide +kernel, by decide +kernel⟩
structure RTx (K : PySem.W.Frag) (mg : Str → Option Value) (C fMy fTo fTk fTr : Addr) : Prop where
  cl : Cls K C
  many : Meth K C "many" fMy
  gT : mg "_law_told" = some (.ref fTo)
  kT : PySem.W.keepIn K (.ref fTo) = true
  gK : mg "taken_out" = some (.ref fTk)
  kK : PySem.W.keepIn K (.ref fTk) = true
  gR : mg "_law_taken_right" = some (.ref fTr)
  kR : PySem.W.keepIn K (.ref fTr) = true
  list : mg "list" = none
  len : mg "len" = none
  repr : mg "repr" = none
def spRt (C CK : Addr) : Sp := fun vs H Q _ => ∃ (ps : List (Str × Str)) (cap : Nat) (p l X L : Addr) (tx : List Str) (D : LDA) (es xs : List Ent) (k n : Nat) (zs : List (Ts × V)) (Lf Df Nf : Nat → Nat), vs = [.ref D.q, .ref l, .ref D.E, .int (k : Int), .ref L] ∧ ScB C CK ps cap p l X tx H D es xs ∧ PotAt H p n ∧ SX ps cap (es ++ xs) ∧ (es ++ xs).length ≤ 8150 ∧ cap ≤ 15 ∧ Tree (es ++ xs) Lf Df Nf ∧ k < (es ++ xs).length ∧ TssAt ps 9 H L zs ∧ L ∉ D.A.ls ∧ zs.length ≤ 100 ∧
  ∀ (H' : Hp) (mm nn : List Addr) (ys : List Ent), ScB C CK ps cap p l X tx H' (D.more mm nn) es (xs ++ ys) → SX ps cap (es ++ (xs ++ ys)) → ys.length ≤ Lf k * (Df k + 1) → Keep D.A.ls H H' → (∀ b ∈ nn, H b = none) → Q (.bl true) H'
section
variable {P : Program} {w : World} {K : PySem.W.Frag} {mg : Str → Option Value} {base : Heap} {C CK fMy fTo fTk fTr : Addr}
theorem ok_rt {f : Addr} {fd dM dT dK dR : FuncData} (F : Fun K "_law_right" "_law_right" sRt f fd) (T : RTx K mg C fMy fTo fTk fTr) (FM : FnOk P w K mg base CX0 1 fMy dM ["self"] (spMany C)) (bM : Binds K dM ["self"] [])
    (FT : FnOk P w K mg base CX0 4 fTo dT ["_law_ledger_here", "_law_many"] (spToF C)) (bT : Binds K dT ["_law_ledger_here", "_law_many"] []) (FK : FnOk P w K mg base CX0 22 fTk dK aTko (spTko C CK)) (bK : Binds K dK aTko [])
    (FR : FnG P w K mg base 22 fTr dR aTkR (spTkR C CK)) (bR : Binds K dR aTkR []) : FnG P w K mg base 23 f fd aRt (spRt C CK) := by
  refine okG F scRt (fun vs H Q E h => ?_) (fun cdv A0 outer s H vs Q Es hg hr h => ?_)
  · obtain ⟨ps, cap, p, l, X, L, tx, D, es, xs, k, n, zs, Lf, Df, Nf, rfl, _⟩ := h
    rfl
  · obtain ⟨ps, cap, p, l, X, L, tx, D, es, xs, k, n, zs, Lf, Df, Nf, rfl, S, pot, sx, hlen, hcap, Tr, hk, tz, nLA, hz, kk⟩ := h
    have hr1 : Room 1 _ := hr.mono (by omega)
    have hr4 : Room 4 _ := hr.mono (by omega)
    have hu := hr.units
    have hgX : (cxOf CX0 P w K mg base nRt "_law_right" (defScope sRt) f cdv A0 outer s H Es).nox.A.guards = some [] := hg
    refine ⟨_, (pss_cons (ps_set (i := 5) scRt.nd rfl (Or.inl rfl) (pe_meth0 (pv 0) T.cl T.many FM hr1 bM .nil pass0))
      (pss_cons (ps_set (i := 6) scRt.nd rfl (Or.inl rfl) (pe_call FT hr4 rfl T.gT T.kT bT .nil pass0 (pa_cons (pv 0) (pa_cons (pv 5) pa_nil))))
      (pss_cons (ps_set (i := 7) scRt.nd rfl (Or.inl rfl) (pe_callTy call_list_of (by rfl) T.list (by decide +kernel) (pa_cons (pv 4) pa_nil)))
      (pss_cons (ps_set (i := 8) scRt.nd rfl (Or.inl rfl) (pe_call FK hr rfl T.gK T.kK bK .nil pass0 (pa_cons (pv 0) (pa_cons (pv 3) (pa_cons (pv 7) pa_nil)))))
      (pss_cons (ps_if (PW.pt (pw_or (pt_cmpR (op_neD hu) (pv 7) (pv 4) (nomark _)) (pw_or1 (pt_cmpR op_ne (pe_callB (call_reprD hgX hu) (by rfl) T.repr (by decide +kernel) (pa_cons (pe_slice sl_list (pv 6) po_none (po_some (pe_callB call_len_seq (by rfl) T.len PySem.boot_len (pa_cons (pv 2) pa_nil)))) pa_nil)) (pe_callB (call_reprD hgX hu) (by rfl) T.repr (by decide +kernel) (pa_cons (pv 2) pa_nil)) (nomark _))))) (pss_one (ps_ret pe_bl)) pss_nil)
      (pss_cons (ps_if (pt_cmpR op_ne (pe_callB (call_reprD hgX hu) (by rfl) T.repr (by decide +kernel) (pa_cons (pe_call FT hr4 rfl T.gT T.kT bT .nil pass0 (pa_cons (pv 0) (pa_cons (pv 5) pa_nil))) pa_nil)) (pe_callB (call_reprD hgX hu) (by rfl) T.repr (by decide +kernel) (pa_cons (pv 6) pa_nil)) (nomark _)) (pss_one (ps_ret pe_bl)) pss_nil)
      (pss_one (ps_ret (pe_callG FR hgX hr rfl T.gR T.kR bR (pa_cons (pv 0) (pa_cons (pv 1) (pa_cons (pv 6) (pa_cons (pv 3) (pa_cons (pv 4) (pa_cons (pv 8) (pa_cons (pv 5) pa_nil)))))))))))))))), ?_⟩
    have hle : es.length ≤ (es ++ xs).length := by rw [List.length_append]; omega
    have lr := S.lr
    have BX := Tr.back'
    have small := sx.small (by omega)
    obtain ⟨w1, w2, w3, w4⟩ := ents_okN (n := 8150) (c := 15) small hlen (fun e he => Nat.le_trans (sx e he).2.1 hcap) (by decide)
    have smallE : AllSmall es := fun e he => small e (List.mem_append_left _ he)
    obtain ⟨o1, o2, o3, o4⟩ := ents_okN (n := 8150) (c := 15) smallE (by omega) (fun e he => Nat.le_trans (sx e (List.mem_append_left _ he)).2.1 hcap) (by decide)
    have isA := S.st.led.isl
    refine ⟨_, rfl, D.q, D.A.dx, _, rfl, S.st.led.ins, flg1 D.A, D.q, D.A, D.ms, D.ns, es ++ xs, rfl, S.st.led, ?_⟩
    refine ⟨_, rfl, _, rfl, D.q, D.A, D.ms, D.ns, es ++ xs, (es ++ xs).length, p :: (D.A.ls ++ D.ns), rfl, S.st.led, by omega, Nat.le_refl _, (fun b hb => ?_), fun H1 Fs rs k1 hF eF rows nd new => ?_⟩
    · rcases List.mem_cons.mp hb with z | z
      · rw [z]
        obtain ⟨y, e⟩ := pot.some
        exact ⟨_, e⟩
      · rcases List.mem_append.mp z with z | z
        · obtain ⟨y, e⟩ := isA b z
          exact ⟨_, e⟩
        · obtain ⟨y, e⟩ := S.st.led.notes.is b z
          exact ⟨_, e⟩
    rw [List.take_length] at rows
    have S1 := S.keep0 k1
    have lF : rs.length = (es ++ xs).length := rows.len
    refine ⟨_, rfl, L, _, rfl, .inl (SqL.of (k1.at tz.1 nin0)), fun hd hhd => ?_⟩
    have kH : Keep [] H1 (upd H1 hd (.lst (zs.map Prod.snd))) := Keep.new hhd
    have eH : (upd H1 hd (.lst (zs.map Prod.snd))) hd = some (.lst (zs.map Prod.snd)) := upd_same
    change gName 7 (V.ref hd) _ (upd H1 hd (.lst (zs.map Prod.snd))) _
    generalize (upd H1 hd (.lst (zs.map Prod.snd))) = H2 at kH eH ⊢
    have k2 := k1.trans kH
    have S2 := S.keep0 k2
    have pot2 := pot.keep k2 nin0
    have tz2 := tz.keep0 k2
    have eF2 := kH.at eF nin0
    have rows2 := rows.keep (kH.more fun b z => absurd z nin0)
    have hhd0 : H hd = none := Keep.free k1 hhd nin0
    have off : ∀ {b : Addr}, H b = none → b ∉ D.A.ls := fun {b} hb z => by
      obtain ⟨ys, q⟩ := isA b z
      rw [hb] at q; cases q
    refine ⟨_, rfl, _, rfl, _, rfl, D.q, hd, k, D.A, D.ms, D.ns, es ++ xs, ps, zs, Lf, Df, Nf, rfl, S2.lt, Tr, S2.mem101, S2.kinds, sx.sheaf S.wf, hk, ⟨eH, tz2.2⟩, hz, by omega, fun H3 R Hl mm nn ys Lf' Df' Nf' rs' r tk => ?_⟩
    have S3 := S2.news pot2 tk.keep tk.led tk.new tk.tree tk.news
    have sx3 := sx.news tk.news
    have eAs : es ++ (xs ++ ys) = es ++ xs ++ ys := (List.append_assoc ..).symm
    have kA : Keep D.A.ls H H3 := (k2.more fun b z => absurd z nin0).trans tk.keep
    have tz3 : TssAt ps 9 H3 L zs := tz2.keep tk.keep nLA S2.st.led.isl
    have tzH3 : TssAt ps 9 H3 hd zs := (show TssAt ps 9 H2 hd zs from ⟨eH, tz2.2⟩).keep tk.keep (off hhd0) S2.st.led.isl
    have eF3 := tk.keep.at eF2 (off hF)
    have rows3 : RowsAt (Fs :: p :: (D.A.ls ++ D.ns)) H3 rs (es ++ xs) := rows2.keep (tk.keep.more fun b hb => List.mem_cons_of_mem _ (List.mem_cons_of_mem _ (List.mem_append_left _ hb)))
    have eR := tk.eR
    have eHl := tk.eHl
    have few := tk.few
    rw [lvW_len Tr (k + 1) k (Nat.lt_succ_self _) hk] at few
    -- handed in
    refine ⟨_, rfl, _, rfl, tssD zs, tssD zs, tzH3.dp, tz3.dp, tss_shaped S.wf tzH3 (by decide), tss_shaped S.wf tz3 (by decide), _, rfl, ?_⟩
    rw [tss_refl]
    refine iteF ?_
    -- the first ones
    refine ⟨_, rfl, _, rfl, D.E, D.rs.map V.ref, rfl, .inl (SqL.of S3.st.ent), _, rfl, Fs, _, rfl, SqL.of eF3, fun S' hS' => ?_⟩
    have hcut : cutV (rs.map V.ref) none (some (((D.rs.map V.ref).length : Nat) : Int)) = (rs.take es.length).map V.ref := by rw [List.length_map, lr, cut_to (by rw [List.length_map, lF]; exact hle), List.map_take]
    have k4 : Keep [] H3 (upd H3 S' (.lst (cutV (rs.map V.ref) none (some (((D.rs.map V.ref).length : Nat) : Int))))) := Keep.new hS'
    have e4 : (upd H3 S' (.lst (cutV (rs.map V.ref) none (some (((D.rs.map V.ref).length : Nat) : Int))))) S' = some (.lst ((rs.take es.length).map V.ref)) := by rw [upd_same, hcut]
    generalize (upd H3 S' (.lst (cutV (rs.map V.ref) none (some (((D.rs.map V.ref).length : Nat) : Int))))) = H4 at k4 e4 ⊢
    have S4 := S3.keep0 k4
    have rows4 := rows3.keep (k4.more fun b z => absurd z nin0)
    have rowsT := rows4.take (n := es.length)
    rw [List.take_left] at rowsT
    have d1 : Dp K H4 (.ref S') (entsD es) := ToldAt.dp ⟨_, e4, rowsT⟩
    have d2 : Dp K H4 (.ref D.E) (entsD es) := ToldAt.dp (bad := p :: D.E :: (D.A.ls ++ (D.more mm nn).ns)) ⟨D.rs, S4.st.ent, S4.st.rows⟩
    refine ⟨S', entsD es, rfl, d1, o1, o2, o3, o4, _, rfl, D.E, entsD es, rfl, d2, o1, o2, o3, o4, rfl, _, rfl, iteNS rfl ?_⟩
    -- all as they were
    refine ⟨_, rfl, _, rfl, D.q, D.A, _, _, es ++ (xs ++ ys), (es ++ xs).length, [], rfl, S4.st.led, by omega, by rw [eAs, List.length_append (as := es ++ xs)]; omega, (fun b z => absurd z nin0), fun H5 F2 rs2 k5 hF2 eF25 rows5 _ _ => ?_⟩
    rw [eAs, List.take_left] at rows5
    have S5 := S4.keep0 k5
    have k35 := k4.trans k5
    have eF5 := k35.at eF3 nin0
    have d3 : Dp K H5 (.ref F2) (entsD (es ++ xs)) := ToldAt.dp ⟨_, eF25, rows5⟩
    have rows35 := rows3.keep (k35.more fun b z => absurd z nin0)
    have d4 : Dp K H5 (.ref Fs) (entsD (es ++ xs)) := ToldAt.dp ⟨_, eF5, rows35⟩
    refine ⟨F2, entsD (es ++ xs), rfl, d3, w1, w2, w3, w4, _, rfl, Fs, entsD (es ++ xs), rfl, d4, w1, w2, w3, w4, rfl, _, rfl, iteNS rfl ?_⟩
    -- what is taken out
    have e0 : (es ++ xs) ++ [] = es ++ xs := List.append_nil _
    have St := S.stood pot sx (by omega) k2 hF eF2 rows2 nd new
    have St3 := (St.news pot2 tk.keep (by rw [e0]; exact tk.led) tk.new (by rw [e0]; exact tk.tree) (by rw [e0]; exact tk.news)).keep0 k35
    have hleft : PR (es ++ xs) (es ++ xs ++ ys) (es ++ xs).length 16 (inB (bagW ps (es ++ xs) zs k zs.length)) k r := by
      rcases tk.left.pr with ⟨a, _⟩ | ⟨_, b⟩
      · exact absurd a (Nat.lt_irrefl _)
      · exact b
    refine ⟨_, rfl, _, rfl, _, rfl, _, rfl, _, rfl, _, rfl, _, rfl, ?_⟩
    refine ⟨ps, cap, p, l, X, L, R, Hl, tx, (D.stood Fs rs).more mm nn, es ++ xs, [] ++ ys, k, (es ++ xs).length, zs, rs', r, rfl, St3, hk, tz3.keep0 k35, hz, k35.at eR nin0, k35.at eHl nin0, tk.len, fun j o h => (tk.hands j o h).hand (by rw [← tk.len]; exact (List.getElem?_eq_some_iff.mp h).1), hleft, fun H6 k6 => ?_⟩
    exact kk H6 mm nn ys (S5.keep0 k6) (by rw [eAs]; exact sx3) few (kA.trans ((k35.trans k6).more fun b z => absurd z nin0)) fun b hb => Keep.free k2 (tk.new b hb) nin0
end
end Fs
/-! The law: a plain one, or the top. -/
namespace Fs
open PySem L2 TL
abbrev sPoT : Stmt := top 57 --def _law_plain_or_top
abbrev aPoT : List Str := ["_law_pot_here", "_law_faults_here"]
abbrev nPoT : List Str := ["_law_pot_here", "_law_faults_here", "_law_plain", "_law_k"]
theorem scPoT : FnScope nPoT aPoT (defScope sPoT) := ⟨rfl, rfl, rfl, by decide +kernel, rfl, by decide +kernel, by decide +kernel⟩
structure PoTx (K : PySem.W.Frag) (mg : Str → Option Value) (fDg fTp : Addr) : Prop where
  gD : mg "_law_digit" = some (.ref fDg)
  kD : PySem.W.keepIn K (.ref fDg) = true
  gT : mg "_law_top" = some (.ref fTp)
  kT : PySem.W.keepIn K (.ref fTp) = true
  len : mg "len" = none
  range : mg "range" = none
def spPoT (C CK : Addr) : Sp := fun vs H Q _ => ∃ (ps : List (Str × Str)) (cap : Nat) (p l X : Addr) (tx : List Str) (D : LDA) (es xs : List Ent) (n : Nat), vs = [.ref p, .ref D.E] ∧ ScB C CK ps cap p l X tx H D es xs ∧ es.length ≤ 900 ∧ PotAt H p n ∧ n < 2 ^ 30 ∧
  ∀ (H' : Hp) (k : Nat), k < es.length → Keep [p] H H' → PotAt H' p (n + 10) → Q (.int (k : Int)) H'
section
variable {P : Program} {w : World} {K : PySem.W.Frag} {mg : Str → Option Value} {base : Heap} {C CK fDg fTp : Addr}
theorem ok_pot2 {f : Addr} {fd dD dT : FuncData} (F : Fun K "_law_plain_or_top" "_law_plain_or_top" sPoT f fd) (T : PoTx K mg fDg fTp) (FD : FnOk P w K mg base CX0 1 fDg dD ["_law_pot_here", "_law_many"] spDigit) (bD : Binds K dD ["_law_pot_here", "_law_many"] [])
    (FTp : FnOk P w K mg base CX0 2 fTp dT ["_law_pot_here", "_law_faults_here"] spTop) (bT : Binds K dT ["_law_pot_here", "_law_faults_here"] []) : FnOk P w K mg base CX0 3 f fd aPoT (spPoT C CK) := by
  refine F.ok scPoT (fun vs H Q E h => ?_) (fun cdv A0 outer s H vs Q Es hr h => ?_)
  · obtain ⟨ps, cap, p, l, X, tx, D, es, xs, n, rfl, _⟩ := h
    rfl
  · obtain ⟨ps, cap, p, l, X, tx, D, es, xs, n, rfl, S, h900, pot, hn, kk⟩ := h
    have hr1 : Room 1 _ := hr.mono (by omega)
    have hu := hr.units
    refine ⟨_, (pss_cons (ps_setLc (i := 2) (own := [("_law_k", 3)]) (g := gName 3) (tt := (tTest (tOp (rEqD K) (tOp (rIxL K) (tOp (rIxL K) (tVar 1) (tVar 3)) (tC (.int 2))) (tLst tNil)))) (te := (tVar 3)) rfl scPoT.nd rfl rfl (sw_true rfl rfl rfl (by decide +kernel)) (pi_range1 rfl T.range (pa_cons (pe_callB call_len_seq (by rfl) T.len PySem.boot_len (pa_cons (pv 1) pa_nil)) pa_nil)) (blkOk_by (N := nPoT) (sc := defScope sPoT) (by decide +kernel)) (fun _ _ _ _ _ => (pg_name (i := 3) scPoT.nd rfl (Or.inl rfl))) (fun _ _ _ _ _ => by exact (pts_one (pt_cmpR (op_eqD hu) (pe_ix ix_list (pe_ix ix_list (pv 1) (pv 3) (fun _ _ => rfl)) pe_int (fun _ _ => rfl)) (pe_lst pa_nil) (nomark _)))) (fun _ _ _ _ _ => by exact (pv 3)))
      (pss_cons (ps_if (pt_cmpR op_eq (pe_call FD hr1 rfl T.gD T.kD bD .nil pass0 (pa_cons (pv 0) (pa_cons pe_int pa_nil))) pe_int (nomark _)) (pss_one (ps_ret (pe_ix ix_list (pv 2) (pe_call FD hr1 rfl T.gD T.kD bD .nil pass0 (pa_cons (pv 0) (pa_cons (pe_callB call_len_seq (by rfl) T.len PySem.boot_len (pa_cons (pv 2) pa_nil)) pa_nil))) (fun _ _ => rfl)))) pss_nil)
      (pss_one (ps_ret (pe_call FTp hr rfl T.gT T.kT bT .nil pass0 (pa_cons (pv 0) (pa_cons (pv 1) pa_nil))))))), ?_⟩
    have lr := S.lr
    have pos := S.pos
    obtain ⟨Lf, Df, Nf, Tr⟩ := S.st.tree
    obtain ⟨x0, ep0⟩ := pot.some
    refine ⟨_, rfl, D.E, _, rfl, .inl (SqL.of S.st.ent), _, rfl, by omega, by rw [List.length_map]; omega, fun M hM => ?_⟩
    rw [List.length_map, lr, Int.toNat_natCast]
    refine lc_range (lo := 0) (n := es.length) (fun i G => Keep [] H G ∧ ∃ ks : List Nat, G M = some (.lst (memV ks)) ∧ (∀ k ∈ ks, k < es.length) ∧ ks.length ≤ i ∧ (0 < i → ks ≠ [])) ⟨Keep.new hM, [], upd_same, fun k h => absurd h List.not_mem_nil, Nat.le_refl _, fun h => absurd h (Nat.lt_irrefl _)⟩ (fun i G hi hI => ?_) (fun G hI => ?_)
    · obtain ⟨kG, ks, eM, hin, hl, hp⟩ := hI
      have z0 : (0 : Int) + (i : Int) = (i : Int) := Int.zero_add _
      rw [z0]
      have he := List.getElem?_eq_getElem hi
      generalize es[i] = e at he
      have SG := S.keep0 kG
      obtain ⟨r', hq, m, n', g1, g2, g3, g4, g5, g6⟩ := SG.st.rows.at he
      refine ⟨rfl, ?_⟩
      refine ⟨_, rfl, _, rfl, D.E, _, _, V.ref r', rfl, rfl, SqL.of SG.st.ent, atI_nat (by rw [List.getElem?_map, hq]; rfl), r', _, 2, .ref m, rfl, rfl, SqL.of g4, rfl, Nat.zero_le _, fun e2 he2 => ?_⟩
      have k2 : Keep [] G (upd G e2 (.lst [])) := Keep.new he2
      have a2 : (upd G e2 (.lst [])) e2 = some (.lst (memV [])) := upd_same
      generalize (upd G e2 (.lst [])) = G2 at k2 a2 ⊢
      refine ⟨intsD e.mem, intsD [], dp_intsD (k2.at g5 nin0), dp_intsD a2, ints_shaped _, ints_shaped _, _, rfl, ?_⟩
      rw [ints_nil]
      have eM2 := k2.at eM nin0
      have kG2 := kG.trans k2
      by_cases hm : e.mem = []
      · rw [hm]
        refine iteT ⟨_, rfl, _, eM2, Nat.lt_of_le_of_lt (by rw [List.length_map]; omega : _ ≤ 1000) (by decide), kG2.freshTo hM, ks ++ [i], ?_, fun k hk => ?_, by rw [List.length_append]; show ks.length + 1 ≤ i + 1; omega, fun _ h => by simp at h⟩
        · rw [upd_same]
          unfold memV
          rw [List.map_append]; rfl
        · rcases List.mem_append.mp hk with z | z
          · exact hin k z
          · rw [List.mem_singleton.mp z]; exact hi
      · rw [show e.mem.isEmpty = false by cases q : e.mem with | nil => exact absurd q hm | cons a b => rfl]
        refine iteF ⟨kG2, ks, eM2, hin, by omega, fun _ => hp ?_⟩
        refine Nat.pos_of_ne_zero fun z => ?_
        subst z
        obtain ⟨m0, hm0⟩ := List.exists_mem_of_ne_nil _ hm
        have := Tr.back 0 e he m0 hm0
        omega
    obtain ⟨kG, ks, eM, hin, hl, hp⟩ := hI
    have hne := hp pos
    have lpos : 0 < ks.length := List.length_pos_iff.mpr hne
    have potG := pot.keep kG nin0
    have lm : (memV ks).length = ks.length := List.length_map ..
    have nMp : M ≠ p := fun z => by rw [z, ep0] at hM; cases hM
    refine ⟨_, rfl, p, n, 3, rfl, potG, by omega, by decide, by decide, fun d G1 d0 d1 hk1 p1 => ⟨rfl, _, rfl, ite2 (fun _ => ?_) (fun _ => ?_)⟩⟩
    · have k1 := keep_of_dig hk1
      refine ⟨_, rfl, _, rfl, _, rfl, M, _, rfl, .inl (SqL.of (k1.at eM (nin1 nMp))), p, n + 1, _, rfl, p1, by omega, by rw [lm]; omega, by rw [lm]; omega, fun d2 G2 b0 b1 hk2 p2 => ?_⟩
      rw [lm] at b1
      obtain ⟨y, hy1, hy2, hy3⟩ := digit_in (l := ks) b0 b1
      have k2 := keep_of_dig hk2
      refine ⟨M, _, d2, .int (y : Int), rfl, rfl, SqL.of (k2.at (k1.at eM (nin1 nMp)) (nin1 nMp)), ?_, ?_⟩
      · rw [← hy3]
        exact atI_nat (by rw [List.getElem?_map, hy2]; rfl)
      · exact kk G2 y (hin y hy1) (((kG.more fun b z => absurd z nin0).trans k1).trans k2) (p2.le (by omega))
    · have k1 := keep_of_dig hk1
      have S1 := (S.keep0 kG).keepP potG k1
      have nEp : D.E ≠ p := fun z => S.st.np (by rw [z]; exact List.mem_cons_self)
      refine ⟨_, rfl, _, rfl, p, D.E, _, _, rfl, p1, by omega, S1.st.ent, nEp, by rw [List.length_map, lr]; omega, by rw [List.length_map, lr]; omega, fun G2 k hk k2 p2 => ?_⟩
      rw [List.length_map, lr] at hk
      exact kk G2 k hk (((kG.more fun b z => absurd z nin0).trans k1).trans k2) (p2.le (by omega))
end
end Fs
/-! The law: what is taken out of what came anew. -/
namespace Fs
open PySem L2 TL
theorem lvW_top {es : List Ent} {Lf Df Nf : Nat → Nat} (T : Tree es Lf Df Nf) : ∀ (n k : Nat), k < n → k < es.length → ∃ x ∈ lvW es k, x.1.length = Df k := by
  intro n
  induction n with
  | zero => intro k h; omega
  | succ n ih =>
    intro k hk hl
    have he := List.getElem?_eq_getElem hl
    generalize es[k] = e at he
    by_cases z : e.mem = []
    · refine ⟨([], k), by rw [lvW_leaf he z]; exact List.mem_singleton.mpr rfl, ?_⟩
      rw [(T.leaf k e he z).2.2]; rfl
    · obtain ⟨_, _, _, m, hm, hd⟩ := T.nest k e he z
      have hb := T.back k e he m hm
      obtain ⟨x, hx, hxl⟩ := ih m (by omega) (by omega)
      obtain ⟨i, hi⟩ := List.mem_iff_getElem?.mp hm
      have hil := (List.getElem?_eq_some_iff.mp hi).1
      refine ⟨(i :: x.1, x.2), ?_, ?_⟩
      · rw [lvW_nest T.back' he z, List.mem_flatMap]
        refine ⟨i, List.mem_range.mpr hil, ?_⟩
        have : e.mem.getD i 0 = m := by rw [List.getD_eq_getElem?_getD, hi]; rfl
        rw [this]
        exact List.mem_map.mpr ⟨x, hx, rfl⟩
      · show x.1.length + 1 = _
        rw [hxl, hd]
theorem Tree.same {es xs : List Ent} {Lf Df Nf Lf' Df' Nf' : Nat → Nat} (T : Tree es Lf Df Nf) (T' : Tree (es ++ xs) Lf' Df' Nf') {i : Nat} (hi : i < es.length) : Lf' i = Lf i ∧ Df' i = Df i := by
  have hi' : i < (es ++ xs).length := by rw [List.length_append]; omega
  have e : lvW (es ++ xs) i = lvW es i := lvW_app T.back' hi
  have a := lvW_len T (i + 1) i (Nat.lt_succ_self _) hi
  have a' := lvW_len T' (i + 1) i (Nat.lt_succ_self _) hi'
  obtain ⟨x, hx, xl⟩ := lvW_top T (i + 1) i (Nat.lt_succ_self _) hi
  obtain ⟨y, hy, yl⟩ := lvW_top T' (i + 1) i (Nat.lt_succ_self _) hi'
  have b := lvW_deep T (i + 1) i (Nat.lt_succ_self _)
  have b' := lvW_deep T' (i + 1) i (Nat.lt_succ_self _)
  rw [e] at a' hy b'
  have c1 := b y hy
  have c2 := b' x hx
  omega
abbrev sAn : Stmt := top 59 --def _law_anew_right
abbrev aAn : List Str := ["_law_pot_here", "_law_ledger_here", "_law_pairs", "_law_faults_here", "_law_texts_here", "_law_k", "_law_tests_here"]
abbrev nAn : List Str := ["_law_pot_here", "_law_ledger_here", "_law_pairs", "_law_faults_here", "_law_texts_here", "_law_k", "_law_tests_here", "_law_hands", "_law_left", "_law_new", "_law_one", "_law_others"]
theorem scAn : FnScope nAn aAn (defScope sAn) := ⟨rfl, rfl, rfl, by decide +kernel, rfl, by decide +kernel, by decide +kernel⟩
structure ANx (K : PySem.W.Frag) (mg : Str → Option Value) (C fMy fDg fTk fTs fTo fRt : Addr) : Prop where
  cl : Cls K C
  many : Meth K C "many" fMy
  gDg : mg "_law_digit" = some (.ref fDg)
  kDg : PySem.W.keepIn K (.ref fDg) = true
  gTk : mg "taken_out" = some (.ref fTk)
  kTk : PySem.W.keepIn K (.ref fTk) = true
  gTs : mg "_law_tests" = some (.ref fTs)
  kTs : PySem.W.keepIn K (.ref fTs) = true
  gTo : mg "_law_told" = some (.ref fTo)
  kTo : PySem.W.keepIn K (.ref fTo) = true
  gRt : mg "_law_right" = some (.ref fRt)
  kRt : PySem.W.keepIn K (.ref fRt) = true
  list : mg "list" = none
  len : mg "len" = none
def spAn (C CK : Addr) : Sp := fun vs H Q _ => ∃ (ps : List (Str × Str)) (cap : Nat) (p l X L : Addr) (tx : List Str) (D : LDA) (es xs : List Ent) (k n B : Nat) (zs : List (Ts × V)) (Lf Df Nf : Nat → Nat), vs = [.ref p, .ref D.q, .ref l, .ref D.E, .ref X, .int (k : Int), .ref L] ∧ ScB C CK ps cap p l X tx H D es xs ∧ PotAt H p n ∧ n < 2 ^ 29 ∧ SX ps cap (es ++ xs) ∧ (es ++ xs).length + 2 * B ≤ 8150 ∧ cap ≤ 15 ∧ Tree (es ++ xs) Lf Df Nf ∧ k < (es ++ xs).length ∧ Lf k * (max 1 (Df k) + 1) ≤ B ∧ TssAt ps 9 H L zs ∧ L ∉ D.A.ls ∧ zs.length ≤ 100 ∧
  ∀ (H' : Hp) (mm nn : List Addr) (ys : List Ent), ScB C CK ps cap p l X tx H' (D.more mm nn) es (xs ++ ys) → SX ps cap (es ++ (xs ++ ys)) → ys.length ≤ 3 * B → Keep (p :: D.A.ls) H H' → (∀ b ∈ nn, H b = none) → PotAt H' p (n + 2000) → Q (.bl true) H'
section
variable {P : Program} {w : World} {K : PySem.W.Frag} {mg : Str → Option Value} {base : Heap} {C CK fMy fDg fTk fTs fTo fRt : Addr}
theorem ok_an {f : Addr} {fd dM dD dTk dTs dTo dR : FuncData} (F : Fun K "_law_anew_right" "_law_anew_right" sAn f fd) (T : ANx K mg C fMy fDg fTk fTs fTo fRt) (FM : FnOk P w K mg base CX0 1 fMy dM ["self"] (spMany C)) (bM : Binds K dM ["self"] [])
    (FD : FnOk P w K mg base CX0 1 fDg dD ["_law_pot_here", "_law_many"] spDigit) (bDg : Binds K dD ["_law_pot_here", "_law_many"] []) (FTk : FnOk P w K mg base CX0 22 fTk dTk aTko (spTko C CK)) (bTk : Binds K dTk aTko [])
    (FTs : FnOk P w K mg base CX0 6 fTs dTs aTsts (spTsts C CK)) (bTs : Binds K dTs aTsts []) (FTo : FnOk P w K mg base CX0 4 fTo dTo ["_law_ledger_here", "_law_many"] (spToF C)) (bTo : Binds K dTo ["_law_ledger_here", "_law_many"] [])
    (FR : FnG P w K mg base 23 fRt dR aRt (spRt C CK)) (bRt : Binds K dR aRt []) : FnG P w K mg base 24 f fd aAn (spAn C CK) := by
  refine okG F scAn (fun vs H Q E h => ?_) (fun cdv A0 outer s H vs Q Es hg hr h => ?_)
  · obtain ⟨ps, cap, p, l, X, L, tx, D, es, xs, k, n, B, zs, Lf, Df, Nf, rfl, _⟩ := h
    rfl
  · obtain ⟨ps, cap, p, l, X, L, tx, D, es, xs, k, n, B, zs, Lf, Df, Nf, rfl, S, pot, hn, sx, hlen, hcap, Tr, hk, hB, tz, nLA, hz, kk⟩ := h
    have hr1 : Room 1 _ := hr.mono (by omega)
    have hr4 : Room 4 _ := hr.mono (by omega)
    have hr6 : Room 6 _ := hr.mono (by omega)
    have hr22 : Room 22 _ := hr.mono (by omega)
    have hu := hr.units
    have hgX : (cxOf CX0 P w K mg base nAn "_law_anew_right" (defScope sAn) f cdv A0 outer s H Es).nox.A.guards = some [] := hg
    refine ⟨_, (pss_cons (ps_asg (pe_call FTk hr22 rfl T.gTk T.kTk bTk .nil pass0 (pa_cons (pv 1) (pa_cons (pv 5) (pa_cons (pe_callTy call_list_of (by rfl) T.list (by decide +kernel) (pa_cons (pv 6) pa_nil)) pa_nil)))) (pg_tup rfl (pgs_cons (pg_name (i := 7) scAn.nd rfl (Or.inl rfl)) (pgs_cons (pg_name (i := 8) scAn.nd rfl (Or.inl rfl)) pgs_nil))))
      (pss_cons (ps_setLc (i := 9) (own := [("_law_one", 10)]) (g := gName 10) (tt := (tAnd (tTest (tOp (fun x y H Q => y = .non ∧ Q (.bl (!decide (x = .non))) H) (tVar 10) (tC .non))) (tTest (tOp (rI0 fun i j => .bl (decide (j ≤ i))) (tVar 10) (tCB (fun xs H Q => ∃ p ys, xs = [V.ref p] ∧ (SqL K H p ys ∨ SqT K H p ys) ∧ Q (V.int (ys.length : Int)) H) (tCons (tVar 3) tNil)))))) (te := (tVar 10)) rfl scAn.nd rfl rfl (sw_true rfl rfl rfl (by decide +kernel)) (pi_list (pe_op op_cat (pv 7) (pe_lst (pa_cons (pv 8) pa_nil)))) (blkOk_by (N := nAn) (sc := defScope sAn) (by decide +kernel)) (fun _ _ _ _ _ => (pg_name (i := 10) scAn.nd rfl (Or.inl rfl))) (fun _ _ _ _ _ => by exact (pts_one (PW.pt (pw_and (pt_cmpR op_notN (pv 10) pe_non (nomark _)) (pw_and1 (pt_cmpR op_ge (pv 10) (pe_callB call_len_seq (by rfl) T.len PySem.boot_len (pa_cons (pv 3) pa_nil)) (nomark _))))))) (fun _ _ _ _ _ => by exact (pv 10)))
      (pss_cons (ps_if (pt_cmpR (op_eqD hu) (pv 9) (pe_lst pa_nil) (nomark _)) (pss_one (ps_ret pe_bl)) pss_nil)
      (pss_cons (ps_set (i := 10) scAn.nd rfl (Or.inl rfl) (pe_ix ix_list (pv 9) (pe_call FD hr1 rfl T.gDg T.kDg bDg .nil pass0 (pa_cons (pv 0) (pa_cons (pe_callB call_len_seq (by rfl) T.len PySem.boot_len (pa_cons (pv 9) pa_nil)) pa_nil))) (fun _ _ => rfl)))
      (pss_cons (ps_set (i := 11) scAn.nd rfl (Or.inl rfl) (pe_call FTs hr6 rfl T.gTs T.kTs bTs .nil pass0 (pa_cons (pv 0) (pa_cons (pv 2) (pa_cons (pv 4) (pa_cons (pe_call FTo hr4 rfl T.gTo T.kTo bTo .nil pass0 (pa_cons (pv 1) (pa_cons (pe_meth0 (pv 1) T.cl T.many FM hr1 bM .nil pass0) pa_nil))) (pa_cons (pv 10) (pa_cons pe_int pa_nil))))))))
      (pss_one (ps_ret (pe_and (pe_callG FR hgX hr rfl T.gRt T.kRt bRt (pa_cons (pv 1) (pa_cons (pv 2) (pa_cons (pv 3) (pa_cons (pv 10) (pa_cons (pv 11) pa_nil)))))) (pe_one (pe_callG FR hgX hr rfl T.gRt T.kRt bRt (pa_cons (pv 1) (pa_cons (pv 2) (pa_cons (pv 3) (pa_cons (pv 10) (pa_cons (pv 11) pa_nil))))))))))))))), ?_⟩
    have isA := S.st.led.isl
    have off : ∀ {b : Addr}, H b = none → b ∉ D.A.ls := fun {b} hb z => by
      obtain ⟨ys, q⟩ := isA b z
      rw [hb] at q; cases q
    have lr := S.lr
    have BX := Tr.back'
    have pA : p ∉ D.A.ls := fun z => S.st.np (List.mem_cons_of_mem _ (List.mem_append_left _ z))
    have lvl : (lvW (es ++ xs) k).length = Lf k := lvW_len Tr (k + 1) k (Nat.lt_succ_self _) hk
    refine ⟨_, rfl, _, rfl, _, rfl, L, _, rfl, .inl (SqL.of tz.1), fun hd hhd => ?_⟩
    have kH : Keep [] H (upd H hd (.lst (zs.map Prod.snd))) := Keep.new hhd
    have eH : (upd H hd (.lst (zs.map Prod.snd))) hd = some (.lst (zs.map Prod.snd)) := upd_same
    generalize (upd H hd (.lst (zs.map Prod.snd))) = H2 at kH eH ⊢
    have S2 := S.keep0 kH
    have pot2 := pot.keep kH nin0
    have tz2 := tz.keep0 kH
    dsimp only [tNil]
    refine ⟨D.q, hd, k, D.A, D.ms, D.ns, es ++ xs, ps, zs, Lf, Df, Nf, rfl, S2.lt, Tr, S2.mem101, S2.kinds, sx.sheaf S.wf, hk, ⟨eH, tz2.2⟩, hz, by omega, fun H3 R Hl mm nn ys Lf' Df' Nf' rs r tk => ?_⟩
    have S3 := S2.news pot2 tk.keep tk.led tk.new tk.tree tk.news
    have sx3 := sx.news tk.news
    have eAs : es ++ (xs ++ ys) = es ++ xs ++ ys := (List.append_assoc ..).symm
    have kA : Keep D.A.ls H H3 := (kH.more fun b z => absurd z nin0).trans tk.keep
    have pot3 := pot2.keep tk.keep pA
    have eR := tk.eR
    have eHl := tk.eHl
    have few := tk.few
    rw [lvl] at few
    have fewB : ys.length ≤ B := Nat.le_trans few (Nat.le_trans (Nat.mul_le_mul_left _ (Nat.succ_le_succ (Nat.le_max_right _ _))) hB)
    have hrs := tk.len
    -- what each of them is
    have each : ∀ f : Nat, some f ∈ rs ++ [r] → f < (es ++ xs ++ ys).length ∧ Lf' f * (Df' f + 1) ≤ B := fun f hf => by
      have all : ∃ j, HR (Df k) (es ++ xs ++ ys) ps (es ++ xs) zs k j (some f) := by
        rcases List.mem_append.mp hf with z | z
        · obtain ⟨j, hj⟩ := List.mem_iff_getElem?.mp z
          exact ⟨j, tk.hands j _ hj⟩
        · rw [List.mem_singleton.mp z]
          exact ⟨_, tk.left⟩
      obtain ⟨j, h⟩ := all
      obtain ⟨a, b⟩ := h.got f rfl
      refine ⟨a, Nat.le_trans (Nat.mul_le_mul ?_ (Nat.succ_le_succ ?_)) hB⟩
      · have l1 := lvW_len tk.tree (f + 1) f (Nat.lt_succ_self _) a
        have l2 := congrArg List.length b
        rw [List.length_map, l1] at l2
        rw [l2, ← lvl]
        unfold bagN bagX
        rw [List.length_map]
        exact List.length_filter_le _ _
      · obtain ⟨x, hx, hxl⟩ := lvW_top tk.tree (f + 1) f (Nat.lt_succ_self _) a
        rw [← hxl]
        exact h.deep f rfl x hx
    refine ⟨R, _, rfl, SqT.of eR, rfl, ?_⟩
    refine ⟨_, _, rfl, _, _, rfl, rfl, ?_⟩
    refine ⟨_, rfl, _, rfl, (by show 1 ≤ sizeLine; decide), fun b1 hb1 => ?_⟩
    have k4 : Keep [] H3 (upd H3 b1 (.lst [optV r])) := Keep.new hb1
    have e4 : (upd H3 b1 (.lst [optV r])) b1 = some (.lst [optV r]) := upd_same
    generalize (upd H3 b1 (.lst [optV r])) = H4 at k4 e4 ⊢
    refine ⟨Hl, b1, _, _, rfl, rfl, k4.at eHl nin0, e4, Nat.le_trans (by rw [List.length_map]; show _ + 1 ≤ 1000; omega) (by decide), fun W hW => ?_⟩
    have kW : Keep [] H4 (upd H4 W (.lst (rs.map optV ++ [optV r]))) := Keep.new hW
    have eW : (upd H4 W (.lst (rs.map optV ++ [optV r]))) W = some (.lst ((rs ++ [r]).map optV)) := by rw [upd_same, List.map_append]; rfl
    generalize (upd H4 W (.lst (rs.map optV ++ [optV r]))) = H5 at kW eW ⊢
    have k35 := k4.trans kW
    have S5 := S3.keep0 k35
    refine ⟨W, rfl, ⟨_, SqL.of eW⟩, fun M hM => ?_⟩
    refine lc_list (K := K) (a := W) (xs := (rs ++ [r]).map optV) (fun i G => Keep [] H5 G ∧ ∃ fs : List Nat, G M = some (.lst (memV fs)) ∧ fs.length ≤ i ∧ ∀ f ∈ fs, some f ∈ rs ++ [r]) ⟨Keep.new hM, [], upd_same, Nat.le_refl _, fun f h => absurd h List.not_mem_nil⟩ (fun i G _ hI => SqL.of (hI.1.at eW nin0)) (fun i x G hx hI => ?_) (fun G6 hI => ?_)
    · obtain ⟨kG, fs, eM, fl, fin⟩ := hI
      rw [List.getElem?_map] at hx
      obtain ⟨o, ho, rfl⟩ := Option.map_eq_some_iff.mp hx
      have hil : i < 102 := by have := (List.getElem?_eq_some_iff.mp ho).1; rw [List.length_append] at this; simp at this; omega
      refine ⟨rfl, ?_⟩
      cases o with
      | none => exact ⟨_, rfl, rfl, _, rfl, iteF (iteF ⟨kG, fs, eM, by omega, fin⟩)⟩
      | some f =>
        refine ⟨_, rfl, rfl, _, rfl, iteT ?_⟩
        refine ⟨_, rfl, _, rfl, D.E, _, rfl, .inl (SqL.of (S5.keep0 kG).st.ent), _, _, rfl, rfl, _, rfl, ite2 (fun _ => ?_) (fun _ => ⟨kG, fs, eM, by omega, fin⟩)⟩
        refine ⟨_, rfl, _, eM, Nat.lt_of_le_of_lt (by rw [List.length_map]; omega : _ ≤ 1000) (by decide), kG.freshTo hM, fs ++ [f], ?_, by rw [List.length_append]; show fs.length + 1 ≤ i + 1; omega, fun g hg => ?_⟩
        · rw [upd_same]
          unfold memV
          rw [List.map_append]; rfl
        · rcases List.mem_append.mp hg with z | z
          · exact fin g z
          · rw [List.mem_singleton.mp z]; exact List.mem_of_getElem? ho
    obtain ⟨kG, fs, eM, fl, fin⟩ := hI
    rw [List.length_map, List.length_append] at fl
    have fl : fs.length ≤ 101 := by simp at fl; omega
    have k36 := k35.trans kG
    refine ⟨_, rfl, Nat.zero_le _, fun e2 he2 => ?_⟩
    have k7 : Keep [] G6 (upd G6 e2 (.lst [])) := Keep.new he2
    have a7 : (upd G6 e2 (.lst [])) e2 = some (.lst (memV [])) := upd_same
    generalize (upd G6 e2 (.lst [])) = G7 at k7 a7 ⊢
    have k37 := k36.trans k7
    have eM7 := k7.at eM nin0
    have S7 := S3.keep0 k37
    have pot7 := pot3.keep k37 nin0
    have inA : ∀ b, b ∈ D.A.ls → b ∈ p :: D.A.ls := fun b hb => List.mem_cons_of_mem _ hb
    have new0 : ∀ b ∈ nn, H b = none := fun b hb => Keep.free kH (tk.new b hb) nin0
    refine ⟨intsD fs, intsD [], dp_intsD eM7, dp_intsD a7, ints_shaped _, ints_shaped _, _, rfl, ?_⟩
    rw [ints_nil]
    cases hfs : fs with
    | nil =>
      refine iteT ?_
      exact kk G7 mm nn ys S7 (by rw [eAs]; exact sx3) (by omega) ((kA.more inA).trans (k37.more fun b z => absurd z nin0)) new0 (pot7.le (by omega))
    | cons f0 fr =>
      refine iteF ?_
      have lpos : 0 < fs.length := by rw [hfs]; exact Nat.succ_pos _
      have lm : (memV fs).length = fs.length := List.length_map ..
      have nMp : M ≠ p := fun z => by
        obtain ⟨y, e⟩ := (pot3.keep k35 nin0).some
        rw [z, e] at hM; cases hM
      refine ⟨_, rfl, _, rfl, _, rfl, M, _, rfl, .inl (SqL.of eM7), p, n, _, rfl, pot7, by omega, by rw [lm]; omega, by rw [lm]; omega, fun d G8 b0 b1 hk8 p8 => ?_⟩
      rw [lm] at b1
      obtain ⟨y, hy1, hy2, hy3⟩ := digit_in (l := fs) b0 b1
      have k8 := keep_of_dig hk8
      refine ⟨M, _, d, .int (y : Int), rfl, rfl, SqL.of (k8.at eM7 (nin1 nMp)), ?_, ?_⟩
      · rw [← hy3]
        exact atI_nat (by rw [List.getElem?_map, hy2]; rfl)
      obtain ⟨hyl, hyB⟩ := each y (fin y hy1)
      have S8 := S7.keepP pot7 k8
      have led8 := S8.st.led
      -- all that is told
      refine ⟨_, rfl, _, rfl, _, rfl, _, rfl, _, rfl, D.q, D.A.dx, _, rfl, led8.ins, flg1 D.A, D.q, D.A, _, _, es ++ (xs ++ ys), rfl, led8, ?_⟩
      have lAll : (es ++ (xs ++ ys)).length ≤ (es ++ xs).length + B := by rw [eAs, List.length_append (as := es ++ xs)]; omega
      refine ⟨D.q, D.A, _, _, es ++ (xs ++ ys), (es ++ (xs ++ ys)).length, p :: (D.A.ls ++ (D.more mm nn).ns), rfl, led8, by omega, Nat.le_refl _, (fun b hb => ?_), fun G9 Fs rs2 k9 hF9 eF9 rows9 nd9 new9 => ?_⟩
      · rcases List.mem_cons.mp hb with z | z
        · rw [z]
          obtain ⟨y, e⟩ := p8.some
          exact ⟨_, e⟩
        · rcases List.mem_append.mp z with z | z
          · obtain ⟨y, e⟩ := led8.isl b z
            exact ⟨_, e⟩
          · obtain ⟨y, e⟩ := led8.notes.is b z
            exact ⟨_, e⟩
      rw [List.take_length] at rows9
      have sxA : SX ps cap (es ++ (xs ++ ys)) := by rw [eAs]; exact sx3
      have St9 := S8.stood p8 sxA (by omega) k9 hF9 eF9 rows9 nd9 new9
      have p9 := p8.keep k9 nin0
      refine ⟨_, rfl, ps, cap, p, l, X, tx, (D.more mm nn).stood Fs rs2, es ++ (xs ++ ys), [], _, y, 5, rfl, St9, p9, by omega, by rw [eAs]; exact hyl, by decide, fun G10 L2 zs2 k10 hL2 tz2 hz2 p10 => ?_⟩
      have S10 := (S8.keep0 k9).keepP p9 k10
      have k310 : Keep [p] H3 G10 := (((k37.more fun b z => absurd z nin0).trans k8).trans (k9.more fun b z => absurd z nin0)).trans k10
      have T10 : Tree (es ++ (xs ++ ys)) Lf' Df' Nf' := by rw [eAs]; exact tk.tree
      have nLA2 : L2 ∉ D.A.ls := fun z => by
        obtain ⟨u, q⟩ := (S8.keep0 k9).st.led.isl L2 z
        rw [hL2] at q; cases q
      have yl10 : y < (es ++ (xs ++ ys)).length := by rw [eAs]; exact hyl
      refine ⟨_, rfl, _, rfl, _, rfl, _, rfl, _, rfl, ps, cap, p, l, X, L2, tx, D.more mm nn, es, xs ++ ys, y, _, zs2, Lf', Df', Nf', rfl, S10, p10, sxA, by omega, hcap, T10, yl10, tz2.mono (by decide), nLA2, by omega, fun G11 mm2 nn2 ys2 S11 sx11 few2 k11 new11 => ⟨true, rfl, iteT ?_⟩⟩
      have p11 := p10.keep k11 pA
      have tz11 : TssAt ps 2 G11 L2 zs2 := tz2.keep k11 nLA2 S10.st.led.isl
      obtain ⟨L3, D3, N3, T3⟩ := S11.treeX
      have eA2 : es ++ ((xs ++ ys) ++ ys2) = es ++ (xs ++ ys) ++ ys2 := (List.append_assoc ..).symm
      have T3' : Tree (es ++ (xs ++ ys) ++ ys2) L3 D3 N3 := by rw [← eA2]; exact T3
      obtain ⟨q1, q2⟩ := T10.same T3' yl10
      have few2B : ys2.length ≤ B := Nat.le_trans few2 hyB
      refine ⟨_, rfl, _, rfl, _, rfl, _, rfl, _, rfl, ps, cap, p, l, X, L2, tx, (D.more mm nn).more mm2 nn2, es, (xs ++ ys) ++ ys2, y, _, zs2, L3, D3, N3, rfl, S11, p11, sx11, by rw [eA2, List.length_append (as := es ++ (xs ++ ys))]; omega, hcap, T3, by rw [eA2, List.length_append (as := es ++ (xs ++ ys))]; omega, tz11.mono (by decide), nLA2, by omega, fun G12 mm3 nn3 ys3 S12 sx12 few3 k12 new12 => ?_⟩
      rw [q1, q2] at few3
      have few3B : ys3.length ≤ B := Nat.le_trans few3 hyB
      have off3 : ∀ {b : Addr}, G10 b = none → H b = none := fun {b} hb => by
        have h3 : H3 b = none := Keep.free k310 hb (nin1 fun z => by
          obtain ⟨u, e⟩ := p10.some
          rw [z, e] at hb; cases hb)
        exact Keep.free kA h3 fun z => by
          obtain ⟨u, e⟩ := S3.st.led.isl b z
          rw [h3] at e; cases e
      have k1012 : Keep D.A.ls G10 G12 := k11.trans k12
      refine kk G12 (mm ++ mm2 ++ mm3) (nn ++ nn2 ++ nn3) (ys ++ ys2 ++ ys3) ?_ ?_ ?_ ?_ (fun b hb => ?_) ((p11.keep k12 pA).le (by omega))
      · have e1 : xs ++ (ys ++ ys2 ++ ys3) = xs ++ ys ++ ys2 ++ ys3 := by simp only [List.append_assoc]
        have e2 : D.more (mm ++ mm2 ++ mm3) (nn ++ nn2 ++ nn3) = ((D.more mm nn).more mm2 nn2).more mm3 nn3 := by unfold LDA.more; simp only [List.append_assoc]
        rw [e1, e2]; exact S12
      · have e1 : es ++ (xs ++ (ys ++ ys2 ++ ys3)) = es ++ (xs ++ ys ++ ys2 ++ ys3) := by simp only [List.append_assoc]
        rw [e1]; exact sx12
      · rw [List.length_append, List.length_append]; omega
      · exact ((kA.more inA).trans (k310.more fun b hb => by rw [List.mem_singleton.mp hb]; exact List.mem_cons_self)).trans (k1012.more inA)
      · rcases List.mem_append.mp hb with z | z
        · rcases List.mem_append.mp z with z | z
          · exact new0 b z
          · exact off3 (new11 b z)
        · exact off3 (Keep.free k11 (new12 b z) fun q => by
            obtain ⟨u, e⟩ := S11.st.led.isl b q
            have := new12 b z
            rw [this] at e; cases e)
end
end Fs
/-! A test stays. -/
namespace Fs
open PySem L2 TL
section
variable {C CK p l X Pt : Addr} {ps : List (Str × Str)} {tx : List Str} {H G G' : Hp} {D : LDA} {es es' xs ys : List Ent} {c m m' : Nat}
theorem RS.test {t : Ts} {v : V} (R : RS C CK p l X Pt ps tx H G D es xs c m) (h : TestAt G t v) (k : Keep [p] G G') : TestAt G' t v := h.keep k (pot_lst R.pot)
theorem RS.testZ {t : Ts} {v : V} (R : RS C CK p l X Pt ps tx H G D es xs c m) (h : TestAt G t v) (k : Keep (p :: D.zs) G G') : TestAt G' t v := h.keep k (R.S.zlst R.pot)
theorem RS.testA {t : Ts} {v : V} (R : RS C CK p l X Pt ps tx H G D es xs c m) (h : TestAt G t v) (k : Keep D.A.ls G G') : TestAt G' t v := h.keep k R.S.st.led.isl
end
end Fs
/-! A round. -/
namespace Fs
open PySem L2 TL
theorem RS.anew {C CK p l X Pt : Addr} {ps : List (Str × Str)} {tx : List Str} {H G G' : Hp} {D : LDA} {es xs ys : List Ent} {c m m' : Nat} (R : RS C CK p l X Pt ps tx H G D es xs c m) {mm nn : List Addr} (S' : ScB C CK ps c p l X tx G' (D.more mm nn) es (xs ++ ys)) (k : Keep (p :: D.A.ls) G G') (new : ∀ b ∈ nn, G b = none) (pot : PotAt G' p m') : RS C CK p l X Pt ps tx H G' (D.more mm nn) es (xs ++ ys) c m' := by
  obtain ⟨tb, hT, oT⟩ := R.tab
  have inZ : ∀ {b : Addr}, b ∈ p :: D.A.ls → b ∈ p :: D.zs := fun {b} h => by
    rcases List.mem_cons.mp h with z | z
    · rw [z]; exact List.mem_cons_self
    · exact List.mem_cons_of_mem _ (List.mem_append_left _ z)
  refine ⟨S', pot, R.keep.lateX k fun b hb => ?_, ⟨tb, k.at hT fun z => R.nPt (inZ z), oT⟩, fun b hb => ?_, fun z => ?_⟩
  · rcases List.mem_cons.mp hb with z | z
    · rw [z]; exact .inl List.mem_cons_self
    · exact .inr (R.fz b (List.mem_append_left _ z))
  · rcases (LDA.more_zs D mm nn).mp hb with z | z
    · exact R.fz b z
    · exact R.new (new b z)
  · rcases List.mem_cons.mp z with z | z
    · exact R.nPp z
    · rcases (LDA.more_zs D mm nn).mp z with z | z
      · exact R.nPt (List.mem_cons_of_mem _ z)
      · have := new Pt z
        rw [hT] at this; cases this
/-- a list that is none of its own stays so -/
theorem not_more {D : LDA} {mm nn : List Addr} {p L : Addr} {G : Hp} {o : HO} (h : L ∉ p :: D.zs) (e : G L = some o) (new : ∀ b ∈ nn, G b = none) : L ∉ p :: (D.more mm nn).zs := fun z => by
  rcases List.mem_cons.mp z with z | z
  · exact h (by rw [z]; exact List.mem_cons_self)
  · rcases (LDA.more_zs D mm nn).mp z with z | z
    · exact h (List.mem_cons_of_mem _ z)
    · have := new L z
      rw [e] at this; cases this
abbrev sRnd : Stmt := top 60 --def _law_round
abbrev aRnd : List Str := ["_law_pot_here"]
abbrev nRnd : List Str := ["_law_pot_here", "_law_pairs", "_law_texts_here", "_law_faults_here", "_law_ledger_here", "_law_turn", "_law_k", "_law_tests_here", "_law_leaves_here"]
theorem scRnd : FnScope nRnd aRnd (defScope sRnd) := ⟨rfl, rfl, rfl, by decide +kernel, rfl, by decide +kernel, by decide +kernel⟩
structure NTx (K : PySem.W.Frag) (mg : Str → Option Value) (fK fX fS fL fDs fPo fTs fRt fLv fDe fDg fAn : Addr) : Prop where
  gK : mg "_law_kinds" = some (.ref fK)
  kK : PySem.W.keepIn K (.ref fK) = true
  gX : mg "_law_texts" = some (.ref fX)
  kX : PySem.W.keepIn K (.ref fX) = true
  gS : mg "_law_some" = some (.ref fS)
  kS : PySem.W.keepIn K (.ref fS) = true
  gL : mg "_law_ledger" = some (.ref fL)
  kL : PySem.W.keepIn K (.ref fL) = true
  gDs : mg "_law_deeds" = some (.ref fDs)
  kDs : PySem.W.keepIn K (.ref fDs) = true
  gPo : mg "_law_plain_or_top" = some (.ref fPo)
  kPo : PySem.W.keepIn K (.ref fPo) = true
  gTs : mg "_law_tests" = some (.ref fTs)
  kTs : PySem.W.keepIn K (.ref fTs) = true
  gRt : mg "_law_right" = some (.ref fRt)
  kRt : PySem.W.keepIn K (.ref fRt) = true
  gLv : mg "_law_leaves" = some (.ref fLv)
  kLv : PySem.W.keepIn K (.ref fLv) = true
  gDe : mg "_law_deed" = some (.ref fDe)
  kDe : PySem.W.keepIn K (.ref fDe) = true
  gDg : mg "_law_digit" = some (.ref fDg)
  kDg : PySem.W.keepIn K (.ref fDg) = true
  gAn : mg "_law_anew_right" = some (.ref fAn)
  kAn : PySem.W.keepIn K (.ref fAn) = true
  len : mg "len" = none
  range : mg "range" = none
section
variable {P : Program} {w : World} {K : PySem.W.Frag} {mg : Str → Option Value} {base : Heap} {C CK Pt fK fX fS fL fDs fPo fTs fRt fLv fDe fDg fAn : Addr}
theorem ok_rnd {f : Addr} {fd dK dX dS dL dDs dPo dTs dRt dLv dDe dDg dAn : FuncData} (F : Fun K "_law_round" "_law_round" sRnd f fd) (T : NTx K mg fK fX fS fL fDs fPo fTs fRt fLv fDe fDg fAn)
    (FK : FnOk P w K mg base CX0 3 fK dK ["_law_pot_here", "_law_most"] spKds) (bK : Binds K dK ["_law_pot_here", "_law_most"] []) (FX : FnOk P w K mg base CX0 3 fX dX ["_law_pot_here"] spTxs) (bX : Binds K dX ["_law_pot_here"] [])
    (FS : FnOk P w K mg base CX0 5 fS dS ["_law_pot_here", "_law_pairs", "_law_texts_here", "_law_most", "_law_room"] spSome) (bS : Binds K dS ["_law_pot_here", "_law_pairs", "_law_texts_here", "_law_most", "_law_room"] [])
    (FL : FnOk P w K mg base CX0 6 fL dL ["_law_pairs", "_law_faults_here"] (spLedg C CK Pt)) (bL : Binds K dL ["_law_pairs", "_law_faults_here"] [])
    (FDs : FnOk P w K mg base CX0 6 fDs dDs ["_law_pot_here", "_law_ledger_here", "_law_faults_here", "_law_texts_here", "_law_most"] (spDsA C CK)) (bDs : Binds K dDs ["_law_pot_here", "_law_ledger_here", "_law_faults_here", "_law_texts_here", "_law_most"] [])
    (FPo : FnOk P w K mg base CX0 3 fPo dPo aPoT (spPoT C CK)) (bPo : Binds K dPo aPoT []) (FTs : FnOk P w K mg base CX0 6 fTs dTs aTsts (spTsts C CK)) (bTs : Binds K dTs aTsts [])
    (FRt : FnG P w K mg base 23 fRt dRt aRt (spRt C CK)) (bRt : Binds K dRt aRt []) (FLv : FnOk P w K mg base CX0 1 fLv dLv ["_law_faults_here", "_law_k"] spLvs) (bLv : Binds K dLv ["_law_faults_here", "_law_k"] [])
    (FDe : FnOk P w K mg base CX0 5 fDe dDe ["_law_pot_here", "_law_ledger_here", "_law_faults_here", "_law_texts_here", "_law_k"] (spDeB C CK)) (bDe : Binds K dDe ["_law_pot_here", "_law_ledger_here", "_law_faults_here", "_law_texts_here", "_law_k"] [])
    (FD : FnOk P w K mg base CX0 1 fDg dDg ["_law_pot_here", "_law_many"] spDigit) (bDg : Binds K dDg ["_law_pot_here", "_law_many"] []) (FAn : FnG P w K mg base 24 fAn dAn aAn (spAn C CK)) (bAn : Binds K dAn aAn []) : FnG P w K mg base 25 f fd ["_law_pot_here"] (spRnd Pt) := by
  refine okG F scRnd (fun vs H Q E h => ?_) (fun cdv A0 outer s H vs Q Es hg hr h => ?_)
  · obtain ⟨p, rfl, _⟩ := h
    rfl
  · obtain ⟨p, rfl, pot, tab, kk⟩ := h
    have hr1 : Room 1 _ := hr.mono (by decide)
    have hr3 : Room 3 _ := hr.mono (by decide)
    have hr5 : Room 5 _ := hr.mono (by decide)
    have hr6 : Room 6 _ := hr.mono (by decide)
    have hr23 : Room 23 _ := hr.mono (by decide)
    have hgX : (cxOf CX0 P w K mg base nRnd "_law_round" (defScope sRnd) f cdv A0 outer s H Es).nox.A.guards = some [] := hg
    refine ⟨_, (pss_cons (ps_set (i := 1) scRnd.nd rfl (Or.inl rfl) (pe_call FK hr3 rfl T.gK T.kK bK .nil pass0 (pa_cons (pv 0) (pa_cons pe_int pa_nil))))
      (pss_cons (ps_set (i := 2) scRnd.nd rfl (Or.inl rfl) (pe_call FX hr3 rfl T.gX T.kX bX .nil pass0 (pa_cons (pv 0) pa_nil)))
      (pss_cons (ps_set (i := 3) scRnd.nd rfl (Or.inl rfl) (pe_call FS hr5 rfl T.gS T.kS bS .nil pass0 (pa_cons (pv 0) (pa_cons (pv 1) (pa_cons (pv 2) (pa_cons pe_int (pa_cons pe_int pa_nil)))))))
      (pss_cons (ps_set (i := 4) scRnd.nd rfl (Or.inl rfl) (pe_call FL hr6 rfl T.gL T.kL bL .nil pass0 (pa_cons (pv 1) (pa_cons (pv 3) pa_nil))))
      (pss_cons (ps_expr (pe_call FDs hr6 rfl T.gDs T.kDs bDs .nil pass0 (pa_cons (pv 0) (pa_cons (pv 4) (pa_cons (pv 3) (pa_cons (pv 2) (pa_cons pe_int pa_nil)))))))
      (pss_cons (ps_for PassesOwn.never rfl (pi_range1 rfl T.range (pa_cons pe_int pa_nil)) (pg_name (i := 5) scRnd.nd rfl (Or.inl rfl)) (pss_cons (ps_set (i := 6) scRnd.nd rfl (Or.inl rfl) (pe_call FPo hr3 rfl T.gPo T.kPo bPo .nil pass0 (pa_cons (pv 0) (pa_cons (pv 3) pa_nil))))
      (pss_cons (ps_set (i := 7) scRnd.nd rfl (Or.inl rfl) (pe_call FTs hr6 rfl T.gTs T.kTs bTs .nil pass0 (pa_cons (pv 0) (pa_cons (pv 1) (pa_cons (pv 2) (pa_cons (pv 3) (pa_cons (pv 6) (pa_cons pe_int pa_nil))))))))
      (pss_cons (ps_if (PW.pt (pw_or (pt_not (pt_val (pe_callG FRt hgX hr23 rfl T.gRt T.kRt bRt (pa_cons (pv 4) (pa_cons (pv 1) (pa_cons (pv 3) (pa_cons (pv 6) (pa_cons (pv 7) pa_nil)))))))) (pw_or1 (pt_not (pt_val (pe_callG FRt hgX hr23 rfl T.gRt T.kRt bRt (pa_cons (pv 4) (pa_cons (pv 1) (pa_cons (pv 3) (pa_cons (pv 6) (pa_cons (pv 7) pa_nil))))))))))) (pss_one (ps_ret pe_bl)) pss_nil)
      (pss_cons (ps_set (i := 8) scRnd.nd rfl (Or.inl rfl) (pe_call FLv hr1 rfl T.gLv T.kLv bLv .nil pass0 (pa_cons (pv 3) (pa_cons (pv 6) pa_nil))))
      (pss_cons (ps_expr (pe_call FDe hr5 rfl T.gDe T.kDe bDe .nil pass0 (pa_cons (pv 0) (pa_cons (pv 4) (pa_cons (pv 3) (pa_cons (pv 2) (pa_cons (pe_ix ix_tup (pe_ix ix_list (pv 8) (pe_call FD hr1 rfl T.gDg T.kDg bDg .nil pass0 (pa_cons (pv 0) (pa_cons (pe_callB call_len_seq (by rfl) T.len PySem.boot_len (pa_cons (pv 8) pa_nil)) pa_nil))) (fun _ _ => rfl)) pe_int (fun _ _ => rfl)) pa_nil)))))))
      (pss_cons (ps_if (pt_not (pt_val (pe_callG FRt hgX hr23 rfl T.gRt T.kRt bRt (pa_cons (pv 4) (pa_cons (pv 1) (pa_cons (pv 3) (pa_cons (pv 6) (pa_cons (pv 7) pa_nil)))))))) (pss_one (ps_ret pe_bl)) pss_nil)
      (pss_one (ps_if (pt_not (pt_val (pe_callG FAn hgX hr rfl T.gAn T.kAn bAn (pa_cons (pv 0) (pa_cons (pv 4) (pa_cons (pv 1) (pa_cons (pv 3) (pa_cons (pv 2) (pa_cons (pv 6) (pa_cons (pv 7) pa_nil)))))))))) (pss_one (ps_ret pe_bl)) pss_nil)))))))))
      (pss_one (ps_ret pe_bl)))))))), ?_⟩
    refine front_run (C := C) (CK := CK) (mo := 6) (M := 12) (R := 30) (by decide) (by decide) (by decide) pot tab ?_
    intro l X ps tx D es G S hps hles ⟨Lf0, Df0, Nf0, T0, hT0⟩ pG kG tG fz hl0 hX0 hE0 nPt
    have hles : es.length ≤ 31 := hles
    refine ⟨_, rfl, _, rfl, _, rfl, _, rfl, ps, 0, p, X, D, es, tx, _, 12, rfl, pG, by decide, S.st, S.txs, S.hX, S.nX, S.pos, S.len, by decide, by decide, fun G2 es2 S2 hl2 hm2 k2 p2 => ?_⟩
    have Sc2 := S.deed pG S2 hl2 k2
    obtain ⟨tb1, hT1, oT1⟩ := tG
    have hT2 := k2.at hT1 nPt
    have kG2 : Keep [p, Pt] H G2 := kG.lateX k2 fun b hb => by
      rcases List.mem_cons.mp hb with z | z
      · rw [z]; exact .inl List.mem_cons_self
      · exact .inr (fz b z)
    have R2 : RS C CK p l X Pt ps tx H G2 D es2 [] (0 + 12) _ := RS.start Sc2 p2 kG2 ⟨tb1, hT2, oT1⟩ fz nPt
    refine ⟨3, rfl, by decide, by decide, ?_⟩
    refine for_range (lo := 0) (n := 3) (fun i σ G => ∃ (D' : LDA) (es' xs' : List Ent) (m' : Nat) (v5 v6 v7 v8 : Option V), σ = [some (.ref p), some (.ref l), some (.ref X), some (.ref D'.E), some (.ref D'.q), v5, v6, v7, v8] ∧ RS C CK p l X Pt ps tx H G D' es' xs' (12 + i) m' ∧ m' ≤ 5000 + 10000 * i ∧ es'.length ≤ 31 ∧ SX ps (12 + i) (es' ++ xs') ∧ xs'.length ≤ 2700 * i ∧ ∃ Lf Df Nf, Tree es' Lf Df Nf ∧ ∀ j, j < es'.length → Lf j ≤ 30 ∧ Df j ≤ 14)
      ⟨D, es2, [], _, none, none, none, none, rfl, R2, by decide, by omega, by rw [List.append_nil]; exact S2.sm, Nat.zero_le _, Lf0, Df0, Nf0, T0.congr hm2.symm, fun j hj => hT0 j (by omega)⟩ ?_ ?_
    · rintro i σ G hi ⟨D', es', xs', m', v5, v6, v7, v8, rfl, R, hm', hl', sx, hx', Lf, Df, Nf, Tr, hT⟩
      have hl1 : es'.length ≤ 900 := by omega
      have hi3 : i < 3 := hi
      -- a fault, tests
      refine ⟨_, rfl, _, rfl, ps, 12 + i, p, l, X, tx, D', es', xs', m', rfl, R.S, hl1, R.pot, by omega, fun G1 k hk k1 p1 => ?_⟩
      have R1 := R.dig k1 p1
      refine ⟨_, rfl, _, rfl, _, rfl, _, rfl, _, rfl, ps, 12 + i, p, l, X, tx, D', es', xs', _, k, 5, rfl, R1.S, R1.pot, by omega, hk, by decide, fun G2 L zs k2 hL tz hz p2 => ?_⟩
      have R2 := R1.dig k2 p2
      have nL : L ∉ p :: D'.zs := fun z => by
        obtain ⟨y, e⟩ := R1.S.zlst R1.pot L z
        rw [hL] at e; cases e
      have nLA : L ∉ D'.A.ls := fun z => nL (List.mem_cons_of_mem _ (List.mem_append_left _ z))
      have bnd : ∀ {es2 xs2 : List Ent} {LX DX NX : Nat → Nat}, es2.map Ent.mem = es'.map Ent.mem → Tree (es2 ++ xs2) LX DX NX → LX k * (max 1 (DX k) + 1) ≤ 450 ∧ LX k * (DX k + 1) ≤ 450 ∧ k < (es2 ++ xs2).length := fun {es2 xs2 LX DX NX} hm T2 => by
        have hl : es2.length = es'.length := by
          have := congrArg List.length hm
          rwa [List.length_map, List.length_map] at this
        obtain ⟨s1, s2⟩ := (Tr.congr hm.symm).same T2 (i := k) (by omega)
        obtain ⟨b1, b2⟩ := hT k hk
        have a1 : LX k ≤ 30 := by omega
        have a2 : max 1 (DX k) ≤ 14 := by omega
        have m1 : LX k * (max 1 (DX k) + 1) ≤ 30 * 15 := Nat.mul_le_mul a1 (Nat.succ_le_succ a2)
        have m2 : LX k * (DX k + 1) ≤ 30 * 15 := Nat.mul_le_mul a1 (by omega)
        exact ⟨m1, m2, by rw [List.length_append]; omega⟩
      have hlX : (es' ++ xs').length ≤ 31 + 2700 * i := by rw [List.length_append]; omega
      -- right, twice
      obtain ⟨LX, DX, NX, TX⟩ := R2.S.treeX
      obtain ⟨_, b2, hkX⟩ := bnd rfl TX
      refine ⟨_, rfl, _, rfl, _, rfl, _, rfl, _, rfl, ps, 12 + i, p, l, X, L, tx, D', es', xs', k, _, zs, LX, DX, NX, rfl, R2.S, R2.pot, sx, by omega, by omega, TX, hkX, tz.mono (by decide), nLA, by omega, fun G3 mm nn ys S3 sx3 few3 k3 new3 => ⟨true, rfl, iteF ?_⟩⟩
      have R3 := R2.right S3 k3 new3
      have tz3 : TssAt ps 2 G3 L zs := tz.keep k3 nLA R2.S.st.led.isl
      have nL3 := not_more (mm := mm) nL tz.1 new3
      obtain ⟨LX3, DX3, NX3, TX3⟩ := S3.treeX
      obtain ⟨_, b3, hkX3⟩ := bnd rfl TX3
      have hlX3 : (es' ++ (xs' ++ ys)).length ≤ 31 + 2700 * i + 450 := by rw [← List.append_assoc, List.length_append]; omega
      refine ⟨_, rfl, _, rfl, _, rfl, _, rfl, _, rfl, ps, 12 + i, p, l, X, L, tx, D'.more mm nn, es', xs' ++ ys, k, _, zs, LX3, DX3, NX3, rfl, R3.S, R3.pot, sx3, by omega, by omega, TX3, hkX3, tz3.mono (by decide), nLA, by omega, fun G4 mm4 nn4 ys4 S4 sx4 few4 k4 new4 => ⟨true, rfl, iteF ?_⟩⟩
      have R4 := R3.right S4 k4 new4
      have tz4 : TssAt ps 2 G4 L zs := tz3.keep k4 nLA R3.S.st.led.isl
      have nL4 := not_more (mm := mm4) nL3 tz3.1 new4
      have hlX4 : (es' ++ (xs' ++ ys ++ ys4)).length ≤ 31 + 2700 * i + 900 := by rw [← List.append_assoc, List.length_append]; omega
      -- leaves, a deed
      refine ⟨_, rfl, _, rfl, D'.E, k, _, D'.rs, es', Lf, Df, Nf, rfl, R4.S.st.ent, R4.S.st.rows, Tr, hk, R4.S.lrs, fun G5 Fl ts fs k5 hF eF wF lv => ?_⟩
      have R5 := R4.keep0 k5
      have tz5 := tz4.keep0 k5
      have lF : ts.length = Lf k := by rw [wF.len, lv.len]
      have lp := (Tr.pos k k (Nat.le_refl _) hk).1
      have l101 := (Tr.few k _ (List.getElem?_eq_getElem hk)).1
      have nFp : Fl ≠ p := fun z => by
        obtain ⟨y, e⟩ := R4.pot.some
        rw [z, e] at hF; cases hF
      refine ⟨_, rfl, _, rfl, _, rfl, _, rfl, _, rfl, _, rfl, _, rfl, Fl, _, rfl, .inl (SqL.of eF), p, _, _, rfl, R5.pot, by omega, by rw [List.length_map]; omega, by rw [List.length_map]; omega, fun d G6 d0 d1 hk6 p6 => ?_⟩
      rw [List.length_map, wF.len] at d1
      obtain ⟨x, hx, hx2, hx3⟩ := digit_in (l := fs) d0 d1
      have k6 := keep_of_dig hk6
      have R6 := R5.dig k6 p6
      have tz6 : TssAt ps 2 G6 L zs := tz5.keep k6 (nin1 fun z => nL (by rw [z]; exact List.mem_cons_self)) (pot_lst R5.pot)
      have wF6 := wF.map fun a xs q => (k6.tup (lst_no (pot_lst R5.pot)) q)
      have eF6 := k6.at eF (nin1 nFp)
      obtain ⟨t1, ht1, a1, ew1, ew2⟩ := wF6.at hx2
      refine ⟨Fl, _, d, .ref t1, rfl, rfl, SqL.of eF6, ?_, t1, _, 1, .int (x.2 : Int), rfl, rfl, SqT.of ew1, rfl, ?_⟩
      · rw [← hx3]
        exact atI_nat (by rw [List.getElem?_map, ht1]; rfl)
      have hxl := lv.inn x hx
      refine ⟨ps, 12 + i, p, X, (D'.more mm nn).more mm4 nn4, es', xs' ++ ys ++ ys4, tx, _, x.2, rfl, R6.pot, by omega, R6.S.st, R6.S.txs, R6.S.hX, R6.S.nXp, hxl, by omega, by omega, fun G7 es7 S7 hl7 hm7 k7 p7 => ?_⟩
      have R7 := R6.deed S7 hl7 hm7 k7 p7
      have sx7 : SX ps (12 + i + 1) (es7 ++ (xs' ++ ys ++ ys4)) := SX.deed sx4 hl7 (by omega) S7.sm
      have tz7 : TssAt ps 2 G7 L zs := tz6.keep k7 nL4 (R6.S.zlst R6.pot)
      have hlX7 : (es7 ++ (xs' ++ ys ++ ys4)).length ≤ 31 + 2700 * i + 900 := by rw [List.length_append, hl7, ← List.length_append]; exact hlX4
      -- right
      obtain ⟨LX7, DX7, NX7, TX7⟩ := R7.S.treeX
      obtain ⟨_, b7, hkX7⟩ := bnd hm7 TX7
      refine ⟨_, rfl, _, rfl, _, rfl, _, rfl, _, rfl, ps, 12 + i + 1, p, l, X, L, tx, (D'.more mm nn).more mm4 nn4, es7, xs' ++ ys ++ ys4, k, _, zs, LX7, DX7, NX7, rfl, R7.S, R7.pot, sx7, by omega, by omega, TX7, hkX7, tz7.mono (by decide), nLA, by omega, fun G8 mm8 nn8 ys8 S8 sx8 few8 k8 new8 => ⟨true, rfl, iteF ?_⟩⟩
      have R8 := R7.right S8 k8 new8
      have tz8 : TssAt ps 2 G8 L zs := tz7.keep k8 nLA R7.S.st.led.isl
      have nL8 := not_more (mm := mm8) nL4 tz7.1 new8
      have hlX8 : (es7 ++ (xs' ++ ys ++ ys4 ++ ys8)).length ≤ 31 + 2700 * i + 1350 := by rw [← List.append_assoc, List.length_append]; omega
      -- what came anew
      obtain ⟨LX8, DX8, NX8, TX8⟩ := R8.S.treeX
      obtain ⟨b8, _, hkX8⟩ := bnd hm7 TX8
      refine ⟨_, rfl, _, rfl, _, rfl, _, rfl, _, rfl, _, rfl, _, rfl, ps, 12 + i + 1, p, l, X, L, tx, ((D'.more mm nn).more mm4 nn4).more mm8 nn8, es7, xs' ++ ys ++ ys4 ++ ys8, k, _, 450, zs, LX8, DX8, NX8, rfl, R8.S, R8.pot, by omega, sx8, by omega, by omega, TX8, hkX8, b8, tz8.mono (by decide), nLA, by omega, fun G9 mm9 nn9 ys9 S9 sx9 few9 k9 new9 p9 => ⟨true, rfl, iteF ?_⟩⟩
      have R9 := R8.anew S9 k9 new9 p9
      refine ⟨(((D'.more mm nn).more mm4 nn4).more mm8 nn8).more mm9 nn9, es7, xs' ++ ys ++ ys4 ++ ys8 ++ ys9, _, _, _, _, _, rfl, R9, by omega, by omega, sx9, by simp only [List.length_append]; omega, Lf, Df, Nf, Tr.congr hm7.symm, fun j hj => hT j (by omega)⟩
    · rintro σ G ⟨D', es', xs', m', v5, v6, v7, v8, rfl, R, _⟩
      exact kk G R.keep R.tab
end
end Fs
/-! The law's call at the one place where it is made: what is being shown there is known (nothing), which a def's promise for every place doesn't say. -/
namespace Fs
open PySem L2 TL
section
variable {P : Program} {w : World} {K : PySem.W.Frag} {mg : Str → Option Value} {base : Heap}
theorem here_run {k : Nat} {f : Addr} {st : Stmt} {x q : Str} {N : List Str} {dV kV doc pm cdv ct oc : Value} {an od : Option Addr} {osl : Array (Option Value)} {A : Around} {s : Shared} {H : Hp} {u : Value} {v : V} {Q : VK}
    (lk : K.lookup f = some ⟨oc, od, .func (PySem.W.fnOf x q (defArgs st) (defBody st) (defScope st) dV kV doc pm an cdv ct), osl⟩) (hcd : PySem.W.codeIn K cdv q = true) {y : Str} (S : FnScope N [y] (defScope st)) (room : Room (k + 1) A) (e0 : Env0 P w K mg base A [] s H) (rv : RelV v u)
    (bd : BindsTo s (PySem.W.fnOf x q (defArgs st) (defBody st) (defScope st) dV kV doc pm an cdv ct) ⟨[u], []⟩ [(y, u)])
    (body : Room k (A.deeper (PyProof.Rows.envOfC q (defScope st) s.heap.objs.size f cdv)) → ∃ t, PSs (cxOf CX0 P w K mg base N q (defScope st) f cdv A [] s H E0) (defBody st) t ∧ t { nx := fun _ H' => Q .non H', rt := Q } (L2.start N [v]) H) :
    codeAny (model P w) A (.call (.ref f) ⟨[u], []⟩) (fun r s' => ∃ (v' : V) (u' : Value) (H' : Hp), r = .ok (.ret u') ∧ s'.os = s.os ∧ PyProof.Rows.AllBare s'.gens ∧ Un [] [] H H' s.heap s'.heap ∧ HOk P w H' s'.heap ∧ RelV v' u' ∧ Q v' H') s := by
  have now : K.In s.heap := e0.mod.kin.keeps fun b o e => (e0.bs b o e).1
  have par := S.par y List.mem_cons_self
  have one : Vals [v] [u] := .cons rv .nil
  refine codeAny_call_function room.depth (now f _ lk) rfl S.co S.gen rfl (PySem.W.codeRec_of now hcd) (bd _ _ _ _ (wpAny_newFunctionEnv_cells S.kind (fun z hz => ?_) fun env he s1 entered => ?_))
  · rw [List.mem_singleton.mp hz]
    exact par.imp id fun c => ⟨c, PySem.W.cellsFrom_some _ _ _ (.inl c)⟩
  · cases he
    have free : s1.heap.NoLimit := (e0.mod.nolimit.keeps fun b o e => (e0.bs b o e).1).keeps entered.toInCall.keep
    obtain ⟨t, ht, hq⟩ := body (room.deeper _)
    have at1 := inv_start (CX := CX0) (E := E0) (ps := [y]) (us := [u]) (vs := [v]) S room.hd e0 rfl one entered
    refine ⟨free, codeAny_func (wpAny_mono (ht.run [] s1 _ H _ at1 hq) (fun fl s' end_ => ?_) fun e s' bad => ?_)⟩
    · cases fl with
      | ret u' =>
        obtain ⟨v', _, H', J, rv', q'⟩ := end_
        exact ⟨v', u', H', rfl, J.os, J.bare, J.base, J.hok, rv', q'⟩
      | next =>
        obtain ⟨_, H', J, q'⟩ := end_
        exact ⟨.non, .none, H', rfl, J.os, J.bare, J.base, J.hok, rfl, q'⟩
      | brk => obtain ⟨_, _, _, no⟩ := end_; exact no.elim
      | cont => obtain ⟨_, _, _, no⟩ := end_; exact no.elim
    · refine wpAny_mono bad (fun _ _ no => no.elim) fun _ _ no => no.elim
/-- what is tracked as the law begins: the table, and the script (where the written part doesn't have it) -/
def First (a Pt : Addr) (sc : Option HO) : Hp := fun b => if b = Pt then some (.tbl #[]) else if b = a then sc else none
theorem first_tab {a Pt : Addr} {sc : Option HO} : First a Pt sc Pt = some (.tbl #[]) := if_pos rfl
theorem first_scr {a Pt : Addr} {sc : Option HO} (n : a ≠ Pt) : First a Pt sc a = sc := by
  unfold First
  rw [if_neg n, if_pos rfl]
theorem first_other {a Pt b : Addr} {sc : Option HO} (n : b ≠ Pt) (m : b ≠ a) : First a Pt sc b = none := by
  unfold First
  rw [if_neg n, if_neg m]
theorem first_some {a Pt b : Addr} {sc : Option HO} {u : HO} (e : First a Pt sc b = some u) : (b = Pt ∧ u = .tbl #[]) ∨ (b = a ∧ sc = some u) := by
  by_cases h : b = Pt
  · rw [h, first_tab] at e
    exact .inl ⟨h, (Option.some.inj e).symm⟩
  · by_cases h2 : b = a
    · rw [h2] at e h
      rw [first_scr h] at e
      exact .inr ⟨h2, e⟩
    · rw [first_other h h2] at e
      cases e
/-- the law at its caller -/
theorem law_here {k : Nat} {fa a c Pt : Addr} {dV kV doc pm cdv ct oc : Value} {an od : Option Addr} {osl : Array (Option Value)} {s₁ : Shared} {mb : Str → Option Value} {vs : List Value} {ns : List Int}
    (lk : K.lookup fa = some ⟨oc, od, .func (PySem.W.fnOf "law" "law" (defArgs sLaw) (defBody sLaw) (defScope sLaw) dV kV doc pm an cdv ct), osl⟩) (hcd : PySem.W.codeIn K cdv "law" = true) (room : Room (k + 1) callerA)
    (bd : ∀ (s : Shared) (u : Value), BindsTo s (PySem.W.fnOf "law" "law" (defArgs sLaw) (defBody sLaw) (defScope sLaw) dV kV doc pm an cdv ct) ⟨[u], []⟩ [("_law_script", u)])
    (inK : K.In s₁.heap) (gl : s₁.heap.Ns mainGlobals mg) (bl : s₁.heap.Ns builtinsNs mb) (bb : ∀ x : Str, x ≠ "__name__" → mb x = bootBuiltins x) (lim : s₁.heap.NoLimit) (gen0 : s₁.gens = #[])
    (hT : s₁.heap.get? Pt = some { cls := .none, data := .fields #[] }) (nT : K.lookup Pt = none) (hh : PySem.W.codeHdIn K c Pt = true)
    (bm : ∃ (m : Addr) (ob : Obj), mg "__builtins__" = some (.ref m) ∧ m ≠ builtinsNs ∧ s₁.heap.get? m = some ob ∧ ob.cls = .type "module" ∧ ob.dict = some builtinsNs ∧ ob.data = .plain)
    (ha : s₁.heap.get? a = some { cls := .type "list", data := .seq vs.toArray }) (hi : PyProof.Rows.IntsAre vs ns) (h63 : ns.length ≤ 63)
    (body : ∀ (base : Heap), K.In base → GxR.TabB base mg c Pt → ∀ (A0 : Around) (outer : List Env) (s : Shared) (H : Hp) (vs : List V) (Q : VK) (Es : XK), A0.guards = some [] → Room k (A0.deeper (PyProof.Rows.envOfC "law" (defScope sLaw) s.heap.objs.size fa cdv)) → spLaw K Pt vs H Q Es →
      ∃ t, PSs (cxOf CX0 P w K mg base nLaw "law" (defScope sLaw) fa cdv A0 outer s H Es).nox (defBody sLaw) t ∧ t { nx := fun _ H' => Q .non H', rt := Q } (L2.start nLaw vs) H) :
    codeAny (model P w) callerA (.call (.ref fa) ⟨[.ref a], []⟩) (fun r s' => r = .ok (.ret (.bool true)) ∧ OldK s₁.heap s'.heap ∧ s'.os = s₁.os ∧ PyProof.Rows.AllBare s'.gens) s₁ := by
  have aT : a ≠ Pt := fun z => by
    rw [z, hT] at ha
    have := congrArg Obj.data (Option.some.inj ha)
    cases this
  have nlen := hi.length
  -- the script: known to the written part, or tracked
  obtain ⟨sc, hsc, hscK, hseq⟩ : ∃ sc : Option HO, (∀ u, sc = some u → ObjOk P w (First a Pt sc) s₁.heap a u ∧ ∃ o xs, u = .frz o (.lst xs)) ∧ (sc ≠ none → K.lookup a = none) ∧ SqL K (First a Pt sc) a (ns.map V.int) := by
    cases hk : K.lookup a with
    | none =>
      refine ⟨some (.frz { cls := .type "list", data := .seq vs.toArray } (.lst (ns.map V.int))), fun u e => ?_, fun _ => rfl, .inl (.inr ⟨_, first_scr aT⟩)⟩
      cases e
      refine ⟨⟨ha, ?_, vs, _, vals_ints hi, ha⟩, _, _, rfl⟩
      rw [List.length_map]
      exact Nat.le_trans h63 (by decide)
    | some o =>
      refine ⟨none, fun u e => (nomatch e), fun n => (n rfl).elim, .inr ⟨o, vs.toArray, 0, hk, ?_⟩⟩
      have q := inK a o hk
      rw [ha] at q
      cases q
      refine ⟨rfl, rfl, rfl, ?_, by simpa using vals_ints hi⟩
      rw [List.size_toArray, nlen]
      exact Nat.le_trans h63 (by decide)
  generalize hHd : First a Pt sc = H at hsc hseq
  have hTab : H Pt = some (.tbl #[]) := by rw [← hHd]; exact first_tab
  have known : ∀ b u, H b = some u → (b = Pt ∧ u = .tbl #[]) ∨ (b = a ∧ sc = some u) := fun b u e => first_some (by rw [hHd]; exact e)
  have hok : HOk P w H s₁.heap := fun b u e => by
    rcases known b u e with ⟨rfl, rfl⟩ | ⟨rfl, q⟩
    · exact hT
    · exact (hsc u q).1
  -- nothing else is tracked
  have clear : ∀ {b : Addr} {o : Obj}, s₁.heap.get? b = some o → (∀ l n, o.data ≠ .seq l n) → o.data ≠ .fields #[] → H b = none := fun {b o} e n1 n2 => by
    cases q : H b with
    | none => rfl
    | some u =>
      rcases known b u q with ⟨rfl, _⟩ | ⟨rfl, _⟩
      · rw [hT] at e
        cases e
        exact (n2 rfl).elim
      · rw [ha] at e
        cases e
        exact (n1 _ _ rfl).elim
  have nsB : ∀ {b : Addr} {m : Str → Option Value}, s₁.heap.Ns b m → (hidT s₁.heap H).Ns b m := fun {b m} ⟨o, es, ep, e, d, r⟩ =>
    ⟨o, es, ep, hidT_get e (clear e (fun l n z => by rw [d] at z; cases z) (fun z => by rw [d] at z; cases z)), d, r⟩
  have kB : K.In (hidT s₁.heap H) := fun b o e => hidT_get (inK b o e) (by
    cases q : H b with
    | none => rfl
    | some u =>
      rcases known b u q with ⟨rfl, _⟩ | ⟨rfl, q2⟩
      · rw [nT] at e; cases e
      · rw [hscK (by rw [q2]; simp)] at e; cases e)
  have modB : L2.Mod K mg (hidT s₁.heap H) := by
    obtain ⟨mc, l1, l2⟩ := lim
    exact ⟨kB, nsB gl, ⟨mb, nsB bl, bb⟩, mc, nsB l1, l2⟩
  have glob : mainGlobals ≠ Pt := fun z => by
    obtain ⟨o, es, ep, e, d, _⟩ := gl
    rw [z, hT] at e
    cases e
    cases d
  have tabB : GxR.TabB (hidT s₁.heap H) mg c Pt := by
    obtain ⟨m, ob, g1, g2, g3, g4, g5, g6⟩ := bm
    refine ⟨PySem.W.codeHd_of_K kB hh, ⟨m, ob, g1, g2, fun z => ?_, fun z => ?_, hidT_get g3 (clear g3 (fun l n z => by rw [g6] at z; cases z) (fun z => by rw [g6] at z; cases z)), g4, g5, g6⟩, glob⟩
    · obtain ⟨o, es, ep, e, d, _⟩ := gl
      rw [← z, g3] at e
      cases e
      rw [g6] at d
      cases d
    · rw [z, hT] at g3
      cases g3
      cases g6
  have e0 : Env0 P w K mg (hidT s₁.heap H) callerA [] s₁ H := ⟨rfl, modB, fun b o e => of_hidT e, Nat.le_of_eq (hidT_size _ _), trivial, fun b z => absurd z List.not_mem_nil, hok, .of_eq gen0⟩
  have run := here_run (Q := fun v _ => v = .bl true) (v := .ref a) (u := .ref a) lk hcd scLaw room e0 rfl (bd s₁ (.ref a)) fun hr => by
    obtain ⟨t, ht, hq⟩ := body _ kB tabB callerA [] s₁ H [.ref a] (fun v _ => v = .bl true) E0 rfl hr ⟨a, ns, rfl, hseq, h63, hTab, fun _ => rfl⟩
    exact ⟨t, ht.nox, hq⟩
  refine codeAny_mono run fun r s' ⟨v', u', H', er, os, bare, un, hok', rv', ev⟩ => ?_
  subst ev
  have eu : u' = Value.bool true := rv'
  subst eu
  have kept : ∀ b o, b ≠ Pt → s₁.heap.get? b = some o → s'.heap.get? b = some o := fun b o n e => by
    cases q : H b with
    | none => exact un.keep b o e q List.not_mem_nil List.not_mem_nil
    | some u =>
      rcases known b u q with ⟨z, _⟩ | ⟨rfl, q2⟩
      · exact (n z).elim
      · obtain ⟨_, ob, xs, rfl⟩ := hsc u q2
        have f1 := (hok b _ q).1
        have f2 := (hok' b _ (un.frzs b ob _ q)).1
        rw [e] at f1
        cases f1
        exact f2
  obtain ⟨more, hm⟩ := un.tbls Pt #[] hTab
  have grown : s'.heap.get? Pt = some { cls := .none, data := .fields (#[] ++ more) } := hok' Pt _ hm
  have isT := ((PySem.W.codeHd_of_K inK hh).tab hT).isCodeTable
  refine ⟨er, ⟨fun b o e => ?_, fun b o e => ?_⟩, os, bare⟩
  · by_cases hb : b = Pt
    · subst hb
      rw [hT] at e
      cases e
      exact .inr (.inl ⟨isT, rfl, #[], more, rfl, grown⟩)
    · exact .inl (kept b o hb e)
  · by_cases hb : b = Pt
    · subst hb
      exact ⟨_, grown⟩
    · exact ⟨o, kept b o hb e⟩
end
end Fs
namespace Fs
open PySem L2 TL
theorem fun_of_D {K : PySem.W.Frag} {x q : Str} {st : Stmt} {f : Addr} {fd : FuncData} (F : FunD K x q (defArgs st) (defBody st) (defScope st) [] [] f fd) : Fun K x q st f fd := by
  obtain ⟨oc, od, dV, kV, doc, pm, an, cdv, ct, osl, e, lk, hcd, hd, _⟩ := F.ex
  have hdV : dV = .none := by
    rcases hd with h | h
    · exact h.2
    · exact (h.1 rfl).elim
  subst hdV
  exact ⟨⟨oc, od, kV, doc, pm, an, cdv, ct, osl, e, lk, hcd⟩, F.kp⟩
section
variable {P : Program} {w : World} {K : PySem.W.Frag} {mg : Str → Option Value} {h : Heap}
/-- everything together -/
theorem all (X : K.In h) (G : h.Ns mainGlobals mg) {fa0 : Addr} (hfa : mg ("law" : Str) = some (.ref fa0)) (c : He.SaysX fa fn ts tf exB w h K) :
    ∃ (co Pt : Addr) (dV kV doc pm cdv ct oc : Value) (an od : Option Addr) (osl : Array (Option Value)), K.lookup fa0 = some ⟨oc, od, .func (PySem.W.fnOf "law" "law" (defArgs sLaw) (defBody sLaw) (defScope sLaw) dV kV doc pm an cdv ct), osl⟩ ∧ PySem.W.codeIn K cdv "law" = true ∧
      (∀ (s : Shared) (u : Value), BindsTo s (PySem.W.fnOf "law" "law" (defArgs sLaw) (defBody sLaw) (defScope sLaw) dV kV doc pm an cdv ct) ⟨[u], []⟩ [("_law_script", u)]) ∧
      h.get? Pt = some { cls := .none, data := .fields #[] } ∧ K.lookup Pt = none ∧ PySem.W.codeHdIn K co Pt = true ∧
      ∀ (base : Heap), K.In base → GxR.TabB base mg co Pt → ∀ (A0 : Around) (outer : List Env) (s : Shared) (H : Hp) (vs : List V) (Q : VK) (Es : XK), A0.guards = some [] → Room 25 (A0.deeper (PyProof.Rows.envOfC "law" (defScope sLaw) s.heap.objs.size fa0 cdv)) → spLaw K Pt vs H Q Es →
        ∃ t, PSs (cxOf CX0 P w K mg base nLaw "law" (defScope sLaw) fa0 cdv A0 outer s H Es).nox (defBody sLaw) t ∧ t { nx := fun _ H' => Q .non H', rt := Q } (L2.start nLaw vs) H := by
  have d : He.SaysD fa fn K := c.t.d
  have fct : ∀ f : He.Fa, f ∈ fa → f.ok K = true := fun f hf => d.facts hf
  obtain ⟨x_d_is_whole, D_d_is_whole⟩ := d.def_ 0 (d := d_is_whole) rfl
  have F_d_is_whole : Fun K "is_whole" "is_whole" sWhole (He.ga K "is_whole") x_d_is_whole := fun_of_D D_d_is_whole
  have B_d_is_whole : Binds K x_d_is_whole ["thing"] [] := F_d_is_whole.binds fun _ _ _ _ _ _ us hl => match us, hl with | [_], _ => rfl
  obtain ⟨x_d_is_text, D_d_is_text⟩ := d.def_ 1 (d := d_is_text) rfl
  have F_d_is_text : Fun K "is_text" "is_text" sIsText (He.ga K "is_text") x_d_is_text := fun_of_D D_d_is_text
  have B_d_is_text : Binds K x_d_is_text ["thing"] [] := F_d_is_text.binds fun _ _ _ _ _ _ us hl => match us, hl with | [_], _ => rfl
  obtain ⟨x_d_is_name, D_d_is_name⟩ := d.def_ 2 (d := d_is_name) rfl
  have F_d_is_name : Fun K "is_name" "is_name" sIsName (He.ga K "is_name") x_d_is_name := fun_of_D D_d_is_name
  have B_d_is_name : Binds K x_d_is_name ["thing"] [] := F_d_is_name.binds fun _ _ _ _ _ _ us hl => match us, hl with | [_], _ => rfl
  obtain ⟨x_d__law_pot, D_d__law_pot⟩ := d.def_ 3 (d := d__law_pot) rfl
  have F_d__law_pot : Fun K "_law_pot" "_law_pot" sPot (He.ga K "_law_pot") x_d__law_pot := fun_of_D D_d__law_pot
  have B_d__law_pot : Binds K x_d__law_pot ["_law_script", "_law_k"] [] := F_d__law_pot.binds fun _ _ _ _ _ _ us hl => match us, hl with | [_, _], _ => rfl
  obtain ⟨x_d__law_digit, D_d__law_digit⟩ := d.def_ 4 (d := d__law_digit) rfl
  have F_d__law_digit : Fun K "_law_digit" "_law_digit" sDigit (He.ga K "_law_digit") x_d__law_digit := fun_of_D D_d__law_digit
  have B_d__law_digit : Binds K x_d__law_digit ["_law_pot_here", "_law_many"] [] := F_d__law_digit.binds fun _ _ _ _ _ _ us hl => match us, hl with | [_, _], _ => rfl
  obtain ⟨x_d__law_text, D_d__law_text⟩ := d.def_ 5 (d := d__law_text) rfl
  have F_d__law_text : Fun K "_law_text" "_law_text" sText (He.ga K "_law_text") x_d__law_text := fun_of_D D_d__law_text
  have B_d__law_text : Binds K x_d__law_text ["_law_pot_here"] [] := F_d__law_text.binds fun _ _ _ _ _ _ us hl => match us, hl with | [_], _ => rfl
  obtain ⟨x_d__law_name, D_d__law_name⟩ := d.def_ 6 (d := d__law_name) rfl
  have F_d__law_name : Fun K "_law_name" "_law_name" sName (He.ga K "_law_name") x_d__law_name := fun_of_D D_d__law_name
  have B_d__law_name : Binds K x_d__law_name ["_law_pot_here"] [] := F_d__law_name.binds fun _ _ _ _ _ _ us hl => match us, hl with | [_], _ => rfl
  obtain ⟨x_d__law_kinds, D_d__law_kinds⟩ := d.def_ 7 (d := d__law_kinds) rfl
  have F_d__law_kinds : Fun K "_law_kinds" "_law_kinds" sKds (He.ga K "_law_kinds") x_d__law_kinds := fun_of_D D_d__law_kinds
  have B_d__law_kinds : Binds K x_d__law_kinds ["_law_pot_here", "_law_most"] [] := F_d__law_kinds.binds fun _ _ _ _ _ _ us hl => match us, hl with | [_, _], _ => rfl
  obtain ⟨x_d__law_texts, D_d__law_texts⟩ := d.def_ 8 (d := d__law_texts) rfl
  have F_d__law_texts : Fun K "_law_texts" "_law_texts" sTxs (He.ga K "_law_texts") x_d__law_texts := fun_of_D D_d__law_texts
  have B_d__law_texts : Binds K x_d__law_texts ["_law_pot_here"] [] := F_d__law_texts.binds fun _ _ _ _ _ _ us hl => match us, hl with | [_], _ => rfl
  obtain ⟨x_d__law_members, D_d__law_members⟩ := d.def_ 9 (d := d__law_members) rfl
  have F_d__law_members : Fun K "_law_members" "_law_members" sMem (He.ga K "_law_members") x_d__law_members := fun_of_D D_d__law_members
  have B_d__law_members : Binds K x_d__law_members ["_law_pot_here", "_law_many", "_law_leaves_here", "_law_deep", "_law_room"] [] := F_d__law_members.binds fun _ _ _ _ _ _ us hl => match us, hl with | [_, _, _, _, _], _ => rfl
  obtain ⟨x_d__law_faults, D_d__law_faults⟩ := d.def_ 10 (d := d__law_faults) rfl
  have F_d__law_faults : Fun K "_law_faults" "_law_faults" sFts (He.ga K "_law_faults") x_d__law_faults := fun_of_D D_d__law_faults
  have B_d__law_faults : Binds K x_d__law_faults ["_law_pot_here", "_law_pairs", "_law_texts_here", "_law_most", "_law_room"] [] := F_d__law_faults.binds fun _ _ _ _ _ _ us hl => match us, hl with | [_, _, _, _, _], _ => rfl
  obtain ⟨x_d__law_tower, D_d__law_tower⟩ := d.def_ 11 (d := d__law_tower) rfl
  have F_d__law_tower : Fun K "_law_tower" "_law_tower" sTow (He.ga K "_law_tower") x_d__law_tower := fun_of_D D_d__law_tower
  have B_d__law_tower : Binds K x_d__law_tower ["_law_pot_here", "_law_pairs", "_law_texts_here", "_law_many"] [] := F_d__law_tower.binds fun _ _ _ _ _ _ us hl => match us, hl with | [_, _, _, _], _ => rfl
  obtain ⟨x_d__law_row, D_d__law_row⟩ := d.def_ 12 (d := d__law_row) rfl
  have F_d__law_row : Fun K "_law_row" "_law_row" sRowL (He.ga K "_law_row") x_d__law_row := fun_of_D D_d__law_row
  have B_d__law_row : Binds K x_d__law_row ["_law_pot_here", "_law_pairs", "_law_texts_here", "_law_many"] [] := F_d__law_row.binds fun _ _ _ _ _ _ us hl => match us, hl with | [_, _, _, _], _ => rfl
  obtain ⟨x_d__law_some, D_d__law_some⟩ := d.def_ 13 (d := d__law_some) rfl
  have F_d__law_some : Fun K "_law_some" "_law_some" sSome (He.ga K "_law_some") x_d__law_some := fun_of_D D_d__law_some
  have B_d__law_some : Binds K x_d__law_some ["_law_pot_here", "_law_pairs", "_law_texts_here", "_law_most", "_law_room"] [] := F_d__law_some.binds fun _ _ _ _ _ _ us hl => match us, hl with | [_, _, _, _, _], _ => rfl
  obtain ⟨x_d__law_ledger, D_d__law_ledger⟩ := d.def_ 14 (d := d__law_ledger) rfl
  have F_d__law_ledger : Fun K "_law_ledger" "_law_ledger" sLedg (He.ga K "_law_ledger") x_d__law_ledger := fun_of_D D_d__law_ledger
  have B_d__law_ledger : Binds K x_d__law_ledger ["_law_pairs", "_law_faults_here"] [] := F_d__law_ledger.binds fun _ _ _ _ _ _ us hl => match us, hl with | [_, _], _ => rfl
  obtain ⟨x_d__law_rise, D_d__law_rise⟩ := d.def_ 15 (d := d__law_rise) rfl
  have F_d__law_rise : Fun K "_law_rise" "_law_rise" sRiL (He.ga K "_law_rise") x_d__law_rise := fun_of_D D_d__law_rise
  have B_d__law_rise : Binds K x_d__law_rise ["_law_faults_here", "_law_k", "_law_j"] [] := F_d__law_rise.binds fun _ _ _ _ _ _ us hl => match us, hl with | [_, _, _], _ => rfl
  obtain ⟨x_d__law_deed, D_d__law_deed⟩ := d.def_ 16 (d := d__law_deed) rfl
  have F_d__law_deed : Fun K "_law_deed" "_law_deed" sDeA (He.ga K "_law_deed") x_d__law_deed := fun_of_D D_d__law_deed
  have B_d__law_deed : Binds K x_d__law_deed ["_law_pot_here", "_law_ledger_here", "_law_faults_here", "_law_texts_here", "_law_k"] [] := F_d__law_deed.binds fun _ _ _ _ _ _ us hl => match us, hl with | [_, _, _, _, _], _ => rfl
  obtain ⟨x_d__law_deeds, D_d__law_deeds⟩ := d.def_ 17 (d := d__law_deeds) rfl
  have F_d__law_deeds : Fun K "_law_deeds" "_law_deeds" sDsA (He.ga K "_law_deeds") x_d__law_deeds := fun_of_D D_d__law_deeds
  have B_d__law_deeds : Binds K x_d__law_deeds ["_law_pot_here", "_law_ledger_here", "_law_faults_here", "_law_texts_here", "_law_most"] [] := F_d__law_deeds.binds fun _ _ _ _ _ _ us hl => match us, hl with | [_, _, _, _, _], _ => rfl
  obtain ⟨x_d__law_told, D_d__law_told⟩ := d.def_ 18 (d := d__law_told) rfl
  have F_d__law_told : Fun K "_law_told" "_law_told" sToA (He.ga K "_law_told") x_d__law_told := fun_of_D D_d__law_told
  have B_d__law_told : Binds K x_d__law_told ["_law_ledger_here", "_law_many"] [] := F_d__law_told.binds fun _ _ _ _ _ _ us hl => match us, hl with | [_, _], _ => rfl
  obtain ⟨x_d__law_under, D_d__law_under⟩ := d.def_ 19 (d := d__law_under) rfl
  have F_d__law_under : Fun K "_law_under" "_law_under" sUnd (He.ga K "_law_under") x_d__law_under := fun_of_D D_d__law_under
  have B_d__law_under : Binds K x_d__law_under ["_law_pairs", "_law_name_here", "_law_other"] [] := F_d__law_under.binds fun _ _ _ _ _ _ us hl => match us, hl with | [_, _, _], _ => rfl
  obtain ⟨x_d__law_fits, D_d__law_fits⟩ := d.def_ 20 (d := d__law_fits) rfl
  have F_d__law_fits : Fun K "_law_fits" "_law_fits" sFit (He.ga K "_law_fits") x_d__law_fits := fun_of_D D_d__law_fits
  have B_d__law_fits : Binds K x_d__law_fits ["_law_pairs", "_law_fault", "_law_test_here"] [] := F_d__law_fits.binds fun _ _ _ _ _ _ us hl => match us, hl with | [_, _, _], _ => rfl
  obtain ⟨x_d__law_test, D_d__law_test⟩ := d.def_ 21 (d := d__law_test) rfl
  have F_d__law_test : Fun K "_law_test" "_law_test" sTst (He.ga K "_law_test") x_d__law_test := fun_of_D D_d__law_test
  have B_d__law_test : Binds K x_d__law_test ["_law_pot_here", "_law_pairs", "_law_texts_here", "_law_deep"] [] := F_d__law_test.binds fun _ _ _ _ _ _ us hl => match us, hl with | [_, _, _, _], _ => rfl
  obtain ⟨x_d_is_test, D_d_is_test⟩ := d.def_ 22 (d := d_is_test) rfl
  have F_d_is_test : Fun K "is_test" "is_test" sIsT (He.ga K "is_test") x_d_is_test := fun_of_D D_d_is_test
  have B_d_is_test : Binds K x_d_is_test ["kinds", "thing"] [] := F_d_is_test.binds fun _ _ _ _ _ _ us hl => match us, hl with | [_, _], _ => rfl
  obtain ⟨x_d__is_single, D_d__is_single⟩ := d.def_ 23 (d := d__is_single) rfl
  have F_d__is_single : Fun K "_is_single" "_is_single" sSing (He.ga K "_is_single") x_d__is_single := fun_of_D D_d__is_single
  have B_d__is_single : Binds K x_d__is_single ["kinds", "thing"] [] := F_d__is_single.binds fun _ _ _ _ _ _ us hl => match us, hl with | [_, _], _ => rfl
  obtain ⟨x_d_check_test, D_d_check_test⟩ := d.def_ 24 (d := d_check_test) rfl
  have F_d_check_test : Fun K "check_test" "check_test" sChT (He.ga K "check_test") x_d_check_test := fun_of_D D_d_check_test
  have B_d_check_test : Binds K x_d_check_test ["ledger", "test"] [] := F_d_check_test.binds fun _ _ _ _ _ _ us hl => match us, hl with | [_, _], _ => rfl
  obtain ⟨x_d_holds, D_d_holds⟩ := d.def_ 25 (d := d_holds) rfl
  have F_d_holds : Fun K "holds" "holds" sHol (He.ga K "holds") x_d_holds := fun_of_D D_d_holds
  have B_d_holds : Binds K x_d_holds ["ledger", "k", "test"] [] := F_d_holds.binds fun _ _ _ _ _ _ us hl => match us, hl with | [_, _, _], _ => rfl
  obtain ⟨x_d_part_at, D_d_part_at⟩ := d.def_ 26 (d := d_part_at) rfl
  have F_d_part_at : Fun K "part_at" "part_at" sPat (He.ga K "part_at") x_d_part_at := fun_of_D D_d_part_at
  have B_d_part_at : Binds K x_d_part_at ["ledger", "k", "ways"] [] := F_d_part_at.binds fun _ _ _ _ _ _ us hl => match us, hl with | [_, _, _], _ => rfl
  obtain ⟨x_d__hand, D_d__hand⟩ := d.def_ 27 (d := d__hand) rfl
  have F_d__hand : Fun K "_hand" "_hand" sHnd (He.ga K "_hand") x_d__hand := fun_of_D D_d__hand
  have B_d__hand : Binds K x_d__hand ["ledger", "k", "ways"] [] := F_d__hand.binds fun _ _ _ _ _ _ us hl => match us, hl with | [_, _, _], _ => rfl
  obtain ⟨x_d_taken_out, D_d_taken_out⟩ := d.def_ 28 (d := d_taken_out) rfl
  have F_d_taken_out : Fun K "taken_out" "taken_out" sTko (He.ga K "taken_out") x_d_taken_out := fun_of_D D_d_taken_out
  have B_d_taken_out : Binds K x_d_taken_out ["ledger", "k", "tests"] [] := F_d_taken_out.binds fun _ _ _ _ _ _ us hl => match us, hl with | [_, _, _], _ => rfl
  obtain ⟨x_d__check_tests, D_d__check_tests⟩ := d.def_ 29 (d := d__check_tests) rfl
  have F_d__check_tests : Fun K "_check_tests" "_check_tests" sCks (He.ga K "_check_tests") x_d__check_tests := fun_of_D D_d__check_tests
  have B_d__check_tests : Binds K x_d__check_tests ["ledger", "tests"] [] := F_d__check_tests.binds fun _ _ _ _ _ _ us hl => match us, hl with | [_, _], _ => rfl
  obtain ⟨x_d__first, D_d__first⟩ := d.def_ 30 (d := d__first) rfl
  have F_d__first : Fun K "_first" "_first" sFst (He.ga K "_first") x_d__first := fun_of_D D_d__first
  have B_d__first : Binds K x_d__first ["ledger", "k", "tests"] [] := F_d__first.binds fun _ _ _ _ _ _ us hl => match us, hl with | [_, _, _], _ => rfl
  obtain ⟨x_d__law_leaves, D_d__law_leaves⟩ := d.def_ 31 (d := d__law_leaves) rfl
  have F_d__law_leaves : Fun K "_law_leaves" "_law_leaves" sLvs (He.ga K "_law_leaves") x_d__law_leaves := fun_of_D D_d__law_leaves
  have B_d__law_leaves : Binds K x_d__law_leaves ["_law_faults_here", "_law_k"] [] := F_d__law_leaves.binds fun _ _ _ _ _ _ us hl => match us, hl with | [_, _], _ => rfl
  obtain ⟨x_d__law_whole, D_d__law_whole⟩ := d.def_ 32 (d := d__law_whole) rfl
  have F_d__law_whole : Fun K "_law_whole" "_law_whole" sWhL (He.ga K "_law_whole") x_d__law_whole := fun_of_D D_d__law_whole
  have B_d__law_whole : Binds K x_d__law_whole ["_law_thing"] [] := F_d__law_whole.binds fun _ _ _ _ _ _ us hl => match us, hl with | [_], _ => rfl
  obtain ⟨x_d__law_part_right, D_d__law_part_right⟩ := d.def_ 33 (d := d__law_part_right) rfl
  have F_d__law_part_right : Fun K "_law_part_right" "_law_part_right" sPRt (He.ga K "_law_part_right") x_d__law_part_right := fun_of_D D_d__law_part_right
  have B_d__law_part_right : Binds K x_d__law_part_right ["_law_ledger_here", "_law_faults_here", "_law_found", "_law_k", "_law_ahead", "_law_chosen", "_law_many"] [] := F_d__law_part_right.binds fun _ _ _ _ _ _ us hl => match us, hl with | [_, _, _, _, _, _, _], _ => rfl
  obtain ⟨x_d__law_top, D_d__law_top⟩ := d.def_ 34 (d := d__law_top) rfl
  have F_d__law_top : Fun K "_law_top" "_law_top" sTop (He.ga K "_law_top") x_d__law_top := fun_of_D D_d__law_top
  have B_d__law_top : Binds K x_d__law_top ["_law_pot_here", "_law_faults_here"] [] := F_d__law_top.binds fun _ _ _ _ _ _ us hl => match us, hl with | [_, _], _ => rfl
  obtain ⟨x_d__law_tests, D_d__law_tests⟩ := d.def_ 35 (d := d__law_tests) rfl
  have F_d__law_tests : Fun K "_law_tests" "_law_tests" sTsts (He.ga K "_law_tests") x_d__law_tests := fun_of_D D_d__law_tests
  have B_d__law_tests : Binds K x_d__law_tests ["_law_pot_here", "_law_pairs", "_law_texts_here", "_law_faults_here", "_law_k", "_law_most"] [] := F_d__law_tests.binds fun _ _ _ _ _ _ us hl => match us, hl with | [_, _, _, _, _, _], _ => rfl
  obtain ⟨x_d__law_shares, D_d__law_shares⟩ := d.def_ 36 (d := d__law_shares) rfl
  have F_d__law_shares : Fun K "_law_shares" "_law_shares" sShr (He.ga K "_law_shares") x_d__law_shares := fun_of_D D_d__law_shares
  have B_d__law_shares : Binds K x_d__law_shares ["_law_pairs", "_law_faults_here", "_law_k", "_law_tests_here"] [] := F_d__law_shares.binds fun _ _ _ _ _ _ us hl => match us, hl with | [_, _, _, _], _ => rfl
  obtain ⟨x_d__law_hand_right, D_d__law_hand_right⟩ := d.def_ 37 (d := d__law_hand_right) rfl
  have F_d__law_hand_right : Fun K "_law_hand_right" "_law_hand_right" sHdR (He.ga K "_law_hand_right") x_d__law_hand_right := fun_of_D D_d__law_hand_right
  have B_d__law_hand_right : Binds K x_d__law_hand_right ["_law_ledger_here", "_law_faults_here", "_law_found", "_law_k", "_law_chosen", "_law_many"] [] := F_d__law_hand_right.binds fun _ _ _ _ _ _ us hl => match us, hl with | [_, _, _, _, _, _], _ => rfl
  obtain ⟨x_d__law_taken_right, D_d__law_taken_right⟩ := d.def_ 38 (d := d__law_taken_right) rfl
  have F_d__law_taken_right : Fun K "_law_taken_right" "_law_taken_right" sTkR (He.ga K "_law_taken_right") x_d__law_taken_right := fun_of_D D_d__law_taken_right
  have B_d__law_taken_right : Binds K x_d__law_taken_right ["_law_ledger_here", "_law_pairs", "_law_faults_here", "_law_k", "_law_tests_here", "_law_found", "_law_many"] [] := F_d__law_taken_right.binds fun _ _ _ _ _ _ us hl => match us, hl with | [_, _, _, _, _, _, _], _ => rfl
  obtain ⟨x_d__law_plain_or_top, D_d__law_plain_or_top⟩ := d.def_ 39 (d := d__law_plain_or_top) rfl
  have F_d__law_plain_or_top : Fun K "_law_plain_or_top" "_law_plain_or_top" sPoT (He.ga K "_law_plain_or_top") x_d__law_plain_or_top := fun_of_D D_d__law_plain_or_top
  have B_d__law_plain_or_top : Binds K x_d__law_plain_or_top ["_law_pot_here", "_law_faults_here"] [] := F_d__law_plain_or_top.binds fun _ _ _ _ _ _ us hl => match us, hl with | [_, _], _ => rfl
  obtain ⟨x_d__law_right, D_d__law_right⟩ := d.def_ 40 (d := d__law_right) rfl
  have F_d__law_right : Fun K "_law_right" "_law_right" sRt (He.ga K "_law_right") x_d__law_right := fun_of_D D_d__law_right
  have B_d__law_right : Binds K x_d__law_right ["_law_ledger_here", "_law_pairs", "_law_faults_here", "_law_k", "_law_tests_here"] [] := F_d__law_right.binds fun _ _ _ _ _ _ us hl => match us, hl with | [_, _, _, _, _], _ => rfl
  obtain ⟨x_d__law_anew_right, D_d__law_anew_right⟩ := d.def_ 41 (d := d__law_anew_right) rfl
  have F_d__law_anew_right : Fun K "_law_anew_right" "_law_anew_right" sAn (He.ga K "_law_anew_right") x_d__law_anew_right := fun_of_D D_d__law_anew_right
  have B_d__law_anew_right : Binds K x_d__law_anew_right ["_law_pot_here", "_law_ledger_here", "_law_pairs", "_law_faults_here", "_law_texts_here", "_law_k", "_law_tests_here"] [] := F_d__law_anew_right.binds fun _ _ _ _ _ _ us hl => match us, hl with | [_, _, _, _, _, _, _], _ => rfl
  obtain ⟨x_d__law_round, D_d__law_round⟩ := d.def_ 42 (d := d__law_round) rfl
  have F_d__law_round : Fun K "_law_round" "_law_round" sRnd (He.ga K "_law_round") x_d__law_round := fun_of_D D_d__law_round
  have B_d__law_round : Binds K x_d__law_round ["_law_pot_here"] [] := F_d__law_round.binds fun _ _ _ _ _ _ us hl => match us, hl with | [_], _ => rfl
  obtain ⟨x_d_law, D_d_law⟩ := d.def_ 43 (d := d_law) rfl
  have F_d_law : Fun K "law" "law" sLaw (He.ga K "law") x_d_law := fun_of_D D_d_law
  have B_d_law : Binds K x_d_law ["_law_script"] [] := F_d_law.binds fun _ _ _ _ _ _ us hl => match us, hl with | [_], _ => rfl
  obtain ⟨x_dL_xinitx, D_dL_xinitx⟩ := d.def_ 44 (d := dL_xinitx) rfl
  have F_dL_xinitx : Fun K "__init__" "Ledger.__init__" sLInit (He.ma K (He.ga K "Ledger") "__init__") x_dL_xinitx := fun_of_D D_dL_xinitx
  have B_dL_xinitx : Binds K x_dL_xinitx ["self", "kinds"] [] := F_dL_xinitx.binds fun _ _ _ _ _ _ us hl => match us, hl with | [_, _], _ => rfl
  obtain ⟨x_dL_plain, D_dL_plain⟩ := d.def_ 45 (d := dL_plain) rfl
  have F_dL_plain : Fun K "plain" "Ledger.plain" sPlain (He.ma K (He.ga K "Ledger") "plain") x_dL_plain := fun_of_D D_dL_plain
  have B_dL_plain : Binds K x_dL_plain ["self", "kind", "text"] [] := F_dL_plain.binds fun _ _ _ _ _ _ us hl => match us, hl with | [_, _, _], _ => rfl
  obtain ⟨x_dL_sheaf, D_dL_sheaf⟩ := d.def_ 46 (d := dL_sheaf) rfl
  have F_dL_sheaf : Fun K "sheaf" "Ledger.sheaf" sSheaf (He.ma K (He.ga K "Ledger") "sheaf") x_dL_sheaf := fun_of_D D_dL_sheaf
  have B_dL_sheaf : Binds K x_dL_sheaf ["self", "text", "members"] [] := F_dL_sheaf.binds fun _ _ _ _ _ _ us hl => match us, hl with | [_, _, _], _ => rfl
  obtain ⟨x_dL_many, D_dL_many⟩ := d.def_ 47 (d := dL_many) rfl
  have F_dL_many : Fun K "many" "Ledger.many" sMany (He.ma K (He.ga K "Ledger") "many") x_dL_many := fun_of_D D_dL_many
  have B_dL_many : Binds K x_dL_many ["self"] [] := F_dL_many.binds fun _ _ _ _ _ _ us hl => match us, hl with | [_], _ => rfl
  obtain ⟨x_dL_kind, D_dL_kind⟩ := d.def_ 48 (d := dL_kind) rfl
  have F_dL_kind : Fun K "kind" "Ledger.kind" sKind (He.ma K (He.ga K "Ledger") "kind") x_dL_kind := fun_of_D D_dL_kind
  have B_dL_kind : Binds K x_dL_kind ["self", "k"] [] := F_dL_kind.binds fun _ _ _ _ _ _ us hl => match us, hl with | [_, _], _ => rfl
  obtain ⟨x_dL_text, D_dL_text⟩ := d.def_ 49 (d := dL_text) rfl
  have F_dL_text : Fun K "text" "Ledger.text" sTextM (He.ma K (He.ga K "Ledger") "text") x_dL_text := fun_of_D D_dL_text
  have B_dL_text : Binds K x_dL_text ["self", "k"] [] := F_dL_text.binds fun _ _ _ _ _ _ us hl => match us, hl with | [_, _], _ => rfl
  obtain ⟨x_dL_members, D_dL_members⟩ := d.def_ 50 (d := dL_members) rfl
  have F_dL_members : Fun K "members" "Ledger.members" sMembers (He.ma K (He.ga K "Ledger") "members") x_dL_members := fun_of_D D_dL_members
  have B_dL_members : Binds K x_dL_members ["self", "k"] [] := F_dL_members.binds fun _ _ _ _ _ _ us hl => match us, hl with | [_, _], _ => rfl
  obtain ⟨x_dL_notes, D_dL_notes⟩ := d.def_ 51 (d := dL_notes) rfl
  have F_dL_notes : Fun K "notes" "Ledger.notes" sNotes (He.ma K (He.ga K "Ledger") "notes") x_dL_notes := fun_of_D D_dL_notes
  have B_dL_notes : Binds K x_dL_notes ["self", "k"] [] := F_dL_notes.binds fun _ _ _ _ _ _ us hl => match us, hl with | [_, _], _ => rfl
  obtain ⟨x_dL_cause, D_dL_cause⟩ := d.def_ 52 (d := dL_cause) rfl
  have F_dL_cause : Fun K "cause" "Ledger.cause" sCause (He.ma K (He.ga K "Ledger") "cause") x_dL_cause := fun_of_D D_dL_cause
  have B_dL_cause : Binds K x_dL_cause ["self", "k"] [] := F_dL_cause.binds fun _ _ _ _ _ _ us hl => match us, hl with | [_, _], _ => rfl
  obtain ⟨x_dL_at_work, D_dL_at_work⟩ := d.def_ 53 (d := dL_at_work) rfl
  have F_dL_at_work : Fun K "at_work" "Ledger.at_work" sAtWork (He.ma K (He.ga K "Ledger") "at_work") x_dL_at_work := fun_of_D D_dL_at_work
  have B_dL_at_work : Binds K x_dL_at_work ["self", "k"] [] := F_dL_at_work.binds fun _ _ _ _ _ _ us hl => match us, hl with | [_, _], _ => rfl
  obtain ⟨x_dL_note, D_dL_note⟩ := d.def_ 54 (d := dL_note) rfl
  have F_dL_note : Fun K "note" "Ledger.note" sNote (He.ma K (He.ga K "Ledger") "note") x_dL_note := fun_of_D D_dL_note
  have B_dL_note : Binds K x_dL_note ["self", "k", "text"] [] := F_dL_note.binds fun _ _ _ _ _ _ us hl => match us, hl with | [_, _, _], _ => rfl
  obtain ⟨x_dL_blame, D_dL_blame⟩ := d.def_ 55 (d := dL_blame) rfl
  have F_dL_blame : Fun K "blame" "Ledger.blame" sBlame (He.ma K (He.ga K "Ledger") "blame") x_dL_blame := fun_of_D D_dL_blame
  have B_dL_blame : Binds K x_dL_blame ["self", "k", "j"] [] := F_dL_blame.binds fun _ _ _ _ _ _ us hl => match us, hl with | [_, _, _], _ => rfl
  obtain ⟨x_dL_rise, D_dL_rise⟩ := d.def_ 56 (d := dL_rise) rfl
  have F_dL_rise : Fun K "rise" "Ledger.rise" sRise (He.ma K (He.ga K "Ledger") "rise") x_dL_rise := fun_of_D D_dL_rise
  have B_dL_rise : Binds K x_dL_rise ["self", "k", "j"] [] := F_dL_rise.binds fun _ _ _ _ _ _ us hl => match us, hl with | [_, _, _], _ => rfl
  obtain ⟨x_dL__add, D_dL__add⟩ := d.def_ 57 (d := dL__add) rfl
  have F_dL__add : Fun K "_add" "Ledger._add" sAdd (He.ma K (He.ga K "Ledger") "_add") x_dL__add := fun_of_D D_dL__add
  have B_dL__add : Binds K x_dL__add ["self", "kind", "text", "members"] [] := F_dL__add.binds fun _ _ _ _ _ _ us hl => match us, hl with | [_, _, _, _], _ => rfl
  obtain ⟨x_dL__cut_row, D_dL__cut_row⟩ := d.def_ 58 (d := dL__cut_row) rfl
  have F_dL__cut_row : Fun K "_cut_row" "Ledger._cut_row" sCut (He.ma K (He.ga K "Ledger") "_cut_row") x_dL__cut_row := fun_of_D D_dL__cut_row
  have B_dL__cut_row : Binds K x_dL__cut_row ["self", "j", "k"] [] := F_dL__cut_row.binds fun _ _ _ _ _ _ us hl => match us, hl with | [_, _, _], _ => rfl
  obtain ⟨x_dL__check_fault_or_none, D_dL__check_fault_or_none⟩ := d.def_ 59 (d := dL__check_fault_or_none) rfl
  have F_dL__check_fault_or_none : Fun K "_check_fault_or_none" "Ledger._check_fault_or_none" sChkN (He.ma K (He.ga K "Ledger") "_check_fault_or_none") x_dL__check_fault_or_none := fun_of_D D_dL__check_fault_or_none
  have B_dL__check_fault_or_none : Binds K x_dL__check_fault_or_none ["self", "j"] [] := F_dL__check_fault_or_none.binds fun _ _ _ _ _ _ us hl => match us, hl with | [_, _], _ => rfl
  obtain ⟨x_dL__check_fault, D_dL__check_fault⟩ := d.def_ 60 (d := dL__check_fault) rfl
  have F_dL__check_fault : Fun K "_check_fault" "Ledger._check_fault" sChkF (He.ma K (He.ga K "Ledger") "_check_fault") x_dL__check_fault := fun_of_D D_dL__check_fault
  have B_dL__check_fault : Binds K x_dL__check_fault ["self", "k"] [] := F_dL__check_fault.binds fun _ _ _ _ _ _ us hl => match us, hl with | [_, _], _ => rfl
  obtain ⟨x_dL__check_text, D_dL__check_text⟩ := d.def_ 61 (d := dL__check_text) rfl
  have F_dL__check_text : Fun K "_check_text" "Ledger._check_text" sChkT (He.ma K (He.ga K "Ledger") "_check_text") x_dL__check_text := fun_of_D D_dL__check_text
  have B_dL__check_text : Binds K x_dL__check_text ["self", "text"] [] := F_dL__check_text.binds fun _ _ _ _ _ _ us hl => match us, hl with | [_, _], _ => rfl
  obtain ⟨x_dL__check_members, D_dL__check_members⟩ := d.def_ 62 (d := dL__check_members) rfl
  have F_dL__check_members : Fun K "_check_members" "Ledger._check_members" sChkM (He.ma K (He.ga K "Ledger") "_check_members") x_dL__check_members := fun_of_D D_dL__check_members
  have B_dL__check_members : Binds K x_dL__check_members ["self", "members"] [] := F_dL__check_members.binds fun _ _ _ _ _ _ us hl => match us, hl with | [_, _], _ => rfl
  obtain ⟨x_dL_kinds, D_dL_kinds⟩ := d.def_ 63 (d := dL_kinds) rfl
  have F_dL_kinds : Fun K "kinds" "Ledger.kinds" sKdm (He.ma K (He.ga K "Ledger") "kinds") x_dL_kinds := fun_of_D D_dL_kinds
  have B_dL_kinds : Binds K x_dL_kinds ["self"] [] := F_dL_kinds.binds fun _ _ _ _ _ _ us hl => match us, hl with | [_], _ => rfl
  obtain ⟨x_dL_leaves, D_dL_leaves⟩ := d.def_ 64 (d := dL_leaves) rfl
  have F_dL_leaves : Fun K "leaves" "Ledger.leaves" sLvp (He.ma K (He.ga K "Ledger") "leaves") x_dL_leaves := fun_of_D D_dL_leaves
  have B_dL_leaves : Binds K x_dL_leaves ["self", "k"] [] := F_dL_leaves.binds fun _ _ _ _ _ _ us hl => match us, hl with | [_, _], _ => rfl
  obtain ⟨x_dL_like, D_dL_like⟩ := d.def_ 65 (d := dL_like) rfl
  have F_dL_like : Fun K "like" "Ledger.like" sLike (He.ma K (He.ga K "Ledger") "like") x_dL_like := fun_of_D D_dL_like
  have B_dL_like : Binds K x_dL_like ["self", "k", "members"] [] := F_dL_like.binds fun _ _ _ _ _ _ us hl => match us, hl with | [_, _, _], _ => rfl
  obtain ⟨x_dK_xinitx, D_dK_xinitx⟩ := d.def_ 66 (d := dK_xinitx) rfl
  have F_dK_xinitx : Fun K "__init__" "Kinds.__init__" sKInit (He.ma K (He.ga K "Kinds") "__init__") x_dK_xinitx := fun_of_D D_dK_xinitx
  have B_dK_xinitx : Binds K x_dK_xinitx ["self", "pairs"] [] := F_dK_xinitx.binds fun _ _ _ _ _ _ us hl => match us, hl with | [_, _], _ => rfl
  obtain ⟨x_dK_is_kind, D_dK_is_kind⟩ := d.def_ 67 (d := dK_is_kind) rfl
  have F_dK_is_kind : Fun K "is_kind" "Kinds.is_kind" sIsKind (He.ma K (He.ga K "Kinds") "is_kind") x_dK_is_kind := fun_of_D D_dK_is_kind
  have B_dK_is_kind : Binds K x_dK_is_kind ["self", "thing"] [] := F_dK_is_kind.binds fun _ _ _ _ _ _ us hl => match us, hl with | [_, _], _ => rfl
  obtain ⟨x_dK__check_new, D_dK__check_new⟩ := d.def_ 68 (d := dK__check_new) rfl
  have F_dK__check_new : Fun K "_check_new" "Kinds._check_new" sChkNew (He.ma K (He.ga K "Kinds") "_check_new") x_dK__check_new := fun_of_D D_dK__check_new
  have B_dK__check_new : Binds K x_dK__check_new ["self", "name", "above"] [] := F_dK__check_new.binds fun _ _ _ _ _ _ us hl => match us, hl with | [_, _, _], _ => rfl
  obtain ⟨x_dK__check, D_dK__check⟩ := d.def_ 69 (d := dK__check) rfl
  have F_dK__check : Fun K "_check" "Kinds._check" sKCk (He.ma K (He.ga K "Kinds") "_check") x_dK__check := fun_of_D D_dK__check
  have B_dK__check : Binds K x_dK__check ["self", "name"] [] := F_dK__check.binds fun _ _ _ _ _ _ us hl => match us, hl with | [_, _], _ => rfl
  obtain ⟨x_dK_stands_under, D_dK_stands_under⟩ := d.def_ 70 (d := dK_stands_under) rfl
  have F_dK_stands_under : Fun K "stands_under" "Kinds.stands_under" sStU (He.ma K (He.ga K "Kinds") "stands_under") x_dK_stands_under := fun_of_D D_dK_stands_under
  have B_dK_stands_under : Binds K x_dK_stands_under ["self", "name", "other"] [] := F_dK_stands_under.binds fun _ _ _ _ _ _ us hl => match us, hl with | [_, _, _], _ => rfl
  have z_isinstance : mg "isinstance" = none := He.free_ok X G (fct (.free "isinstance") (by simp [fa]))
  have z_int : mg "int" = none := He.free_ok X G (fct (.free "int") (by simp [fa]))
  have z_bool : mg "bool" = none := He.free_ok X G (fct (.free "bool") (by simp [fa]))
  have z_str : mg "str" = none := He.free_ok X G (fct (.free "str") (by simp [fa]))
  have z_len : mg "len" = none := He.free_ok X G (fct (.free "len") (by simp [fa]))
  have z_all : mg "all" = none := He.free_ok X G (fct (.free "all") (by simp [fa]))
  have z_max : mg "max" = none := He.free_ok X G (fct (.free "max") (by simp [fa]))
  have z_min : mg "min" = none := He.free_ok X G (fct (.free "min") (by simp [fa]))
  have z_range : mg "range" = none := He.free_ok X G (fct (.free "range") (by simp [fa]))
  have z_sum : mg "sum" = none := He.free_ok X G (fct (.free "sum") (by simp [fa]))
  have z_tuple : mg "tuple" = none := He.free_ok X G (fct (.free "tuple") (by simp [fa]))
  have z_list : mg "list" = none := He.free_ok X G (fct (.free "list") (by simp [fa]))
  have z_repr : mg "repr" = none := He.free_ok X G (fct (.free "repr") (by simp [fa]))
  have z_dict : mg "dict" = none := He.free_ok X G (fct (.free "dict") (by simp [fa]))
  have z_enumerate : mg "enumerate" = none := He.free_ok X G (fct (.free "enumerate") (by simp [fa]))
  have z_reversed : mg "reversed" = none := He.free_ok X G (fct (.free "reversed") (by simp [fa]))
  have z_sorted : mg "sorted" = none := He.free_ok X G (fct (.free "sorted") (by simp [fa]))
  have z_any : mg "any" = none := He.free_ok X G (fct (.free "any") (by simp [fa]))
  have z_zip : mg "zip" = none := He.free_ok X G (fct (.free "zip") (by simp [fa]))
  have g_is_whole : mg "is_whole" = some (.ref (He.ga K "is_whole")) := He.glo_ok X G (fct (.glo "is_whole") (by simp [fa]))
  have g_is_text : mg "is_text" = some (.ref (He.ga K "is_text")) := He.glo_ok X G (fct (.glo "is_text") (by simp [fa]))
  have g_is_name : mg "is_name" = some (.ref (He.ga K "is_name")) := He.glo_ok X G (fct (.glo "is_name") (by simp [fa]))
  have g__law_pot : mg "_law_pot" = some (.ref (He.ga K "_law_pot")) := He.glo_ok X G (fct (.glo "_law_pot") (by simp [fa]))
  have g__law_digit : mg "_law_digit" = some (.ref (He.ga K "_law_digit")) := He.glo_ok X G (fct (.glo "_law_digit") (by simp [fa]))
  have g__law_text : mg "_law_text" = some (.ref (He.ga K "_law_text")) := He.glo_ok X G (fct (.glo "_law_text") (by simp [fa]))
  have g__law_name : mg "_law_name" = some (.ref (He.ga K "_law_name")) := He.glo_ok X G (fct (.glo "_law_name") (by simp [fa]))
  have g__law_kinds : mg "_law_kinds" = some (.ref (He.ga K "_law_kinds")) := He.glo_ok X G (fct (.glo "_law_kinds") (by simp [fa]))
  have g__law_texts : mg "_law_texts" = some (.ref (He.ga K "_law_texts")) := He.glo_ok X G (fct (.glo "_law_texts") (by simp [fa]))
  have g__law_members : mg "_law_members" = some (.ref (He.ga K "_law_members")) := He.glo_ok X G (fct (.glo "_law_members") (by simp [fa]))
  have g__law_faults : mg "_law_faults" = some (.ref (He.ga K "_law_faults")) := He.glo_ok X G (fct (.glo "_law_faults") (by simp [fa]))
  have g__law_tower : mg "_law_tower" = some (.ref (He.ga K "_law_tower")) := He.glo_ok X G (fct (.glo "_law_tower") (by simp [fa]))
  have g__law_row : mg "_law_row" = some (.ref (He.ga K "_law_row")) := He.glo_ok X G (fct (.glo "_law_row") (by simp [fa]))
  have g__law_some : mg "_law_some" = some (.ref (He.ga K "_law_some")) := He.glo_ok X G (fct (.glo "_law_some") (by simp [fa]))
  have g__law_ledger : mg "_law_ledger" = some (.ref (He.ga K "_law_ledger")) := He.glo_ok X G (fct (.glo "_law_ledger") (by simp [fa]))
  have g__law_rise : mg "_law_rise" = some (.ref (He.ga K "_law_rise")) := He.glo_ok X G (fct (.glo "_law_rise") (by simp [fa]))
  have g__law_deed : mg "_law_deed" = some (.ref (He.ga K "_law_deed")) := He.glo_ok X G (fct (.glo "_law_deed") (by simp [fa]))
  have g__law_deeds : mg "_law_deeds" = some (.ref (He.ga K "_law_deeds")) := He.glo_ok X G (fct (.glo "_law_deeds") (by simp [fa]))
  have g__law_told : mg "_law_told" = some (.ref (He.ga K "_law_told")) := He.glo_ok X G (fct (.glo "_law_told") (by simp [fa]))
  have g__law_under : mg "_law_under" = some (.ref (He.ga K "_law_under")) := He.glo_ok X G (fct (.glo "_law_under") (by simp [fa]))
  have g__law_fits : mg "_law_fits" = some (.ref (He.ga K "_law_fits")) := He.glo_ok X G (fct (.glo "_law_fits") (by simp [fa]))
  have g__law_test : mg "_law_test" = some (.ref (He.ga K "_law_test")) := He.glo_ok X G (fct (.glo "_law_test") (by simp [fa]))
  have g_is_test : mg "is_test" = some (.ref (He.ga K "is_test")) := He.glo_ok X G (fct (.glo "is_test") (by simp [fa]))
  have g__is_single : mg "_is_single" = some (.ref (He.ga K "_is_single")) := He.glo_ok X G (fct (.glo "_is_single") (by simp [fa]))
  have g_check_test : mg "check_test" = some (.ref (He.ga K "check_test")) := He.glo_ok X G (fct (.glo "check_test") (by simp [fa]))
  have g_holds : mg "holds" = some (.ref (He.ga K "holds")) := He.glo_ok X G (fct (.glo "holds") (by simp [fa]))
  have g_part_at : mg "part_at" = some (.ref (He.ga K "part_at")) := He.glo_ok X G (fct (.glo "part_at") (by simp [fa]))
  have g__hand : mg "_hand" = some (.ref (He.ga K "_hand")) := He.glo_ok X G (fct (.glo "_hand") (by simp [fa]))
  have g_taken_out : mg "taken_out" = some (.ref (He.ga K "taken_out")) := He.glo_ok X G (fct (.glo "taken_out") (by simp [fa]))
  have g__check_tests : mg "_check_tests" = some (.ref (He.ga K "_check_tests")) := He.glo_ok X G (fct (.glo "_check_tests") (by simp [fa]))
  have g__first : mg "_first" = some (.ref (He.ga K "_first")) := He.glo_ok X G (fct (.glo "_first") (by simp [fa]))
  have g__law_leaves : mg "_law_leaves" = some (.ref (He.ga K "_law_leaves")) := He.glo_ok X G (fct (.glo "_law_leaves") (by simp [fa]))
  have g__law_whole : mg "_law_whole" = some (.ref (He.ga K "_law_whole")) := He.glo_ok X G (fct (.glo "_law_whole") (by simp [fa]))
  have g__law_part_right : mg "_law_part_right" = some (.ref (He.ga K "_law_part_right")) := He.glo_ok X G (fct (.glo "_law_part_right") (by simp [fa]))
  have g__law_top : mg "_law_top" = some (.ref (He.ga K "_law_top")) := He.glo_ok X G (fct (.glo "_law_top") (by simp [fa]))
  have g__law_tests : mg "_law_tests" = some (.ref (He.ga K "_law_tests")) := He.glo_ok X G (fct (.glo "_law_tests") (by simp [fa]))
  have g__law_shares : mg "_law_shares" = some (.ref (He.ga K "_law_shares")) := He.glo_ok X G (fct (.glo "_law_shares") (by simp [fa]))
  have g__law_hand_right : mg "_law_hand_right" = some (.ref (He.ga K "_law_hand_right")) := He.glo_ok X G (fct (.glo "_law_hand_right") (by simp [fa]))
  have g__law_taken_right : mg "_law_taken_right" = some (.ref (He.ga K "_law_taken_right")) := He.glo_ok X G (fct (.glo "_law_taken_right") (by simp [fa]))
  have g__law_plain_or_top : mg "_law_plain_or_top" = some (.ref (He.ga K "_law_plain_or_top")) := He.glo_ok X G (fct (.glo "_law_plain_or_top") (by simp [fa]))
  have g__law_right : mg "_law_right" = some (.ref (He.ga K "_law_right")) := He.glo_ok X G (fct (.glo "_law_right") (by simp [fa]))
  have g__law_anew_right : mg "_law_anew_right" = some (.ref (He.ga K "_law_anew_right")) := He.glo_ok X G (fct (.glo "_law_anew_right") (by simp [fa]))
  have g__law_round : mg "_law_round" = some (.ref (He.ga K "_law_round")) := He.glo_ok X G (fct (.glo "_law_round") (by simp [fa]))
  have g_law : mg "law" = some (.ref (He.ga K "law")) := He.glo_ok X G (fct (.glo "law") (by simp [fa]))
  have g_Ledger : mg "Ledger" = some (.ref (He.ga K "Ledger")) := He.glo_ok X G (fct (.glo "Ledger") (by simp [fa]))
  have cl_Ledger := He.cls_ok (fct (.cls "Ledger") (by simp [fa]))
  have mk_Ledger := He.mkr_ok (fct (.mkr "Ledger") (by simp [fa]))
  have g_Kinds : mg "Kinds" = some (.ref (He.ga K "Kinds")) := He.glo_ok X G (fct (.glo "Kinds") (by simp [fa]))
  have cl_Kinds := He.cls_ok (fct (.cls "Kinds") (by simp [fa]))
  have mk_Kinds := He.mkr_ok (fct (.mkr "Kinds") (by simp [fa]))
  have n0 := He.noat_ok (fct (.noat "Ledger" "_kinds") (by simp [fa]))
  have n1 := He.noat_ok (fct (.noat "Ledger" "_kind_of") (by simp [fa]))
  have n2 := He.noat_ok (fct (.noat "Ledger" "_text_of") (by simp [fa]))
  have n3 := He.noat_ok (fct (.noat "Ledger" "_members_of") (by simp [fa]))
  have n4 := He.noat_ok (fct (.noat "Ledger" "_notes_of") (by simp [fa]))
  have n5 := He.noat_ok (fct (.noat "Ledger" "_cause_of") (by simp [fa]))
  have n6 := He.noat_ok (fct (.noat "Ledger" "_at_work_of") (by simp [fa]))
  have nA := He.noat_ok (fct (.noat "Kinds" "_above") (by simp [fa]))
  have m_plain := He.meth_ok (fct (.meth "Ledger" "plain") (by simp [fa]))
  have m_sheaf := He.meth_ok (fct (.meth "Ledger" "sheaf") (by simp [fa]))
  have m_many := He.meth_ok (fct (.meth "Ledger" "many") (by simp [fa]))
  have m_kind := He.meth_ok (fct (.meth "Ledger" "kind") (by simp [fa]))
  have m_text := He.meth_ok (fct (.meth "Ledger" "text") (by simp [fa]))
  have m_members := He.meth_ok (fct (.meth "Ledger" "members") (by simp [fa]))
  have m_notes := He.meth_ok (fct (.meth "Ledger" "notes") (by simp [fa]))
  have m_cause := He.meth_ok (fct (.meth "Ledger" "cause") (by simp [fa]))
  have m_at_work := He.meth_ok (fct (.meth "Ledger" "at_work") (by simp [fa]))
  have m_note := He.meth_ok (fct (.meth "Ledger" "note") (by simp [fa]))
  have m_blame := He.meth_ok (fct (.meth "Ledger" "blame") (by simp [fa]))
  have m_rise := He.meth_ok (fct (.meth "Ledger" "rise") (by simp [fa]))
  have m__add := He.meth_ok (fct (.meth "Ledger" "_add") (by simp [fa]))
  have m__cut_row := He.meth_ok (fct (.meth "Ledger" "_cut_row") (by simp [fa]))
  have m__check_fault_or_none := He.meth_ok (fct (.meth "Ledger" "_check_fault_or_none") (by simp [fa]))
  have m__check_fault := He.meth_ok (fct (.meth "Ledger" "_check_fault") (by simp [fa]))
  have m__check_text := He.meth_ok (fct (.meth "Ledger" "_check_text") (by simp [fa]))
  have m__check_members := He.meth_ok (fct (.meth "Ledger" "_check_members") (by simp [fa]))
  have m_kinds := He.meth_ok (fct (.meth "Ledger" "kinds") (by simp [fa]))
  have m_leaves := He.meth_ok (fct (.meth "Ledger" "leaves") (by simp [fa]))
  have m_like := He.meth_ok (fct (.meth "Ledger" "like") (by simp [fa]))
  have k_is_kind := He.meth_ok (fct (.meth "Kinds" "is_kind") (by simp [fa]))
  have k__check_new := He.meth_ok (fct (.meth "Kinds" "_check_new") (by simp [fa]))
  have k__check := He.meth_ok (fct (.meth "Kinds" "_check") (by simp [fa]))
  have k_stands_under := He.meth_ok (fct (.meth "Kinds" "stands_under") (by simp [fa]))
  have g__TESTS_BEHIND : mg "_TESTS_BEHIND" = some (.ref (He.ga K "_TESTS_BEHIND")) := He.glo_ok X G (fct (.glo "_TESTS_BEHIND") (by simp [fa]))
  -- the law's own object, the code of is_name
  have efa : fa0 = He.ga K "law" := by
    have e := hfa.symm.trans g_law
    cases e
    rfl
  subst efa
  obtain ⟨oc, od, dV, kV, doc, pm, an, cdv, ct, osl, exl, lkl, hcl, hdl, _⟩ := D_d_law.ex
  obtain ⟨oc2, od2, dV2, kV2, doc2, pm2, an2, cdv2, ct2, osl2, exn, lkn, hcn, hdn, _⟩ := D_d_is_name.ex
  obtain ⟨co, eco⟩ := He.codeIn_ref hcn
  have eco2 : He.codeOf K ("is_name", none) = co := He.codeOf_eq (p := ("is_name", none)) lkn (by rw [exn]; exact eco)
  have hd1 := c.hd ("is_name", none) List.mem_cons_self
  have hd2 := c.out ("is_name", none) List.mem_cons_self
  have hd3 := c.empty ("is_name", none) List.mem_cons_self
  have ecT : (He.cT K ("is_name", none)).1 = co := eco2
  rw [ecT] at hd1
  subst exl exn eco
  refine ⟨co, (He.cT K ("is_name", none)).2, dV, kV, doc, pm, cdv, ct, oc, an, od, osl, lkl, hcl, fun s u => ?_, hd3, hd2, hd1, ?_⟩
  · have hdV : dV = .none := by
      rcases hdl with q | q
      · exact q.2
      · exact (q.1 rfl).elim
    subst hdV
    exact .of_eq rfl
  intro base kB TB A0 outer s H vs Q Es hg hr hsp
  have TK : KTxt K mg (He.ga K "Kinds") (He.ma K (He.ga K "Kinds") "__init__") (He.ma K (He.ga K "Kinds") "is_kind") (He.ma K (He.ga K "Kinds") "_check_new") := ⟨cl_Kinds, nA, k_is_kind, k__check_new⟩
  have TL' : LTxt K mg (He.ga K "Ledger") (He.ma K (He.ga K "Ledger") "_add") (He.ma K (He.ga K "Ledger") "_check_fault") (He.ma K (He.ga K "Ledger") "_check_text") (He.ma K (He.ga K "Ledger") "_check_members") :=
    ⟨cl_Ledger, n0, n1, n2, n3, n4, n5, n6, m__add, m__check_fault, m__check_text, m__check_members, z_len, z_tuple, z_list⟩
  have oPot := ok_pot (P := P) (w := w) (base := base) F_d__law_pot z_len z_max
  have oDig := ok_digit (P := P) (w := w) (mg := mg) (base := base) F_d__law_digit
  have oName := ok_name F_d__law_name oDig g__law_digit F_d__law_digit.kp B_d__law_digit z_range
  have oText := ok_text F_d__law_text oDig g__law_digit F_d__law_digit.kp B_d__law_digit z_range z_int
  have oWhole := ok_whole (P := P) (w := w) (base := base) F_d_is_whole z_isinstance z_int z_bool
  have oIsText := ok_isText (P := P) (w := w) (base := base) F_d_is_text z_isinstance z_str
  have oIsName := ok_isName lkn hcn TB oIsText g_is_text F_d_is_text.kp B_d_is_text z_len z_all
  have oIsKind := ok_isKind F_dK_is_kind TK oIsText g_is_text F_d_is_text.kp B_d_is_text
  have oChkNew := ok_chkNew F_dK__check_new TK oIsName g_is_name F_d_is_name.kp B_d_is_name oIsKind B_dK_is_kind
  have oKInit := ok_kInit F_dK_xinitx TK oChkNew B_dK__check_new
  have oChkF := ok_chkF F_dL__check_fault TL' oWhole g_is_whole F_d_is_whole.kp B_d_is_whole
  have oChkT := ok_chkT (C := He.ga K "Ledger") F_dL__check_text oIsText g_is_text F_d_is_text.kp B_d_is_text
  have oMany := ok_many (P := P) (w := w) (base := base) F_dL_many TL'
  have oKind := ok_kind F_dL_kind TL' oChkF B_dL__check_fault
  have oTextM := ok_textM F_dL_text TL' oChkF B_dL__check_fault
  have oCause := ok_cause F_dL_cause TL' oChkF B_dL__check_fault
  have oAtWork := ok_atWork F_dL_at_work TL' oChkF B_dL__check_fault
  have oMembers := ok_members F_dL_members TL' oChkF B_dL__check_fault
  have oNotes := ok_notes F_dL_notes TL' oChkF B_dL__check_fault
  have oAdd := ok_add (P := P) (w := w) (base := base) F_dL__add TL'
  have oChkM := ok_chkM F_dL__check_members TL' oChkF B_dL__check_fault
  have oPlain := ok_plain F_dL_plain TL' TK oIsKind B_dK_is_kind oChkT B_dL__check_text oAdd B_dL__add
  have oSheaf := ok_sheaf F_dL_sheaf TL' oChkT B_dL__check_text oChkM B_dL__check_members oAdd B_dL__add
  have oLInit := ok_lInit (P := P) (w := w) (base := base) F_dL_xinitx TL'
  have oChkN := ok_chkN F_dL__check_fault_or_none TL' oChkF B_dL__check_fault
  have oCut := ok_cut (P := P) (w := w) (base := base) F_dL__cut_row TL'
  have oRise := ok_rise F_dL_rise TL' oChkF B_dL__check_fault m__check_fault_or_none oChkN B_dL__check_fault_or_none m__cut_row oCut B_dL__cut_row
  have oBlame := ok_blame F_dL_blame TL' oChkF B_dL__check_fault m__check_fault_or_none oChkN B_dL__check_fault_or_none
  have oNote := ok_note F_dL_note TL' oChkF B_dL__check_fault oChkT B_dL__check_text
  have TX : GLx K mg (He.ga K "Ledger") (He.ga K "Kinds") _ _ _ _ := ⟨cl_Ledger, g_Ledger, g_Kinds, mk_Ledger, mk_Kinds, m_plain, m_sheaf, z_list⟩
  have oLedg := ok_ledg F_d__law_ledger TX oLInit B_dL_xinitx oKInit B_dK_xinitx oPlain B_dL_plain oSheaf B_dL_sheaf

  have oKds := ok_kds F_d__law_kinds oDig g__law_digit F_d__law_digit.kp B_d__law_digit oName g__law_name F_d__law_name.kp B_d__law_name z_len z_range
  have oTxs := ok_txs F_d__law_texts oText g__law_text F_d__law_text.kp B_d__law_text
  have oMem := ok_mem F_d__law_members oDig g__law_digit F_d__law_digit.kp B_d__law_digit z_min z_range
  have TF : FTxt K mg _ _ := ⟨g__law_digit, F_d__law_digit.kp, g__law_members, F_d__law_members.kp, z_sum, z_max, z_range, z_len⟩
  have oFts := ok_fts F_d__law_faults TF oMem B_d__law_members oDig B_d__law_digit
  have oTow := ok_tow F_d__law_tower oDig g__law_digit F_d__law_digit.kp B_d__law_digit oFts g__law_faults F_d__law_faults.kp B_d__law_faults z_len z_range
  have oRowL := ok_rowL F_d__law_row oDig g__law_digit F_d__law_digit.kp B_d__law_digit z_len z_range z_list
  have TS : STxt K mg _ _ _ _ := ⟨g__law_digit, F_d__law_digit.kp, g__law_tower, F_d__law_tower.kp, g__law_row, F_d__law_row.kp, g__law_faults, F_d__law_faults.kp⟩
  have oSome := ok_some F_d__law_some TS oDig B_d__law_digit oTow B_d__law_tower oRowL B_d__law_row oFts B_d__law_faults
  have oRiL := ok_riL (P := P) (w := w) (base := base) F_d__law_rise z_len z_range
  have TDA : DATx K mg (He.ga K "Ledger") _ _ _ _ _ := ⟨cl_Ledger, m_blame, m_note, m_rise, g__law_digit, F_d__law_digit.kp, g__law_rise, F_d__law_rise.kp, z_len⟩
  have oDeA := ok_deA (CK := He.ga K "Kinds") F_d__law_deed TDA oDig B_d__law_digit oRiL B_d__law_rise oBlame B_dL_blame oNote B_dL_note oRise B_dL_rise
  have oDsA := ok_dsA F_d__law_deeds oDig g__law_digit F_d__law_digit.kp B_d__law_digit oDeA g__law_deed F_d__law_deed.kp B_d__law_deed z_len z_range
  have TG : GTxt K (He.ga K "Ledger") _ _ _ _ _ _ _ := ⟨m_many, m_kind, m_text, m_members, m_notes, m_cause, m_at_work⟩
  have oToA := ok_toldA F_d__law_told cl_Ledger TG z_range oKind B_dL_kind oTextM B_dL_text oMembers B_dL_members oNotes B_dL_notes oCause B_dL_cause oAtWork B_dL_at_work
  have oUnd := ok_und (P := P) (w := w) (base := base) F_d__law_under z_dict z_len z_range
  have oFit := ok_fit F_d__law_fits g__law_fits F_d__law_fits.kp B_d__law_fits oUnd g__law_under F_d__law_under.kp B_d__law_under
  have oTst := ok_tst F_d__law_test g__law_test F_d__law_test.kp B_d__law_test oDig g__law_digit F_d__law_digit.kp B_d__law_digit z_len
  have mo := c.more
  unfold exB at mo
  simp only [Bool.and_eq_true, decide_eq_true_eq] at mo
  obtain ⟨x1, x2, x3, x4, x5, x6⟩ := mo
  have TB2 : TBx K mg w (He.ga K "_TESTS_BEHIND") := ⟨g__TESTS_BEHIND, c.t.tab 0, intB_ok x1, intB_ok x2, intB_ok x3, x4, x5, x6⟩
  have oKCk := ok_kCk F_dK__check TK oIsKind B_dK_is_kind
  have oStU := ok_stU F_dK_stands_under TK k__check oKCk B_dK__check
  have oKdm := ok_kdm (P := P) (w := w) (base := base) F_dL_kinds TL'
  have oSing := ok_sing F_d__is_single TK oIsKind B_dK_is_kind oIsText g_is_text F_d_is_text.kp B_d_is_text z_len
  have oIsT := ok_isT F_d_is_test TB2 oSing g__is_single F_d__is_single.kp B_d__is_single oIsText g_is_text F_d_is_text.kp B_d_is_text z_len z_isinstance z_tuple
  have TH : HTxt K mg (He.ga K "Ledger") (He.ga K "Kinds") _ _ _ _ _ := ⟨cl_Ledger, cl_Kinds, m_kind, m_text, m_notes, m_kinds, k_stands_under⟩
  have oChT := ok_chT F_d_check_test TH oIsT g_is_test F_d_is_test.kp B_d_is_test oKdm B_dL_kinds
  have oHol := ok_hol F_d_holds g_holds F_d_holds.kp B_d_holds TH oKind B_dL_kind oTextM B_dL_text oNotes B_dL_notes oKdm B_dL_kinds oStU B_dK_stands_under
  have oDeB := ok_deB (C := He.ga K "Ledger") (CK := He.ga K "Kinds") F_d__law_deed TDA oDig B_d__law_digit oRiL B_d__law_rise oBlame B_dL_blame oNote B_dL_note oRise B_dL_rise
  have oLvp := ok_lvp F_dL_leaves TL' oChkF B_dL__check_fault z_range z_reversed
  have oLike := ok_like F_dL_like TL' oChkF B_dL__check_fault oChkM B_dL__check_members oAdd B_dL__add
  have TPT : PTx K mg (He.ga K "Ledger") _ _ _ _ := ⟨cl_Ledger, m_leaves, m_members, m_like, g_part_at, F_d_part_at.kp, z_len, z_sorted⟩
  have oPat := ok_pat F_d_part_at TPT B_d_part_at oLvp B_dL_leaves oMembers B_dL_members oLike B_dL_like
  have oLvs := ok_lvs (P := P) (w := w) (base := base) F_d__law_leaves z_enumerate
  have oWhL := ok_whL (P := P) (w := w) (base := base) F_d__law_whole z_isinstance z_int z_bool
  have TPR : PRx K mg (He.ga K "Ledger") _ _ _ _ _ _ _ _ _ := ⟨cl_Ledger, m_kind, m_text, m_members, m_notes, m_cause, m_at_work, g__law_leaves, F_d__law_leaves.kp, g__law_whole, F_d__law_whole.kp, g__law_part_right, F_d__law_part_right.kp, z_len, z_range, z_any, z_zip, z_repr⟩
  have oPRt := ok_prt (CK := He.ga K "Kinds") F_d__law_part_right TPR B_d__law_part_right oLvs B_d__law_leaves oWhL B_d__law_whole oKind B_dL_kind oTextM B_dL_text oMembers B_dL_members oNotes B_dL_notes oCause B_dL_cause oAtWork B_dL_at_work
  have oTop := ok_top F_d__law_top oDig g__law_digit F_d__law_digit.kp B_d__law_digit z_len
  have oCks := ok_cks F_d__check_tests oChT g_check_test F_d_check_test.kp B_d_check_test
  have oFst := ok_fst F_d__first (oHol 10) g_holds F_d_holds.kp B_d_holds z_enumerate
  have THn : HnTx K mg (He.ga K "Ledger") _ _ _ := ⟨cl_Ledger, m_kind, m_sheaf, g_part_at, F_d_part_at.kp⟩
  have oHnd := ok_hnd F_d__hand THn oKind B_dL_kind oSheaf B_dL_sheaf (oPat 16) B_d_part_at
  have TTk : TkTx K mg (He.ga K "Ledger") _ _ _ _ _ := ⟨cl_Ledger, m_leaves, g__check_tests, F_d__check_tests.kp, g__first, F_d__first.kp, g__hand, F_d__hand.kp, g_part_at, F_d_part_at.kp⟩
  have oTko := ok_tko F_d_taken_out TTk oLvp B_dL_leaves oCks B_d__check_tests oFst B_d__first oHnd B_d__hand (oPat 16) B_d_part_at
  have oTsts := ok_tsts (C := He.ga K "Ledger") (CK := He.ga K "Kinds") F_d__law_tests oDig g__law_digit F_d__law_digit.kp B_d__law_digit (oTst 3) g__law_test F_d__law_test.kp B_d__law_test oLvs g__law_leaves F_d__law_leaves.kp B_d__law_leaves z_len z_range
  have oShr := ok_shr (C := He.ga K "Ledger") (CK := He.ga K "Kinds") F_d__law_shares oLvs g__law_leaves F_d__law_leaves.kp B_d__law_leaves (oFit 10) g__law_fits F_d__law_fits.kp B_d__law_fits z_len z_range
  have oToF := ok_toF F_d__law_told cl_Ledger TG z_range oKind B_dL_kind oTextM B_dL_text oMembers B_dL_members oNotes B_dL_notes oCause B_dL_cause oAtWork B_dL_at_work
  have oHdR := ok_hdr (CK := He.ga K "Kinds") F_d__law_hand_right TPR (oPRt 16) B_d__law_part_right oWhL B_d__law_whole oKind B_dL_kind oTextM B_dL_text oMembers B_dL_members oNotes B_dL_notes oCause B_dL_cause oAtWork B_dL_at_work
  have TTR : TRx K mg _ _ _ := ⟨g__law_shares, F_d__law_shares.kp, g__law_hand_right, F_d__law_hand_right.kp, g__law_part_right, F_d__law_part_right.kp, z_isinstance, z_tuple, z_list, z_len, z_zip⟩
  have oTkR := ok_tkr (C := He.ga K "Ledger") (CK := He.ga K "Kinds") F_d__law_taken_right TTR oShr B_d__law_shares oHdR B_d__law_hand_right (oPRt 16) B_d__law_part_right
  have TR : RTx K mg (He.ga K "Ledger") _ _ _ _ := ⟨cl_Ledger, m_many, g__law_told, F_d__law_told.kp, g_taken_out, F_d_taken_out.kp, g__law_taken_right, F_d__law_taken_right.kp, z_list, z_len, z_repr⟩
  have oRt := ok_rt F_d__law_right TR oMany B_dL_many oToF B_d__law_told oTko B_d_taken_out oTkR B_d__law_taken_right
  have TPo : PoTx K mg _ _ := ⟨g__law_digit, F_d__law_digit.kp, g__law_top, F_d__law_top.kp, z_len, z_range⟩
  have oPo := ok_pot2 (C := He.ga K "Ledger") (CK := He.ga K "Kinds") F_d__law_plain_or_top TPo oDig B_d__law_digit oTop B_d__law_top
  have TAn : ANx K mg (He.ga K "Ledger") _ _ _ _ _ _ := ⟨cl_Ledger, m_many, g__law_digit, F_d__law_digit.kp, g_taken_out, F_d_taken_out.kp, g__law_tests, F_d__law_tests.kp, g__law_told, F_d__law_told.kp, g__law_right, F_d__law_right.kp, z_list, z_len⟩
  have oAn := ok_an F_d__law_anew_right TAn oMany B_dL_many oDig B_d__law_digit oTko B_d_taken_out oTsts B_d__law_tests oToF B_d__law_told oRt B_d__law_right
  have TN2 : NTx K mg _ _ _ _ _ _ _ _ _ _ _ _ := ⟨g__law_kinds, F_d__law_kinds.kp, g__law_texts, F_d__law_texts.kp, g__law_some, F_d__law_some.kp, g__law_ledger, F_d__law_ledger.kp, g__law_deeds, F_d__law_deeds.kp, g__law_plain_or_top, F_d__law_plain_or_top.kp, g__law_tests, F_d__law_tests.kp, g__law_right, F_d__law_right.kp, g__law_leaves, F_d__law_leaves.kp, g__law_deed, F_d__law_deed.kp, g__law_digit, F_d__law_digit.kp, g__law_anew_right, F_d__law_anew_right.kp, z_len, z_range⟩
  have oRnd := ok_rnd F_d__law_round TN2 oKds B_d__law_kinds oTxs B_d__law_texts oSome B_d__law_some oLedg B_d__law_ledger oDsA B_d__law_deeds oPo B_d__law_plain_or_top oTsts B_d__law_tests oRt B_d__law_right oLvs B_d__law_leaves oDeB B_d__law_deed oDig B_d__law_digit oAn B_d__law_anew_right
  have TA : ATxt K mg _ _ := ⟨g__law_pot, F_d__law_pot.kp, g__law_round, F_d__law_round.kp, z_len, z_max, z_min, z_range, z_all⟩
  exact law_body (by decide) TA oPot B_d__law_pot oRnd B_d__law_round cdv A0 outer s H vs Q Es hg hr hsp
end
end Fs
open PySem PySem.W PySem.Calls PyProof.Rows
set_option maxHeartbeats 0 in
theorem PySem.Challenge.cw_faultsheaves_k52_hands_holds : PySem.Challenge.rw_faultsheaves_k52_hands.Holds := by
  w_on; o_law
  refine HandSHeadRun.head_any (r := OpenLaw.row PySem.Challenge.rw_faultsheaves_k52_hands) (q := view (OpenLaw.row PySem.Challenge.rw_faultsheaves_k52_hands).prog [61]) (H := Fs.hk) (ob := Fs.ob) (M := 9000) (loose := Fs.loose) (d := HandSHeadRun.topDef (OpenLaw.row PySem.Challenge.rw_faultsheaves_k52_hands).prog 61) (kwd := []) Fs.ob_eq
    (by kernel_rfl) (fun s => by kernel_rfl) Fs.run (by kernel_rfl) (by kernel_rfl) (by kernel_rfl) (by rfl) (by first | assumption | decide +kernel) (by decide +kernel) ⟨rfl, rfl, rfl, rfl, rfl, by decide +kernel⟩ ?hw ?hc
  case hw => w_witness2
  case hc =>
    refine Att.attach_callB (l := PySem.Challenge.rw_faultsheaves_k52_hands) (n := 63) rfl (by kernel_rfl) fun w s₀ s₁ mg mb fa o pm cd doc a vs ns G Y ho hd hcd hmg hobj hints hlen hbits hg => ?_
    obtain ⟨K, KX, c⟩ := Y
    have hmg' : mg ("law" : PySem.Str) = some (.ref fa) := by
      have e : (HandSHeadRun.topDef (OpenLaw.row PySem.Challenge.rw_faultsheaves_k52_hands).prog 61).name = ("law" : PySem.Str) := by kernel_rfl
      rw [← e]
      exact hmg
    obtain ⟨co, Pt, dV, kV, doc', pm', cdv, ct, oc, an, od, osl, lk, hc', bd, hT, nT, hh, body⟩ := Fs.all (P := (PySem.Challenge.rw_faultsheaves_k52_hands).prog) (w := w) KX G.T.g hmg' c
    exact Fs.law_here lk hc' ⟨rfl, by decide, by decide⟩ bd KX G.T.g G.T.b G.T.builtins G.T.nolimit hg hT nT hh G.T.bmain hobj hints hlen body
